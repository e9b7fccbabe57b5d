
import Derived.Test.YtboiknllmnfipaaGreatDoorZU6
import Derived.Deep.MidRow
import Derived.Test.YtboiknllmnfipaaGreatDoorZU8
import Derived.Test.YtboiknllmnfipaaGreatDoorZHSpecW
import Derived.Test.YtboiknllmnfipaaGreatDoorZU7
/- A struct is stored into a box: as one step. -/
namespace Go.Proofs.YtboiknllmnfipaaGreatDoor
open Go.RowKit
theorem J1 (w:World) (t t' : TypeId) (b n:Nat) (cs:Array Value) (f:Nat->Value) (hR:w.rowIs b t' n f) (hn:cs.size=n) (hi:(Tryz.prog.info? t).map (·.size)=some n) (h1:cs.all (·.oneCell')=true) :
  (Instr.storeAt t (.pointer (some ⟨b,0,none⟩)) (.agg cs)).run Tryz.prog w=.ok () (w.setRow b cs):=by
 obtain ⟨cur,hb,hc,_⟩:=hR
 have hst:=run_storeCells_at Tryz.prog b 0 t' cs.toList 0 cur w hb (by simp;omega) (fun v hv=>by
  have q:=Array.all_eq_true'.1 h1 v (by simpa using hv)
  exact q)
 have e:(cur.toList.take (0+0) ++ cs.toList ++ cur.toList.drop (0+0+cs.toList.length)).toArray=cs:=by
  rw [Nat.add_zero,List.take_zero,List.nil_append,List.drop_eq_nil_of_le (by simp;omega)]
  simp
 rw [e] at hst
 obtain ⟨i,hi',hs⟩:=Option.map_eq_some_iff.1 hi
 simp [Instr.storeAt,Instr.sureAddr,storeVar,sizeOf,typeInfo,hi',hs,hn,Value.cells,hst]
theorem Ol (w:World) (b t n:Nat) (cs:Array Value) (f:Nat->Value) (hR:w.rowIs b t n f) (hn:cs.size=n):(w.setRow b cs).rowIs b t n (fun i=>cs[i]?.getD undef):=by
 obtain ⟨cur,hb,hc,_⟩:=hR
 exact ⟨cs,setRow_heap w b cur _ t _ hb,hn,fun i hi=>by
  have q:i<cs.size:=by omega
  simp [q]⟩
theorem C9 {ops:Array Oper} {rest:List Oper} {o:Oper} {a:Act} {Q:Exit->Act->World->Prop} (w:World) (hgd:o.guard=none) (p s:Operand) (t:TypeId)
  (ho:o.op=.store t p s) (t' : TypeId) (b n:Nat) (cs:Array Value) (f:Nat->Value) (hp:a.eval p=.pointer (some ⟨b,0,none⟩)) (hs:a.eval s=.agg cs) (hR:w.rowIs b t' n f) (hn:cs.size=n)
  (hi:(Tryz.prog.info? t).map (·.size)=some n) (h1:cs.all (·.oneCell')=true)
  (h:∀ w',w'.rowIs b t' n (fun i=>cs[i]?.getD undef)->w.grownBy w' (some b)->wpList Tryz.prog ops Q rest (a.put o.dst undef) w'):wpList Tryz.prog ops Q (o::rest) a w:=by
 refine wpList_plain hgd fun K hK=>?_
 have hrun:=J1 w t t' b n cs f hR hn hi h1
 unfold Oper.wp
 simp [execOp,ho,hp,hs,hrun,Result.andThen]
 exact hK _ _ (h _ (Ol w b t' n cs f hR hn) (I6 w b cs))
end Go.Proofs.YtboiknllmnfipaaGreatDoor
/- The program's draft of a heap, and back. -/
namespace Go.Proofs.YtboiknllmnfipaaGreatDoor
open Go.RowKit
end Go.Proofs.YtboiknllmnfipaaGreatDoor
/- The program's draft: its words that fit, its heap. -/
namespace Go.Proofs.YtboiknllmnfipaaGreatDoor
open Go.RowKit
end Go.Proofs.YtboiknllmnfipaaGreatDoor
/- AddRoot of the program. -/
namespace Go.Proofs.YtboiknllmnfipaaGreatDoor
open Go.RowKit
theorem Jcu {h:Hp} {x:Int} (k:Pu h x=false):Y8 h x=Pz:=by unfold Y8;rw [k];rfl
theorem Jjw {h:Hp} {x:Int} (k:Pu h x=true):Y8 h x = { h with roots:=h.roots ++ [x] }:=by unfold Y8;rw [k];rfl
theorem Jkz (w:World) (x:Int):RI (w.alloc (.cells #[.int .i64 x] 2)) w.heap.size [x] 1:=by
 refine ⟨fun _=>.int .i64 x,World.rowIs_alloc w #[.int .i64 x] 2 _ (fun i hi=>?_),by simp,fun i hi=>?_⟩
 ·have:i=0:=by simp at hi;omega
  subst this
  rfl
 ·have:i=0:=by simp at hi;omega
  subst this
  rfl
end Go.Proofs.YtboiknllmnfipaaGreatDoor
/- SetRoot of the program. -/
namespace Go.Proofs.YtboiknllmnfipaaGreatDoor
open Go.RowKit
theorem Jdq {h:Hp} {i x:Int} (k:Vr h i x=false):Jbd h i x=Pz:=by unfold Jbd;rw [k];rfl
theorem Jjm {h:Hp} {i x:Int} (k:Vr h i x=true):Jbd h i x = { h with roots:=h.roots.set i.toNat x }:=by unfold Jbd;rw [k];rfl
end Go.Proofs.YtboiknllmnfipaaGreatDoor
/- copy into a row of the call's own, as an operation of a region. -/
namespace Go.Proofs.YtboiknllmnfipaaGreatDoor
open Go.RowKit
theorem Jem (w:World) (a b c d:Int):RI (w.alloc (.cells #[.int .i64 a,.int .i64 b,.int .i64 c,.int .i64 d] 2)) w.heap.size [a,b,c,d] 4:=by
 have q:=I0 w #[.int .i64 a,.int .i64 b,.int .i64 c,.int .i64 d] 2
 refine ⟨_,q,by simp,fun i hi=>?_⟩
 simp only [List.length_cons,List.length_nil] at hi
 rcases i with _|_|_|_|i
 ·rfl
 ·rfl
 ·rfl
 ·rfl
 ·omega
theorem Zc {o:Oper} (ev:Operand->Value) (w w' : World) (d s:Operand) (ho:o.op=.call { callee:=.builtin .copy,args:=#[d,s],argTypes:=#[24,24] }) (dv sv r:Value) (hd:ev d=dv) (hs:ev s=sv)
  (h:(Builtin.copy_ #[24,24] o.type #[dv,sv]).run Tryz.prog w=.ok r w'):(execOp ev o).run Tryz.prog w=.ok (.value r) w':=by
 simp [execOp,ho,resolve,invoke,builtin,hd,hs,h,Result.andThen]
theorem Jhd {w:World} (ty:TypeId) (g off dLen dCap:Nat) (W:List Int) (c:Nat) (hrow:RI w g W c) (hW:off+dLen<=W.length) (l:List Int) (b sCap:Nat) (hsv:RI w b l sCap) (hl:l.length<=dLen) :
  ∃ w',(Builtin.copy_ #[24,24] ty #[.slice (some ⟨g,off,none⟩) dLen dCap,.slice (some ⟨b,0,none⟩) l.length sCap]).run Tryz.prog w=.ok (goInt l.length) w' /\ RI w' g (splice W off l) c/\w.grownBy w' (some g)/\w'.heap.size=w.heap.size:=by
 have hsz:(Tryz.prog.info? 2).map (·.size)=some 1:=by kernel_rfl
 obtain ⟨f,⟨cur,hg,hcs,hcf⟩,hN,e⟩:=hrow
 have hcl:=Od l
 have hr:=run_copy_row (P:=Tryz.prog) w 24 24 ty 2 g off dLen dCap ⟨b,0,none⟩ l.length sCap cur 2 (icells l) Tryz.underlying24 hsz hg (by rw [hcl];exact (Nat.min_eq_left hl).symm) (fun j v hj=>?_) (by omega) (fun v hv=>?_)
 ·rw [hcl] at hr
  have R:=Uj (w:=w) (g:=g) (off:=off) (W:=W) (l:=l) hg (by omega) (fun i hi=>by rw [hcf i (by omega),e i hi]) (by omega)
  rw [hcl,hcs] at R
  rw [List.append_assoc] at hr
  exact ⟨_,hr,R,I6 w g _,by simp [World.setRow]⟩
 ·have hj' : j<l.length:=by
   rcases Nat.lt_or_ge j l.length with k|k
   ·exact k
   ·rw [List.getElem?_eq_none (by omega)] at hj;cases hj
  have hv:v=.int .i64 (l.getD j 0):=by
   simp [icells,hj'] at hj
   rw [<- hj]
   simp [hj']
  rw [hv,← hsv.cell hj']
  unfold Addr.add
  split
  ·subst j;rfl
  ·simp
 ·obtain ⟨z,_,rfl⟩:=List.mem_map.1 hv
  rfl
theorem Jfh {w:World} (ty:TypeId) (g off dLen dCap:Nat) (W:List Int) (c:Nat) (hrow:RI w g W c) (hW:off+dLen<=W.length) (l:List Int) (sp:Option Addr) (n sCap:Nat) (hn:n=l.length) (hsv:IR w (.slice sp n sCap) l) (hl:l.length<=dLen) :
  ∃ w',(Builtin.copy_ #[24,24] ty #[.slice (some ⟨g,off,none⟩) dLen dCap,.slice sp n sCap]).run Tryz.prog w=.ok (goInt l.length) w' /\ RI w' g (splice W off l) c/\w.grownBy w' (some g)/\w'.heap.size=w.heap.size:=by
 subst hn
 have hsz:(Tryz.prog.info? 2).map (·.size)=some 1:=by kernel_rfl
 by_cases h0:l.length=0
 ·obtain rfl:l=[]:=List.eq_nil_of_length_eq_zero h0
  have hr:=run_copy_none (P:=Tryz.prog) w 24 24 ty 2 (some ⟨g,off,none⟩) sp dLen dCap 0 sCap Tryz.underlying24 hsz (by simp)
  refine ⟨w,hr,?_,⟨rfl,rfl,rfl,Nat.le_refl _,fun _ _ _=>rfl⟩,rfl⟩
  rw [show splice W off []=W from by simp [splice]]
  exact hrow
 ·obtain ⟨ao,cap,e1,_,hc⟩:=hsv
  simp only [Value.slice.injEq,true_and] at e1
  obtain ⟨rfl,rfl⟩:=e1
  obtain ⟨b,q,rfl,_⟩:=hc 0 (by omega)
  obtain ⟨f,⟨cur,hg,hcs,hcf⟩,hN,e⟩:=hrow
  have hcl:=Od l
  have hr:=run_copy_row (P:=Tryz.prog) w 24 24 ty 2 g off dLen dCap ⟨b,q,none⟩ l.length sCap cur 2 (icells l) Tryz.underlying24 hsz hg (by rw [hcl];exact (Nat.min_eq_left hl).symm) (fun j v hj=>?_) (by omega) (fun v hv=>?_)
  ·rw [hcl] at hr
   have R:=Uj (w:=w) (g:=g) (off:=off) (W:=W) (l:=l) hg (by omega) (fun i hi=>by rw [hcf i (by omega),e i hi]) (by omega)
   rw [hcl,hcs] at R
   rw [List.append_assoc] at hr
   exact ⟨_,hr,R,I6 w g _,by simp [World.setRow]⟩
  ·have hj' : j<l.length:=by
    rcases Nat.lt_or_ge j l.length with k|k
    ·exact k
    ·rw [List.getElem?_eq_none (by omega)] at hj;cases hj
   obtain ⟨b',q',e2,hcell⟩:=hc j hj'
   simp only [Option.some.injEq,Addr.mk.injEq,and_true] at e2
   obtain ⟨rfl,rfl⟩:=e2
   have hv:v=.int .i64 (l.getD j 0):=by
    simp [icells,hj'] at hj
    rw [<- hj]
    simp [hj']
   rw [hv,← hcell]
   unfold Addr.add
   split
   ·subst j;rfl
   ·simp
  ·obtain ⟨z,_,rfl⟩:=List.mem_map.1 hv
   rfl
end Go.Proofs.YtboiknllmnfipaaGreatDoor
/- An object's header is laid down by the program. -/
namespace Go.Proofs.YtboiknllmnfipaaGreatDoor
open Go.RowKit
end Go.Proofs.YtboiknllmnfipaaGreatDoor
/- New of the program. -/
namespace Go.Proofs.YtboiknllmnfipaaGreatDoor
open Go.RowKit
theorem Yh {h:Hp} {k n:Int} (q:Qi h k n=false):Xx h k n=Pz:=by unfold Xx;rw [q];rfl
theorem Xg {h:Hp} {k n:Int} (q:Qi h k n=false):T5 h k n=0:=by unfold T5;rw [q];rfl
theorem Jev {h:Hp} {k n:Int} (q:Qi h k n=true):Xx h k n=N7 h k n:=by unfold Xx;rw [q];rfl
theorem Jlw {h:Hp} {k n:Int} (q:Qi h k n=true):T5 h k n=2 * h.eden+1:=by unfold T5;rw [q];rfl
end Go.Proofs.YtboiknllmnfipaaGreatDoor
/- l7Word and AddRoot of the model. -/
namespace Go.Proofs.YtboiknllmnfipaaGreatDoor
open Go.RowKit
theorem Jak {l:List Nat} {x:Int} (h:x % 2=0):I8 l x=Pn x:=by
 have:=Rl h
 unfold I8
 rw [show decide (H8 x=2)=false from this.2,show decide (H8 x=1)=Pn x from this.1]
 simp
theorem Jdy {l:List Nat} {x:Int} (h:¬ x % 2=0):I8 l x=(Pn x && (ints l).contains (x / 2)):=by
 have:=R8 h
 unfold I8
 rw [show decide (H8 x=1)=false from this.2,show decide (H8 x=2)=Pn x from this.1]
 simp
theorem Jcl {x:Int} (h:1<=x):x.tdiv 2=x / 2:=Int.tdiv_eq_ediv_of_nonneg (by omega)
set_option maxRecDepth 100000 in
set_option maxHeartbeats 1600000 in
theorem W8 (v:Value) (h:Hp) (x:Int) (w:World) (hv:HR w v h) (hk:okC h=true) (hx:N8 x) :
  Calls Tryz.prog 88 #[v,.int .i64 x] w fun e w'=>e=.returned (.bool (I8 (obC h) x))/\Below w.heap.size w w':=by
 obtain ⟨v1,v2,v3,rfl,i1,i2,i3⟩:=id hv
 have hb0:=C5 w (.cells #[v1,v2,.int .i64 h.old,.int .i64 h.eden,.int .i64 h.surv,.bool h.flip,.int .i64 h.hash,v3] 30)
 have WO:=fun W=>Oq x W
 obtain ⟨hx1,hx2⟩:=hx
 clear i1 i2 i3
 cases hwo:Pn x
 ·have FE:Hid (I8 (obC h) x=false):=(by
   by_cases e:x % 2=0
   ·rw [Jak e,hwo]
   ·rw [Jdy e,hwo];rfl:I8 (obC h) x=false)
  rw [hwo] at WO
  go_enter Tryz.func88,Tryz.ntmps88
  go_wp2_with (go_at_call 55;refine (WO _).mono ?_;rintro e wq ⟨rfl,hq⟩;obtain rfl:=hq.symm)
  go_ret
  exact ⟨E7 FE.out.symm,hb0⟩
 ·rw [hwo] at WO
  by_cases he:x % 2=0
  ·have FE:Hid (I8 (obC h) x=true):=((Jak he).trans hwo:I8 (obC h) x=true)
   have tm:(x.tmod 2 == 0)=true:=by rw [L9,decide_eq_true he]
   go_enter Tryz.func88,Tryz.ntmps88
   go_wp2_with (go_at_call 55;refine (WO _).mono ?_;rintro e wq ⟨rfl,hq⟩;obtain rfl:=hq.symm)
   go_ret
   exact ⟨E7 FE.out.symm,hb0⟩
  ·have FE:Hid (I8 (obC h) x=isC h (x / 2)):=(by rw [Jdy he,hwo];rfl:I8 (obC h) x=isC h (x / 2))
   have tm:(x.tmod 2 == 0)=false:=by rw [L9,decide_eq_false he]
   have hp:1<=x:=by
    rw [Us he] at hwo
    exact (of_decide_eq_true hwo).1
   have td:=Jcl hp
   have IS:=Jii _ h (x / 2) _ (hv.later hb0) hk
   have wd:IntKind.i64.wrap (x / 2)=x / 2:=by rw [IntKind.wrap_i64];omega
   go_enter Tryz.func88,Tryz.ntmps88
   go_wp2_with (first
    | (go_at_call 55;refine (WO _).mono ?_;rintro e wq ⟨rfl,hq⟩;obtain rfl:=hq.symm)
    | (go_at_call 102;refine IS.mono ?_;rintro e w1 ⟨rfl,hb1⟩))
   go_ret
   exact ⟨E7 (by rw [FE.out,show (x % 2 == 0)=false from by simp [he]];rfl),C3 hb0 hb1⟩
set_option maxRecDepth 100000 in
set_option maxHeartbeats 3200000 in
theorem Ua (v:Value) (h:Hp) (x:Int) (w:World) (hv:HR w v h) (hwo:h.words.length<=1000000000000) (hro:h.roots.length<=1000000000000) (hke:h.kept.length<=1000000000000) (hx:N8 x) :
  Calls Tryz.prog 69 #[v,.int .i64 x] w fun e w'=>(∃ u,e=.returned (.tuple #[u,.bool (Pu h x)])/\HM w.heap.size w' u (Y8 h x))/\Below w.heap.size w w':=by
 obtain ⟨v1,v2,v3,rfl,i1,i2,i3⟩:=id hv
 obtain ⟨a1,c1,rfl,-⟩:=IRs i1
 obtain ⟨a2,c2,rfl,-⟩:=IRs i2
 obtain ⟨a3,c3,rfl,-⟩:=IRs i3
 have S0:=CS.new w (.slice a1 h.words.length c1) (.slice a2 h.roots.length c2) (.int .i64 h.old) (.int .i64 h.eden) (.int .i64 h.surv) (.bool h.flip) (.int .i64 h.hash) (.slice a3 h.kept.length c3)
 have C:=N4 _ h _ (hv.later S0.bel) hro hke
 clear i1 i2 i3
 go_enter Tryz.func69,Tryz.ntmps69
 go_wp2_with fail
 refine C.mono ?_
 rintro e w1 ⟨rfl,hb1⟩
 have S1:=S0.later hb1
 clear C S0 hb1
 cases hk:okC h
 ·have AB:Pu h x=false:=by unfold Pu;rw [hk];rfl
  obtain ⟨fk,K⟩:=S1.res
  have fR:=fun i=>K.frozen i
  obtain ⟨r0,r1,r2,r3,r4,r5,r6,r7⟩:=Po K
  have ltR:=K.lt
  have B9:=Qa (N:=w.heap.size+1) (S1.bel) (Nat.le_succ _)
  obtain ⟨o0,o1,o2,o3,o4,o5,o6,o7⟩:_/\_/\_/\_/\_/\_/\_/\_:=⟨S1.c0,S1.c1,S1.c2,S1.c3,S1.c4,S1.c5,S1.c6,S1.c7⟩
  clear K S1
  go_wp2
  exact bodyPost_ret (v:=.tuple #[.agg #[.slice none 0 0,.slice none 0 0,.int .i64 0,.int .i64 0,.int .i64 0,.bool false,.int .i64 0,.slice none 0 0],.bool false]) (by simp [results,Tryz.results69,go_sem,r0,r1,r2,r3,r4,r5,r6,r7]) rfl ⟨⟨_,Oz AB (Jcu AB)⟩,B9⟩
 have LW:=W8 _ h x _ (hv.later S1.bel) hk hx
 obtain ⟨o0,o1,o2,o3,o4,o5,o6,o7⟩:_/\_/\_/\_/\_/\_/\_/\_:=⟨S1.c0,S1.c1,S1.c2,S1.c3,S1.c4,S1.c5,S1.c6,S1.c7⟩
 go_wp2_with fail
 refine LW.mono ?_
 rintro e w2 ⟨rfl,hb2⟩
 have S2:=S1.later hb2
 clear S1 LW hb2 o0 o1 o2 o3 o4 o5 o6 o7
 cases hft:I8 (obC h) x
 ·have AB:Pu h x=false:=by unfold Pu;rw [hk,hft];rfl
  obtain ⟨fk,K⟩:=S2.res
  have fR:=fun i=>K.frozen i
  obtain ⟨r0,r1,r2,r3,r4,r5,r6,r7⟩:=Po K
  have ltR:=K.lt
  have B9:=Qa (N:=w.heap.size+1) (S2.bel) (Nat.le_succ _)
  obtain ⟨o0,o1,o2,o3,o4,o5,o6,o7⟩:_/\_/\_/\_/\_/\_/\_/\_:=⟨S2.c0,S2.c1,S2.c2,S2.c3,S2.c4,S2.c5,S2.c6,S2.c7⟩
  clear K S2
  go_wp2
  exact bodyPost_ret (v:=.tuple #[.agg #[.slice none 0 0,.slice none 0 0,.int .i64 0,.int .i64 0,.int .i64 0,.bool false,.int .i64 0,.slice none 0 0],.bool false]) (by simp [results,Tryz.results69,go_sem,r0,r1,r2,r3,r4,r5,r6,r7]) rfl ⟨⟨_,Oz AB (Jcu AB)⟩,B9⟩
 by_cases h20:h.roots.length=20
 ·have AB:Pu h x=false:=by unfold Pu;rw [hk,hft,h20];rfl
  have t20:((h.roots.length:Int) == 20)=true:=by rw [h20];rfl
  replace h20:Hid (h.roots.length=20):=h20
  obtain ⟨fk,K⟩:=S2.res
  have fR:=fun i=>K.frozen i
  obtain ⟨r0,r1,r2,r3,r4,r5,r6,r7⟩:=Po K
  have ltR:=K.lt
  have B9:=Qa (N:=w.heap.size+1) (S2.bel) (Nat.le_succ _)
  obtain ⟨o0,o1,o2,o3,o4,o5,o6,o7⟩:_/\_/\_/\_/\_/\_/\_/\_:=⟨S2.c0,S2.c1,S2.c2,S2.c3,S2.c4,S2.c5,S2.c6,S2.c7⟩
  clear K S2
  go_wp2
  exact bodyPost_ret (v:=.tuple #[.agg #[.slice none 0 0,.slice none 0 0,.int .i64 0,.int .i64 0,.int .i64 0,.bool false,.int .i64 0,.slice none 0 0],.bool false]) (by simp [results,Tryz.results69,go_sem,r0,r1,r2,r3,r4,r5,r6,r7]) rfl ⟨⟨_,Oz AB (Jcu AB)⟩,B9⟩
 have AB:Pu h x=true:=by unfold Pu;rw [hk,hft,decide_eq_false h20];rfl
 have t20:((h.roots.length:Int) == 20)=false:=by rw [beq_eq_false_iff_ne];omega
 have lr:h.roots.length<=20:=(Py hk).2.2.2.2.2
 have CP:=Qx _ h _ (hv.later S2.bel) hwo hro hke
 obtain ⟨o0,o1,o2,o3,o4,o5,o6,o7⟩:_/\_/\_/\_/\_/\_/\_/\_:=⟨S2.c0,S2.c1,S2.c2,S2.c3,S2.c4,S2.c5,S2.c6,S2.c7⟩
 clear h20 hft
 go_wp2_with fail
 refine CP.mono ?_
 rintro e w3 ⟨⟨g1,d1,g2,d2,g3,d3,rfl,⟨q1,q2,q3⟩,⟨l0,l1,l2⟩,⟨m1,m2,m3⟩⟩,hb3⟩
 have al:=C5 w3 (.cells #[.slice (some ⟨g1,0,none⟩) h.words.length d1,.slice (some ⟨g2,0,none⟩) h.roots.length d2,.int .i64 h.old,.int .i64 h.eden,.int .i64 h.surv,.bool h.flip,.int .i64 h.hash,.slice (some ⟨g3,0,none⟩) h.kept.length d3] 30)
 have b1:=C5 (w3.alloc (.cells #[.slice (some ⟨g1,0,none⟩) h.words.length d1,.slice (some ⟨g2,0,none⟩) h.roots.length d2,.int .i64 h.old,.int .i64 h.eden,.int .i64 h.surv,.bool h.flip,.int .i64 h.hash,.slice (some ⟨g3,0,none⟩) h.kept.length d3] 30)) (.cells #[.int .i64 x] 2)
 have S3:=((S2.later hb3).later al).later b1
 have lt2:=S2.lt
 have P1:=(q1.later al).later b1
 have P2:=(q2.later al).later b1
 have P3:=(q3.later al).later b1
 have ltg1:=q1.lt
 have ltg2:=q2.lt
 have ltg3:=q3.lt
 obtain ⟨fd,D2⟩:∃ fd,(w3.alloc (.cells #[.slice (some ⟨g1,0,none⟩) h.words.length d1,.slice (some ⟨g2,0,none⟩) h.roots.length d2,.int .i64 h.old,.int .i64 h.eden,.int .i64 h.surv,.bool h.flip,.int .i64 h.hash,.slice (some ⟨g3,0,none⟩) h.kept.length d3] 30)).rowIs w3.heap.size 30 8 fd:=⟨_,I0 w3 #[.slice (some ⟨g1,0,none⟩) h.words.length d1,.slice (some ⟨g2,0,none⟩) h.roots.length d2,.int .i64 h.old,.int .i64 h.eden,.int .i64 h.surv,.bool h.flip,.int .i64 h.hash,.slice (some ⟨g3,0,none⟩) h.kept.length d3] 30⟩
 have D3:=D2.of_block (b1.block _ D2.lt)
 have d_0:=C2 b1 (E6 w3 #[.slice (some ⟨g1,0,none⟩) h.words.length d1,.slice (some ⟨g2,0,none⟩) h.roots.length d2,.int .i64 h.old,.int .i64 h.eden,.int .i64 h.surv,.bool h.flip,.int .i64 h.hash,.slice (some ⟨g3,0,none⟩) h.kept.length d3] 30 _ rfl 0 _ rfl)
 have d_1:=C2 b1 (E6 w3 #[.slice (some ⟨g1,0,none⟩) h.words.length d1,.slice (some ⟨g2,0,none⟩) h.roots.length d2,.int .i64 h.old,.int .i64 h.eden,.int .i64 h.surv,.bool h.flip,.int .i64 h.hash,.slice (some ⟨g3,0,none⟩) h.kept.length d3] 30 _ rfl 1 _ rfl)
 have d_2:=C2 b1 (E6 w3 #[.slice (some ⟨g1,0,none⟩) h.words.length d1,.slice (some ⟨g2,0,none⟩) h.roots.length d2,.int .i64 h.old,.int .i64 h.eden,.int .i64 h.surv,.bool h.flip,.int .i64 h.hash,.slice (some ⟨g3,0,none⟩) h.kept.length d3] 30 _ rfl 2 _ rfl)
 have d_3:=C2 b1 (E6 w3 #[.slice (some ⟨g1,0,none⟩) h.words.length d1,.slice (some ⟨g2,0,none⟩) h.roots.length d2,.int .i64 h.old,.int .i64 h.eden,.int .i64 h.surv,.bool h.flip,.int .i64 h.hash,.slice (some ⟨g3,0,none⟩) h.kept.length d3] 30 _ rfl 3 _ rfl)
 have d_4:=C2 b1 (E6 w3 #[.slice (some ⟨g1,0,none⟩) h.words.length d1,.slice (some ⟨g2,0,none⟩) h.roots.length d2,.int .i64 h.old,.int .i64 h.eden,.int .i64 h.surv,.bool h.flip,.int .i64 h.hash,.slice (some ⟨g3,0,none⟩) h.kept.length d3] 30 _ rfl 4 _ rfl)
 have d_5:=C2 b1 (E6 w3 #[.slice (some ⟨g1,0,none⟩) h.words.length d1,.slice (some ⟨g2,0,none⟩) h.roots.length d2,.int .i64 h.old,.int .i64 h.eden,.int .i64 h.surv,.bool h.flip,.int .i64 h.hash,.slice (some ⟨g3,0,none⟩) h.kept.length d3] 30 _ rfl 5 _ rfl)
 have d_6:=C2 b1 (E6 w3 #[.slice (some ⟨g1,0,none⟩) h.words.length d1,.slice (some ⟨g2,0,none⟩) h.roots.length d2,.int .i64 h.old,.int .i64 h.eden,.int .i64 h.surv,.bool h.flip,.int .i64 h.hash,.slice (some ⟨g3,0,none⟩) h.kept.length d3] 30 _ rfl 6 _ rfl)
 have d_7:=C2 b1 (E6 w3 #[.slice (some ⟨g1,0,none⟩) h.words.length d1,.slice (some ⟨g2,0,none⟩) h.roots.length d2,.int .i64 h.old,.int .i64 h.eden,.int .i64 h.surv,.bool h.flip,.int .i64 h.hash,.slice (some ⟨g3,0,none⟩) h.kept.length d3] 30 _ rfl 7 _ rfl)
 have I3:IR ((w3.alloc (.cells #[.slice (some ⟨g1,0,none⟩) h.words.length d1,.slice (some ⟨g2,0,none⟩) h.roots.length d2,.int .i64 h.old,.int .i64 h.eden,.int .i64 h.surv,.bool h.flip,.int .i64 h.hash,.slice (some ⟨g3,0,none⟩) h.kept.length d3] 30)).alloc (.cells #[.int .i64 x] 2)) (.slice (some ⟨w3.heap.size+1,0,none⟩) 1 1) [x]:=by
  have q:=(Jkz (w3.alloc (.cells #[.slice (some ⟨g1,0,none⟩) h.words.length d1,.slice (some ⟨g2,0,none⟩) h.roots.length d2,.int .i64 h.old,.int .i64 h.eden,.int .i64 h.surv,.bool h.flip,.int .i64 h.hash,.slice (some ⟨g3,0,none⟩) h.kept.length d3] 30)) x).ir (cap:=1) (Nat.le_refl _)
  rw [World.size_alloc] at q
  exact q
 have szB:((w3.alloc (.cells #[.slice (some ⟨g1,0,none⟩) h.words.length d1,.slice (some ⟨g2,0,none⟩) h.roots.length d2,.int .i64 h.old,.int .i64 h.eden,.int .i64 h.surv,.bool h.flip,.int .i64 h.hash,.slice (some ⟨g3,0,none⟩) h.kept.length d3] 30)).alloc (.cells #[.int .i64 x] 2)).heap.size=w3.heap.size+1+1:=by simp
 clear CP S2 hb3 q1 q2 q3 al o0 o1 o2 o3 o4 o5 o6 o7 hv
 go_wp2_with (at_builtin;refine Tc _ rfl _ _ rfl g2 d2 h.roots.length h.roots rfl rfl P2 (by omega) m2 (some ⟨w3.heap.size+1,0,none⟩) 1 1 [x] rfl rfl I3 (by simp) ?_;intro g' c' w4 P4 G4 wh mc;rw [szB] at wh;have sz4:=G4.size;rw [szB] at sz4;have k0:=G4.cell d_0 (by simp <;> omega);have k1:=G4.cell d_1 (by simp <;> omega);have k2:=G4.cell d_2 (by simp <;> omega);have k3:=G4.cell d_3 (by simp <;> omega);have k4:=G4.cell d_4 (by simp <;> omega);have k5:=G4.cell d_5 (by simp <;> omega);have k6:=G4.cell d_6 (by simp <;> omega);have k7:=G4.cell d_7 (by simp <;> omega);have D4:=D3.of_block (G4.block _ (by rw [szB];omega) (by simp <;> omega));have fD:=(fun i=>D4.frozen i);have S4:=S3.grown G4 (by omega);have M1:=P1.grown G4 (by simp <;> omega);have M3:=P3.grown G4 (by simp <;> omega);have ng:g' ≠ w3.heap.size/\w.heap.size+1<g' /\ g1 ≠ g' /\ g' ≠ g3:=(by rcases wh with e|⟨e,_⟩ <;> omega);obtain ⟨fk,K4⟩:=S4.res;have fR:=(fun i=>K4.frozen i);obtain ⟨r0,r1,r2,r3,r4,r5,r6,r7⟩:=Po K4;have bel4:=S4.bel;have lw4:w3.heap.size<w4.heap.size:=(by omega);have lw5:w.heap.size+1<w4.heap.size:=(by omega);clear D3 D4 K4 S3 S4 P1 P2 P3 G4 wh I3 d_0 d_1 d_2 d_3 d_4 d_5 d_6 d_7)
 obtain ⟨ng1,ng2,ng3,ng4⟩:=ng
 have T1:RI (((((((((w4.setCell ⟨w3.heap.size,1,none⟩ (.slice (some ⟨g',0,none⟩) (h.roots.length+1) c')).setCell ⟨w.heap.size+1,0,none⟩ (.slice (some ⟨g1,0,none⟩) h.words.length d1)).setCell ⟨w.heap.size+1,1,none⟩ (.slice (some ⟨g',0,none⟩) (h.roots.length+1) c')).setCell ⟨w.heap.size+1,2,none⟩ (.int .i64 h.old)).setCell ⟨w.heap.size+1,3,none⟩ (.int .i64 h.eden)).setCell ⟨w.heap.size+1,4,none⟩ (.int .i64 h.surv)).setCell ⟨w.heap.size+1,5,none⟩ (.bool h.flip)).setCell ⟨w.heap.size+1,6,none⟩ (.int .i64 h.hash)).setCell ⟨w.heap.size+1,7,none⟩ (.slice (some ⟨g3,0,none⟩) h.kept.length d3)) g1 h.words d1:=(RI.setOther (RI.setOther (RI.setOther (RI.setOther (RI.setOther (RI.setOther (RI.setOther (RI.setOther (M1.setOther (b:=w3.heap.size) (i:=1) (by omega) (.slice (some ⟨g',0,none⟩) (h.roots.length+1) c')) (by omega) _) (by omega) _) (by omega) _) (by omega) _) (by omega) _) (by omega) _) (by omega) _) (by omega) _)
 have T2:RI (((((((((w4.setCell ⟨w3.heap.size,1,none⟩ (.slice (some ⟨g',0,none⟩) (h.roots.length+1) c')).setCell ⟨w.heap.size+1,0,none⟩ (.slice (some ⟨g1,0,none⟩) h.words.length d1)).setCell ⟨w.heap.size+1,1,none⟩ (.slice (some ⟨g',0,none⟩) (h.roots.length+1) c')).setCell ⟨w.heap.size+1,2,none⟩ (.int .i64 h.old)).setCell ⟨w.heap.size+1,3,none⟩ (.int .i64 h.eden)).setCell ⟨w.heap.size+1,4,none⟩ (.int .i64 h.surv)).setCell ⟨w.heap.size+1,5,none⟩ (.bool h.flip)).setCell ⟨w.heap.size+1,6,none⟩ (.int .i64 h.hash)).setCell ⟨w.heap.size+1,7,none⟩ (.slice (some ⟨g3,0,none⟩) h.kept.length d3)) g' (h.roots ++ [x]) c':=(RI.setOther (RI.setOther (RI.setOther (RI.setOther (RI.setOther (RI.setOther (RI.setOther (RI.setOther (P4.setOther (b:=w3.heap.size) (i:=1) ng1 (.slice (some ⟨g',0,none⟩) (h.roots.length+1) c')) (by omega) _) (by omega) _) (by omega) _) (by omega) _) (by omega) _) (by omega) _) (by omega) _) (by omega) _)
 have T3:RI (((((((((w4.setCell ⟨w3.heap.size,1,none⟩ (.slice (some ⟨g',0,none⟩) (h.roots.length+1) c')).setCell ⟨w.heap.size+1,0,none⟩ (.slice (some ⟨g1,0,none⟩) h.words.length d1)).setCell ⟨w.heap.size+1,1,none⟩ (.slice (some ⟨g',0,none⟩) (h.roots.length+1) c')).setCell ⟨w.heap.size+1,2,none⟩ (.int .i64 h.old)).setCell ⟨w.heap.size+1,3,none⟩ (.int .i64 h.eden)).setCell ⟨w.heap.size+1,4,none⟩ (.int .i64 h.surv)).setCell ⟨w.heap.size+1,5,none⟩ (.bool h.flip)).setCell ⟨w.heap.size+1,6,none⟩ (.int .i64 h.hash)).setCell ⟨w.heap.size+1,7,none⟩ (.slice (some ⟨g3,0,none⟩) h.kept.length d3)) g3 h.kept d3:=(RI.setOther (RI.setOther (RI.setOther (RI.setOther (RI.setOther (RI.setOther (RI.setOther (RI.setOther (M3.setOther (b:=w3.heap.size) (i:=1) (by omega) (.slice (some ⟨g',0,none⟩) (h.roots.length+1) c')) (by omega) _) (by omega) _) (by omega) _) (by omega) _) (by omega) _) (by omega) _) (by omega) _) (by omega) _)
 have B9:Below w.heap.size w (((((((((w4.setCell ⟨w3.heap.size,1,none⟩ (.slice (some ⟨g',0,none⟩) (h.roots.length+1) c')).setCell ⟨w.heap.size+1,0,none⟩ (.slice (some ⟨g1,0,none⟩) h.words.length d1)).setCell ⟨w.heap.size+1,1,none⟩ (.slice (some ⟨g',0,none⟩) (h.roots.length+1) c')).setCell ⟨w.heap.size+1,2,none⟩ (.int .i64 h.old)).setCell ⟨w.heap.size+1,3,none⟩ (.int .i64 h.eden)).setCell ⟨w.heap.size+1,4,none⟩ (.int .i64 h.surv)).setCell ⟨w.heap.size+1,5,none⟩ (.bool h.flip)).setCell ⟨w.heap.size+1,6,none⟩ (.int .i64 h.hash)).setCell ⟨w.heap.size+1,7,none⟩ (.slice (some ⟨g3,0,none⟩) h.kept.length d3)):=by
  repeat (refine Below.setCell ?_ (p:=⟨w.heap.size+1,_,none⟩) (Nat.le_succ _) _)
  exact bel4.setCell (p:=⟨w3.heap.size,1,none⟩) (by show w.heap.size<=w3.heap.size;omega) _
 have HF:HM w.heap.size (((((((((w4.setCell ⟨w3.heap.size,1,none⟩ (.slice (some ⟨g',0,none⟩) (h.roots.length+1) c')).setCell ⟨w.heap.size+1,0,none⟩ (.slice (some ⟨g1,0,none⟩) h.words.length d1)).setCell ⟨w.heap.size+1,1,none⟩ (.slice (some ⟨g',0,none⟩) (h.roots.length+1) c')).setCell ⟨w.heap.size+1,2,none⟩ (.int .i64 h.old)).setCell ⟨w.heap.size+1,3,none⟩ (.int .i64 h.eden)).setCell ⟨w.heap.size+1,4,none⟩ (.int .i64 h.surv)).setCell ⟨w.heap.size+1,5,none⟩ (.bool h.flip)).setCell ⟨w.heap.size+1,6,none⟩ (.int .i64 h.hash)).setCell ⟨w.heap.size+1,7,none⟩ (.slice (some ⟨g3,0,none⟩) h.kept.length d3)) (.agg #[.slice (some ⟨g1,0,none⟩) h.words.length d1,.slice (some ⟨g',0,none⟩) (h.roots.length+1) c',.int .i64 h.old,.int .i64 h.eden,.int .i64 h.surv,.bool h.flip,.int .i64 h.hash,.slice (some ⟨g3,0,none⟩) h.kept.length d3]) (Y8 h x):=by
  rw [Jjw AB]
  have q:=HM.of_rows (h:={ h with roots:=h.roots ++ [x] }) (B:=w.heap.size) T1 T2 T3 m1 mc m3 (by omega) (by omega) (by omega) ng3 (by omega) ng4
  rw [show ({ h with roots:=h.roots ++ [x] }:Hp).roots.length=h.roots.length+1 from by simp] at q
  exact q
 exact bodyPost_ret (v:=.tuple #[.agg #[.slice (some ⟨g1,0,none⟩) h.words.length d1,.slice (some ⟨g',0,none⟩) (h.roots.length+1) c',.int .i64 h.old,.int .i64 h.eden,.int .i64 h.surv,.bool h.flip,.int .i64 h.hash,.slice (some ⟨g3,0,none⟩) h.kept.length d3],.bool true]) (by simp [results,Tryz.results69,go_sem,r0,r1,r2,r3,r4,r5,r6,r7]) rfl ⟨⟨_,by rw [AB],HF⟩,B9⟩
end Go.Proofs.YtboiknllmnfipaaGreatDoor
