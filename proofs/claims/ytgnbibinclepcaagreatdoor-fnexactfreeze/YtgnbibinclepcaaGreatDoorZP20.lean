
import Derived.Test.YtgnbibinclepcaaGreatDoorZP6
import Derived.Maps.AppendAt
import Derived.Test.YtgnbibinclepcaaGreatDoorRows
import Derived.WalkKit
import Derived.Lib.ItoaNum
import Derived.Lib.Join
import Derived.Test.YtgnbibinclepcaaGreatDoorZShelf
import Derived.Laws.MakeOwn
import Derived.Lib.ItoaLen
/- Graphs as they are read, and held against each other by the laws. -/
namespace Go.Proofs.YtgnbibinclepcaaGreatDoor
open Go.RowKit
structure Nd where
 cls:Int
 hash:Int
 fl:List Int
structure Gr where
 roots:List Int
 nodes:List Nd
 hash:Int
def nd0:Nd:=⟨0,0,[]⟩
def NR (w:World) (v:Value) (ns:List Nd):Prop :=
 ∃ ao cap,v=.slice ao ns.length cap/\ns.length<=cap/\∀ i,i<ns.length->∃ b o fa fn fc,ao=some ⟨b,o,none⟩/\w.cell? ⟨b,o+i * 3,none⟩=some (.int .i64 (ns.getD i nd0).cls) ∧
  w.cell? ⟨b,o+i * 3+1,none⟩=some (.int .i64 (ns.getD i nd0).hash)/\w.cell? ⟨b,o+i * 3+2,none⟩=some (.slice fa fn fc)/\IR w (.slice fa fn fc) (ns.getD i nd0).fl
def GR (w:World) (v:Value) (g:Gr):Prop:=∃ vr vn,v=.agg #[vr,vn,.int .i64 g.hash]/\IR w vr g.roots/\NR w vn g.nodes
theorem NR.later {w w' : World} {v:Value} {ns:List Nd} (h:NR w v ns) (hb:Below w.heap.size w w'):NR w' v ns:=by
 obtain ⟨ao,cap,rfl,hle,h⟩:=h
 refine ⟨ao,cap,rfl,hle,fun i hi=>?_⟩
 obtain ⟨b,o,fa,fn,fc,e,c0,c1,c2,r⟩:=h i hi
 exact ⟨b,o,fa,fn,fc,e,cell_later hb c0,cell_later hb c1,cell_later hb c2,r.later hb⟩
theorem NR.shape {w:World} {v:Value} {ns:List Nd} (h:NR w v ns):∃ ao cap,v=.slice ao ns.length cap:=by
 obtain ⟨ao,cap,e,_⟩:=h
 exact ⟨ao,cap,e⟩
theorem GR.out {w:World} {v:Value} {g:Gr} (h:GR w v g):∃ ra rc na nc,v=.agg #[.slice ra g.roots.length rc,.slice na g.nodes.length nc,.int .i64 g.hash]/\IR w (.slice ra g.roots.length rc) g.roots/\NR w (.slice na g.nodes.length nc) g.nodes:=by
 obtain ⟨vr,vn,rfl,hr,hn⟩:=h
 obtain ⟨ra,rc,rfl,_⟩:=id hr
 obtain ⟨na,nc,rfl⟩:=NR.shape hn
 exact ⟨ra,rc,na,nc,rfl,hr,hn⟩
def grF (rv nv:Value) (hh:Int) (i:Nat):Value:=if i=0 then rv else if i=1 then nv else .int .i64 hh
theorem graphC (w:World) (rv nv:Value) (hh:Int) (t:TypeId):(w.alloc (.cells #[rv,nv,.int .i64 hh] t)).rowIs w.heap.size t 3 (grF rv nv hh) :=
 World.rowIs_alloc w #[rv,nv,.int .i64 hh] t _ (fun i hi=>by
  match i,hi with
  | 0,_=>rfl
  | 1,_=>rfl
  | 2,_=>rfl)
end Go.Proofs.YtgnbibinclepcaaGreatDoor
/- slices.Grow and slices.Concat at numbers. -/
namespace Go.Proofs.YtgnbibinclepcaaGreatDoor
open Go.RowKit
theorem append_zeros (n:Nat) (h0:0<n) (hn:n<=1000000000) (ty:TypeId) (w:World) :
  (Builtin.append_ #[24,3] ty #[.slice none 0 0,.int .i64 (n:Int)]).run Tryz.prog w=.ok (.slice (some ⟨w.heap.size,0,none⟩) n (grownCap w n 0 2)) (w.drew.alloc (.cells (Builtin.zeroCells #[.int .i64 0] n ++ Builtin.zeroCells #[.int .i64 0] (grownCap w n 0 2 - n)) 2)):=by
 obtain ⟨i,hi,hzz⟩:=Option.map_eq_some_iff.1 Tryz.infoI
 simp only [Prod.mk.injEq] at hzz
 obtain ⟨hz,hsz,hby⟩:=hzz
 have h1:¬ n=0:=by omega
 have h63' : ¬ (9223372036854775807<(n:Int)):=by omega
 have h48' : ¬ (281474976710656<Builtin.nextslicecap n 0 * 8):=by rw [nextslicecap_zero h0];omega
 have wl:IntKind.i64.wrap (n:Int)=n:=by rw [IntKind.wrap_i64];omega
 have n1:¬ (n:Int)<0:=by omega
 have n2:¬ (281474976710656<(n:Int) * 8):=by omega
 simp [Builtin.append_,run_underlying Tryz.underlying24,run_underlying Tryz.underlying3,asInt,asIntOf,sizeOf,typeInfo,zeroValue,hi,hz,hsz,hby,h1,h63',h48',wl,n1,n2,Question.forced,run_firstCells_none,newRow,grownCap,Value.cells]
section
variable {ops : Array Oper} {rest : List Oper} {o : Oper} {a : Act} {Q : Exit -> Act -> World -> Prop}
theorem grow_at (w:World) (hgd:o.guard=none) (s x:Operand) (ho:o.op=.call { callee:=.builtin .append,args:=#[s,x],argTypes:=#[24,3] }) (n:Nat) (hs:a.eval s=.slice none 0 0) (hx:a.eval x=.int .i64 (n:Int)) (h0:0<n) (hn:n<=1000000000)
  (h:∀ cap w',n<=cap->w'.ownsRow w.heap.size 2 1 (.slice (some ⟨w.heap.size,0,none⟩) 0 cap) 0 []->Below w.heap.size w w' -> wpList Tryz.prog ops Q rest (a.put o.dst (.slice (some ⟨w.heap.size,0,none⟩) n cap)) w'):wpList Tryz.prog ops Q (o::rest) a w:=by
 refine wpList_plain hgd fun K hK=>?_
 unfold Oper.wp execOp
 simp only [ho,resolve,invoke,builtin,Sem.run_bind,Sem.run_pure,Result.andThen_ok,List.map_toArray,List.map_cons,List.map_nil,hs,hx,append_zeros n h0 hn]
 have hge:=grownCap_ge w n 0 2
 refine hK _ _ (h (grownCap w n 0 2) _ hge ?_ ((Below.refl _ _).drew.alloc (by exact Nat.le_refl _) _))
 refine World.ownsRow_made w.drew _ (grownCap w n 0 2) (Nat.le_refl _) (grownCap_le_maxLen w n 0 2 (by unfold maxLen;omega)) ?_
 simp only [Array.size_append,size_zeroCells]
 simp
 omega
end
theorem grow_any (n:Nat) (h0:0<n) (hn:n<=1000000000) (w:World) :
  Calls Tryz.prog 118 #[.slice none 0 0,.int .i64 (n:Int)] w fun e w'=>(∃ cap,e=.returned (.slice (some ⟨w.heap.size,0,none⟩) 0 cap)/\w'.ownsRow w.heap.size 2 1 (.slice (some ⟨w.heap.size,0,none⟩) 0 cap) 0 [])/\Below w.heap.size w w':=by
 have g:(n:Int) > 0:=by omega
 have n0:¬ (n:Int)<0:=by omega
 go_enter Tryz.func118,Tryz.ntmps118
 go_wp2_with (at_builtin;refine grow_at _ rfl _ _ rfl n rfl rfl h0 hn ?_;intro cap w' hcap ho hb)
 go_ret
 exact ⟨⟨cap,rfl,ho⟩,hb⟩
end Go.Proofs.YtgnbibinclepcaaGreatDoor
/- Numerals with blanks between are unlike for unlike numbers. -/
namespace Go.Proofs.YtgnbibinclepcaaGreatDoor
open Go.RowKit
theorem tail_len (r:List Int) (hr:∀ z,z ∈ r->(Lib.itoa z).length<=21):(Lib.joinTail [32] (r.map Lib.itoa)).length<=22 * r.length:=by
 induction r with
 | nil=>simp [Lib.joinTail]
 | cons z r ih =>
  have:=ih (fun q hq=>hr q (by simp [hq]))
  have h2:=hr z (by simp)
  have e:Lib.joinTail [32] ((z::r).map Lib.itoa)=32::(Lib.itoa z ++ Lib.joinTail [32] (r.map Lib.itoa)):=by simp [Lib.joinTail]
  rw [e,List.length_cons,List.length_append,List.length_cons]
  omega
theorem join_len (r:List Int) (hr:∀ z,z ∈ r->(Lib.itoa z).length<=21):(Lib.join (r.map Lib.itoa) [32]).length<=22 * r.length:=by
 cases r with
 | nil=>simp [Lib.join_nil]
 | cons z r =>
  have h1:=tail_len r (fun q hq=>hr q (by simp [hq]))
  have h2:=hr z (by simp)
  rw [List.map_cons,Lib.join_cons,List.length_append,List.length_cons]
  omega
end Go.Proofs.YtgnbibinclepcaaGreatDoor
/- Concat, joinNumbers and nodeText of the program: the text of a node. -/
namespace Go.Proofs.YtgnbibinclepcaaGreatDoor
open Go.RowKit
theorem gown_shape {w:World} {B e size n:Nat} {v:Value} {xs:List Value} (h:w.ownsRow B e size v n xs):∃ ao cap,v=.slice ao n cap:=by
 rcases h.2 with ⟨rfl,rfl⟩|⟨g,cap,cur,rfl,_⟩
 ·exact ⟨none,0,rfl⟩
 ·exact ⟨_,cap,rfl⟩
theorem run_append_none (g n cap c:Nat) (ty:TypeId) (w:World) (h:n<=cap):(Builtin.append_ #[24,24] ty #[.slice (some ⟨g,0,none⟩) n cap,.slice none 0 c]).run Tryz.prog w=.ok (.slice (some ⟨g,0,none⟩) n cap) w:=by
 obtain ⟨i,hi,hzz⟩:=Option.map_eq_some_iff.1 Tryz.infoI
 simp only [Prod.mk.injEq] at hzz
 obtain ⟨hz,hsz,hby⟩:=hzz
 simp [Builtin.append_,run_underlying Tryz.underlying24,sizeOf,typeInfo,hi,Builtin.lenOf,h,run_firstCells_none,storeCells]
section
variable {ops : Array Oper} {rest : List Oper} {o : Oper} {a : Act} {Q : Exit -> Act -> World -> Prop}
theorem app_ir (w:World) (hgd:o.guard=none) (s x:Operand) (ho:o.op=.call { callee:=.builtin .append,args:=#[s,x],argTypes:=#[24,24] }) (B g n cap:Nat) (xs:List Value) (hs:a.eval s=.slice (some ⟨g,0,none⟩) n cap) (hown:w.ownsRow B 2 1 (.slice (some ⟨g,0,none⟩) n cap) n xs)
  (u:Value) (l:List Int) (hx:a.eval x=u) (hu:IR w u l) (hn:n+l.length<=1000000000) (hB:B<=w.heap.size)
  (h:∀ g' cap' w',w'.ownsRow B 2 1 (.slice (some ⟨g',0,none⟩) (n+l.length) cap') (n+l.length) (xs ++ icells l)->w.grownBy w' (some g)->wpList Tryz.prog ops Q rest (a.put o.dst (.slice (some ⟨g',0,none⟩) (n+l.length) cap')) w'):wpList Tryz.prog ops Q (o::rest) a w:=by
 obtain ⟨i,hi,hzz⟩:=Option.map_eq_some_iff.1 Tryz.infoI
 simp only [Prod.mk.injEq] at hzz
 obtain ⟨hz,hsz,hby⟩:=hzz
 obtain ⟨ua,uc,rfl,_,huc⟩:=hu
 cases ua with
 | none =>
  have hl:l=[]:=by
   cases l with
   | nil=>rfl
   | cons y r=>obtain ⟨_,_,e,_⟩:=huc 0 (by simp);cases e
  subst hl
  have hc:n<=cap:=by
   rcases hown.2 with ⟨e,_⟩|⟨_,_,_,e,_,_,hle,_⟩
   ·cases e
   ·cases e;exact hle
  refine wpList_plain hgd fun K hK=>?_
  unfold Oper.wp execOp
  simp only [ho,resolve,invoke,builtin,Sem.run_bind,Sem.run_pure,Result.andThen_ok,List.map_toArray,List.map_cons,List.map_nil,hs,hx,List.length_nil,run_append_none g n cap uc _ w hc]
  exact hK _ _ (h g cap w (by simpa [icells] using hown) (World.grownBy.refl _ _))
 | some ad =>
  refine wpList_append_own_at w hgd s x 24 ho B 2 i _ 1 8 Tryz.underlying24 hi hz hsz hby rfl (by omega) _ n xs hs hown ad l.length uc (icells l) hx (by simp [icells]) (fun j y hj=>?_) (fun y hy=>?_) (by unfold maxLen;omega) (by omega) hB (fun v' w' h1 h2 h3 _=>?_)
  ·have hj' : j<l.length:=by
    rcases Nat.lt_or_ge j l.length with k|k
    ·exact k
    ·rw [List.getElem?_eq_none (by simpa [icells] using k)] at hj;cases hj
   obtain ⟨b,o,e2,hcell⟩:=huc j hj'
   simp only [Option.some.injEq] at e2
   subst e2
   have hy:y=.int .i64 (l.getD j 0):=by
    simp [icells,hj'] at hj
    rw [<- hj]
    simp [hj']
   rw [hy,← hcell]
   unfold Addr.add
   split
   ·subst j;rfl
   ·simp
  ·obtain ⟨z,_,rfl⟩:=List.mem_map.1 hy
   rfl
  ·rcases h1.2 with ⟨e,_⟩|⟨g',cap',cur,e,r⟩
   ·exact absurd (h3.1 e).1 (by simp)
   ·subst e
    exact h g' cap' w' h1 h2
end
set_option maxHeartbeats 1600000 in
theorem concat_any (sb:Nat) (va vb:Value) (la lb:List Int) (w:World) (c0:w.cell? ⟨sb,0,none⟩=some va) (c1:w.cell? ⟨sb,1,none⟩=some vb) (ha:IR w va la) (hb:IR w vb lb) (h0:0<la.length) (hn:la.length+lb.length<=100000000) :
  Calls Tryz.prog 78 #[.slice (some ⟨sb,0,none⟩) 2 2] w fun e w'=>(∃ v',e=.returned v' /\ w'.ownsRow w.heap.size 2 1 v' (la.length+lb.length) (icells (la ++ lb)))/\Below w.heap.size w w':=by
 obtain ⟨aa,ac,rfl,_,_⟩:=id ha
 obtain ⟨ba,bc,rfl,_,_⟩:=id hb
 have G:=grow_any (la.length+lb.length) (by omega) (by omega) w
 have n1:¬ (la.length:Int)<0:=by omega
 have n2:¬ (la.length:Int)+(lb.length:Int)<0:=by omega
 have ec:(((la.length+lb.length:Nat):Int))=(la.length:Int)+(lb.length:Int):=by omega
 rw [ec] at G
 clear ec
 go_enter Tryz.func78,Tryz.ntmps78
 go_wp2
 refine wp_loop_rounds 3 ?_
 rw [rounds_succ]
 go_wp2
 rw [rounds_succ]
 go_wp2
 rw [rounds_succ]
 go_wp2_with fail
 refine G.mono ?_
 rintro e w1 ⟨⟨cap,rfl,ho⟩,hb1⟩
 have s1:=hb1.size
 have k0:=cell_later hb1 c0
 have k1:=cell_later hb1 c1
 have ha1:=ha.later hb1
 have step:∀ (g' cap' : Nat) (w2:World),w2.ownsRow w.heap.size 2 1 (.slice (some ⟨g',0,none⟩) (0+la.length) cap') (0+la.length) ([] ++ icells la)->w1.grownBy w2 (some w.heap.size)->w2.cell? ⟨sb,1,none⟩=some (.slice ba lb.length bc)/\IR w2 (.slice ba lb.length bc) lb/\Below w.heap.size w w2:=fun g' cap' w2 _ q=>by
  have b2:Below w.heap.size w w2:=Below.grown hb1 q s1 (fun k e=>by cases e;exact Nat.le_refl _)
  exact ⟨cell_later b2 c1,hb.later b2,b2⟩
 go_wp2
 refine wp_loop_rounds 3 ?_
 rw [rounds_succ]
 go_wp2_with (at_builtin;refine app_ir _ rfl _ _ rfl w.heap.size _ 0 cap [] rfl ho _ la rfl ha1 (by omega) s1 ?_;intro g2 cap2 w2 o2 gr2;(obtain ⟨k12,hb12,bb2⟩:=step g2 cap2 w2 o2 gr2);rw [Nat.zero_add,List.nil_append] at o2;rw [Nat.zero_add])
 rw [rounds_succ]
 go_wp2_with (at_builtin;refine app_ir _ rfl _ _ rfl w.heap.size _ la.length cap2 (icells la) rfl o2 _ lb rfl hb12 (by omega) bb2.size ?_;intro g3 cap3 w3 o3 gr3)
 rw [rounds_succ]
 go_wp2
 go_ret
 refine ⟨⟨_,rfl,?_⟩,Below.grown bb2 gr3 bb2.size (fun k e=>by cases e;exact (o2.lt _ rfl).1)⟩
 have e:icells (la ++ lb)=icells la ++ icells lb:=by simp [icells]
 rw [e]
 exact o3
/-! Texts -/
theorem Tryz.infoS:(Tryz.prog.info? 9).map (fun i=>(i.zero,i.size,i.bytes))=some (some (.string ⟨#[]⟩),1,16):=by kernel_rfl
theorem make_strs (n B:Nat) (hn:n<=1000000000) (w:World) (hB:B<=w.heap.size):∃ w',(Instr.makeSlice 31 (.int .i64 0) (.int .i64 (n:Int))).run Tryz.prog w=.ok (.slice (some ⟨w.heap.size,0,none⟩) 0 n) w' /\ w'.ownsRow B 9 1 (.slice (some ⟨w.heap.size,0,none⟩) 0 n) 0 []/\Below w.heap.size w w':=by
 obtain ⟨i,hi,hzz⟩:=Option.map_eq_some_iff.1 Tryz.infoS
 simp only [Prod.mk.injEq] at hzz
 obtain ⟨hz,hsz,hby⟩:=hzz
 obtain ⟨w',h1,h2,h3⟩:=run_make_own (P:=Tryz.prog) w B 31 9 i _ 1 Tryz.underlying31 hi hz hsz .i64 .i64 n (by rw [hby];omega) (by unfold maxLen;omega) hB
 exact ⟨w',h1,h2,⟨h3.os,h3.tape,h3.output,h3.size,fun k hk=>h3.block k hk (by simp)⟩⟩
theorem app_str {ops:Array Oper} {rest:List Oper} {o:Oper} {a:Act} {Q:Exit->Act->World->Prop} (w:World) (hgd:o.guard=none) (s x:Operand)
  (ho:o.op=.call { callee:=.builtin .append,args:=#[s,x],argTypes:=#[31,31] }) (B g0 cap n:Nat) (xs:List Value) (hs:a.eval s=.slice (some ⟨g0,0,none⟩) n cap) (hown:w.ownsRow B 9 1 (.slice (some ⟨g0,0,none⟩) n cap) n xs)
  (g c:Nat) (z:ByteArray) (hx:a.eval x=.slice (some ⟨g,0,none⟩) 1 c) (hc:w.cell? ⟨g,0,none⟩=some (.string z)) (hn:n<=1000000000) (hB:B<=w.heap.size)
  (h:∀ g' cap' w',w'.ownsRow B 9 1 (.slice (some ⟨g',0,none⟩) (n+1) cap') (n+1) (xs ++ [.string z])->w.grownBy w' (some g0)->wpList Tryz.prog ops Q rest (a.put o.dst (.slice (some ⟨g',0,none⟩) (n+1) cap')) w'):wpList Tryz.prog ops Q (o::rest) a w:=by
 obtain ⟨i,hi,hzz⟩:=Option.map_eq_some_iff.1 Tryz.infoS
 simp only [Prod.mk.injEq] at hzz
 obtain ⟨hz,hsz,hby⟩:=hzz
 refine wpList_append_own_at w hgd s x 31 ho B 9 i _ 1 16 Tryz.underlying31 hi hz hsz hby rfl (by omega) _ n xs hs hown ⟨g,0,none⟩ 1 c [.string z] hx rfl (fun j u hj=>?_) (fun u hu=>?_) (by unfold maxLen;omega) (by omega) hB (fun v' w' h1 h2 h3 _=>?_)
 ·match j,hj with
  | 0,hj=>simp at hj;subst hj;simpa [Addr.add] using hc
 ·simp at hu;subst hu;rfl
 ·rcases h1.2 with ⟨e,_⟩|⟨g',cap',cur,e,r⟩
  ·exact absurd (h3.1 e).1 (by simp)
  ·subst e
   exact h g' cap' w' h1 h2
def gpow:String:=(Rows.fnExactFreezeRow.laid.map (·.1)).getD 2 ""
def GTb (w:World):Prop:=Lib.TabIs Tryz.prog w gpow .u64 Lib.pow10Tab
theorem GTb.later {w w' : World} (h:GTb w) (hb:Below w.heap.size w w'):GTb w':=by
 unfold GTb Lib.TabIs World.var? at *
 cases hg:Tryz.prog.globalNamed gpow with
 | none=>simp [hg] at h
 | some g =>
  simp only [hg,Option.bind_some] at h ⊢
  have hlt:g<w.heap.size:=by
   rcases Nat.lt_or_ge g w.heap.size with h' | h'
   ·exact h'
   ·rw [Array.getElem?_eq_none h'] at h;simp at h
  rw [hb.block g hlt]
  exact h
theorem gbel_grow (w:World) (q:Nat) (os:Array Obj):Below w.heap.size w (Sort.grow (w.drewN q) os) :=
 ⟨rfl,rfl,rfl,by simp [Sort.grow],fun i hi=>by
  show ((w.drewN q).heap ++ os)[i]?=_
  rw [Array.getElem?_append_left (by show i<w.heap.size;omega)]
  rfl⟩
def gitoa (n:Int):ByteArray:=⟨(Lib.itoa n).toArray⟩
def g64 (x:Int):Prop:=-9223372036854775808<=x/\x<=9223372036854775807
theorem gfmt_any (n:Int) (w:World) (h:g64 n) (ht:GTb w) :
  Calls Tryz.prog 117 #[.int .i64 n,.int .i64 10] w fun e w'=>e=.returned (.string (gitoa n))/\Below w.heap.size w w' :=
 (Any.strconv_FormatInt_10 Tryz.laysM173 n h.1 h.2 w ht).mono fun _ _ ⟨he,_,_,hw⟩=>⟨he,by rw [hw];exact gbel_grow _ _ _⟩
def textB (l:List Int):ByteArray:=⟨(Lib.join (l.map Lib.itoa) [32]).toArray⟩
set_option maxHeartbeats 1600000 in
theorem joinNumbers_any (v:Value) (l:List Int) (w:World) (hv:IR w v l) (hl:l.length<=100000000) (h64:∀ x,x ∈ l->g64 x) (ht:GTb w) :
  Calls Tryz.prog 77 #[v] w fun e w'=>e=.returned (.string (textB l))/\Below w.heap.size w w':=by
 obtain ⟨va,vc,rfl,_,hvc⟩:=hv
 obtain ⟨wm,hrun,hown,hbm⟩:=make_strs l.length w.heap.size (by omega) w (Nat.le_refl _)
 have HOW:Hid (wm.ownsRow w.heap.size 9 1 (.slice (some ⟨w.heap.size,0,none⟩) 0 l.length) 0 []):=hown
 clear hown
 go_enter Tryz.func77,Tryz.ntmps77
 go_wp2
 go_loopw [3,11] (fun ovv iv wr=>∃ (j g cap:Nat),j<=l.length/\iv=.int .i64 j/\ovv=.slice (some ⟨g,0,none⟩) j cap/\wr.ownsRow w.heap.size 9 1 (.slice (some ⟨g,0,none⟩) j cap) j ((l.take j).map fun x=>.string (gitoa x))/\Below w.heap.size w wr) (fun _ iv _=>l.length - (intOf iv).toNat)
 case atStart=>exact ⟨0,_,_,Nat.zero_le _,rfl,rfl,HOW.out,hbm⟩
 case round =>
  obtain ⟨j,g,cap,hj,rfl,rfl,ho,hb⟩:=hrel
  clear hrun HOW
  by_cases hjl:j<l.length
  ·obtain ⟨vb,vo,rfl,hcw⟩:=hvc j hjl
   have hcr:=cell_later hb hcw
   have TS:Hid ((l.take (j+1)).map (fun x=>Value.string (gitoa x))=(l.take j).map (fun x=>Value.string (gitoa x)) ++ [.string (gitoa (l.getD j 0))]):=(by
    rw [List.take_succ_eq_append_getElem hjl,List.map_append]
    congr 1
    simp [List.getD_eq_getElem?_getD,hjl]:(l.take (j+1)).map (fun x=>Value.string (gitoa x))=(l.take j).map (fun x=>Value.string (gitoa x)) ++ [.string (gitoa (l.getD j 0))])
   have FM:=gfmt_any (l.getD j 0) wr (h64 _ (by simp [hjl])) (ht.later hb)
   generalize gitoa (l.getD j 0)=z at *
   generalize l.getD j 0=x at *
   have hji:(j:Int)<l.length:=by omega
   clear hcw hvc h64 ht
   go_wp2_with fail
   refine FM.mono ?_
   rintro e w1 ⟨rfl,hb1⟩
   have al:=bel_one w1 (.cells #[.string z] 9)
   have ho2:=own_later (own_later ho hb1) al
   have hc:∀ W:World,(W.alloc (.cells #[.string z] 9)).cell? ⟨W.heap.size,0,none⟩=some (.string z):=fun W=>by simp
   have hbw:=bel_after (hb.trans (hb1.mono hb.size)) al
   have sz:=hbw.size
   go_wp2_with (at_builtin;refine app_str _ rfl _ _ rfl w.heap.size _ cap j _ rfl ho2 _ 1 z rfl (hc _) (by omega) sz ?_;intro g4 cap4 w4 o4 gr4)
   exact ⟨⟨j+1,g4,cap4,by omega,by go_num,rfl,by rw [TS.out];exact o4,Below.grown hbw gr4 sz (fun k e=>by cases e;exact (ho.lt _ rfl).1)⟩,by simp [intOf];omega⟩
  ·obtain rfl:j=l.length:=by omega
   rw [List.take_length] at ho
   have hg:=(ho.lt g rfl).2
   have JN:=Any.strings_Join Tryz.lays156 Tryz.Builder_Extra_156 g 0 cap (l.map gitoa) ⟨#[32]⟩ wr (fun i x hx=>by
    obtain ⟨ao,c,e,_,hcell⟩:=own_cell ho
    have hi:i<l.length:=by
     rcases Nat.lt_or_ge i l.length with k|k
     ·exact k
     ·rw [List.getElem?_eq_none (by simpa using k)] at hx;cases hx
    obtain ⟨b,e2,hci⟩:=hcell i hi
    simp only [Value.slice.injEq] at e
    rw [<- e.1] at e2
    cases e2
    rw [Nat.zero_add,hci]
    simp [hi] at hx ⊢
    exact hx) hg (by rw [List.length_map];omega) (by
     rw [List.length_map]
     obtain ⟨_,_,e,hle,_⟩:=own_cell ho
     simp only [Value.slice.injEq] at e
     omega) (by
     have e:(l.map gitoa).map (fun b=>b.data.toList)=l.map Lib.itoa:=by simp [gitoa]
     rw [e]
     have:=join_len l (fun z hz=>Lib.itoa_length_le z (h64 z hz).1 (h64 z hz).2)
     show (Lib.join (l.map Lib.itoa) [32]).length<=_
     omega)
   have JE:Hid (∀ e:Ending,e=.returned (.string ⟨(Lib.join ((l.map gitoa).map (fun b=>b.data.toList)) (⟨#[32]⟩:ByteArray).data.toList).toArray⟩)->e=.returned (.string (textB l))):=fun e he=>by
    rw [he]
    have e2:(l.map gitoa).map (fun b=>b.data.toList)=l.map Lib.itoa:=by simp [gitoa]
    rw [e2]
    rfl
   rw [List.length_map] at JN
   clear ho hvc h64
   go_wp2_with fail
   refine JN.mono ?_
   rintro e w2 ⟨he,hb2⟩
   have he2:=JE.out e he
   clear he JE
   subst he2
   go_wp2
   go_ret
   exact ⟨rfl,hb.trans (hb2.mono hb.size)⟩
def ndTx (n:Nd):ByteArray:=textB (n.cls::n.hash::n.fl)
def nd64 (n:Nd):Prop:=g64 n.cls/\g64 n.hash/\∀ x,x ∈ n.fl->g64 x
theorem nodeText_any (n:Nd) (fv:Value) (w:World) (hv:IR w fv n.fl) (hl:n.fl.length<=10000000) (h64:nd64 n) (ht:GTb w) :
  Calls Tryz.prog 79 #[.agg #[.int .i64 n.cls,.int .i64 n.hash,fv]] w fun e w'=>e=.returned (.string (ndTx n))/\Below w.heap.size w w':=by
 obtain ⟨c,z,f⟩:=n
 simp only at hv hl ⊢
 obtain ⟨fa,fc,rfl,_⟩:=id hv
 have b1:=bel_one w (.cells #[.int .i64 c,.int .i64 z,.slice fa f.length fc] 73)
 have b2:=bel_one (w.alloc (.cells #[.int .i64 c,.int .i64 z,.slice fa f.length fc] 73)) (.cells #[.int .i64 c,.int .i64 z] 2)
 have b3:=bel_one ((w.alloc (.cells #[.int .i64 c,.int .i64 z,.slice fa f.length fc] 73)).alloc (.cells #[.int .i64 c,.int .i64 z] 2)) (.cells #[.slice (some ⟨w.heap.size+1,0,none⟩) 2 2,.slice fa f.length fc] 24)
 have bb:=bel_after (bel_after b1 b2) b3
 have p0:((w.alloc (.cells #[.int .i64 c,.int .i64 z,.slice fa f.length fc] 73)).alloc (.cells #[.int .i64 c,.int .i64 z] 2)).cell? ⟨w.heap.size+1,0,none⟩=some (.int .i64 c):=cell_new _ _ 2 _ (by simp) 0 _ rfl
 have p1:((w.alloc (.cells #[.int .i64 c,.int .i64 z,.slice fa f.length fc] 73)).alloc (.cells #[.int .i64 c,.int .i64 z] 2)).cell? ⟨w.heap.size+1,1,none⟩=some (.int .i64 z):=cell_new _ _ 2 _ (by simp) 1 _ rfl
 have q0:=cell_later b3 p0
 have q1:=cell_later b3 p1
 have r0:(((w.alloc (.cells #[.int .i64 c,.int .i64 z,.slice fa f.length fc] 73)).alloc (.cells #[.int .i64 c,.int .i64 z] 2)).alloc (.cells #[.slice (some ⟨w.heap.size+1,0,none⟩) 2 2,.slice fa f.length fc] 24)).cell? ⟨w.heap.size+1+1,0,none⟩=some (.slice (some ⟨w.heap.size+1,0,none⟩) 2 2):=cell_new _ _ 24 _ (by simp) 0 _ rfl
 have r1:(((w.alloc (.cells #[.int .i64 c,.int .i64 z,.slice fa f.length fc] 73)).alloc (.cells #[.int .i64 c,.int .i64 z] 2)).alloc (.cells #[.slice (some ⟨w.heap.size+1,0,none⟩) 2 2,.slice fa f.length fc] 24)).cell? ⟨w.heap.size+1+1,1,none⟩=some (.slice fa f.length fc):=cell_new _ _ 24 _ (by simp) 1 _ rfl
 have CC:=concat_any (w.heap.size+1+1) (.slice (some ⟨w.heap.size+1,0,none⟩) 2 2) (.slice fa f.length fc) [c,z] f _ r0 r1 ⟨_,2,rfl,Nat.le_refl _,fun i hi=>by
  match i,hi with
  | 0,_=>exact ⟨_,0,rfl,q0⟩
  | 1,_=>exact ⟨_,0,rfl,q1⟩⟩ (hv.later bb) (by simp) (by simp;omega)
 have JN:=fun v W (hb:Below w.heap.size w W) hv=>joinNumbers_any v ([c,z] ++ f) W hv (by simp;omega) (fun x hx=>by
  simp only [List.cons_append,List.nil_append,List.mem_cons] at hx
  rcases hx with rfl|rfl|hx
  ·exact h64.1
  ·exact h64.2.1
  ·exact h64.2.2 x hx) (ht.later hb)
 have LE:Hid (([c,z] ++ f).length=[c,z].length+f.length):=List.length_append
 clear hv p0 p1 q0 q1 r0 r1
 go_enter Tryz.func79,Tryz.ntmps79
 go_wp2_with fail
 refine CC.mono ?_
 rintro e w1 ⟨⟨v',rfl,ho⟩,hb1⟩
 have hbw:=bel_after bb hb1
 rw [<- LE.out] at ho
 go_wp2_with fail
 refine (JN v' w1 hbw (IR_of_owns ho)).mono ?_
 rintro e w2 ⟨rfl,hb2⟩
 go_wp2
 go_ret
 exact ⟨rfl,bel_after hbw hb2⟩
end Go.Proofs.YtgnbibinclepcaaGreatDoor
