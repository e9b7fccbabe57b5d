
import Derived.Test.YtboiknllmnfipaaGreatDoorZU6
import Derived.Test.YtboiknllmnfipaaGreatDoorZShelf
import Derived.Laws.MakeOwn
import Derived.Lib.ItoaLen
import Derived.Deep.RegionHeld3
import Derived.Test.YtboiknllmnfipaaGreatDoorZU0
import Derived.RegionTactic
import Derived.Below
/- Concat, joinNumbers and nodeText of the program: the text of a node. -/
namespace Go.Proofs.YtboiknllmnfipaaGreatDoor
open Go.RowKit
theorem Wf (g n cap c:Nat) (ty:TypeId) (w:World) (h:n<=cap):(Builtin.append_ #[24,24] ty #[.slice (some ⟨g,0,none⟩) n cap,.slice none 0 c]).run Tryz.prog w=.ok (.slice (some ⟨g,0,none⟩) n cap) w:=by
 obtain ⟨i,hi,hzz⟩:=Option.map_eq_some_iff.1 Tryz.infoI
 simp only [Prod.mk.injEq] at hzz
 obtain ⟨hz,hsz,hby⟩:=hzz
 simp [Builtin.append_,run_underlying Tryz.underlying24,sizeOf,typeInfo,hi,Builtin.lenOf,h,run_firstCells_none,storeCells]
section
variable {ops : Array Oper} {rest : List Oper} {o : Oper} {a : Act} {Q : Exit -> Act -> World -> Prop}
theorem Jij (w:World) (hgd:o.guard=none) (s x:Operand) (ho:o.op=.call { callee:=.builtin .append,args:=#[s,x],argTypes:=#[24,24] }) (B g n cap:Nat) (xs:List Value) (hs:a.eval s=.slice (some ⟨g,0,none⟩) n cap) (hown:w.ownsRow B 2 1 (.slice (some ⟨g,0,none⟩) n cap) n xs)
  (u:Value) (l:List Int) (hx:a.eval x=u) (hu:IR w u l) (hn:n+l.length<=1000000000) (hB:B<=w.heap.size)
  (h:∀ g' cap' w',w'.ownsRow B 2 1 (.slice (some ⟨g',0,none⟩) (n+l.length) cap') (n+l.length) (xs ++ icells l)->w.grownBy w' (some g)->wpList Tryz.prog ops Q rest (a.put o.dst (.slice (some ⟨g',0,none⟩) (n+l.length) cap')) w'):wpList Tryz.prog ops Q (o::rest) a w:=by
 obtain ⟨i,hi,hzz⟩:=Option.map_eq_some_iff.1 Tryz.infoI
 simp only [Prod.mk.injEq] at hzz
 obtain ⟨hz,hsz,hby⟩:=hzz
 obtain ⟨ua,uc,rfl,_,huc⟩:=hu
 cases ua with
 | none =>
  have hl:l=[]:=by
   cases l with
   | nil=>rfl
   | cons y r=>obtain ⟨_,_,e,_⟩:=huc 0 (by simp);cases e
  subst hl
  have hc:n<=cap:=by
   rcases hown.2 with ⟨e,_⟩|⟨_,_,_,e,_,_,hle,_⟩
   ·cases e
   ·cases e;exact hle
  refine wpList_plain hgd fun K hK=>?_
  unfold Oper.wp execOp
  simp only [ho,resolve,invoke,builtin,Sem.run_bind,Sem.run_pure,Result.andThen_ok,List.map_toArray,List.map_cons,List.map_nil,hs,hx,List.length_nil,Wf g n cap uc _ w hc]
  exact hK _ _ (h g cap w (by simpa [icells] using hown) (World.grownBy.refl _ _))
 | some ad =>
  refine wpList_append_own_at w hgd s x 24 ho B 2 i _ 1 8 Tryz.underlying24 hi hz hsz hby rfl (by omega) _ n xs hs hown ad l.length uc (icells l) hx (by simp [icells]) (fun j y hj=>?_) (fun y hy=>?_) (by unfold maxLen;omega) (by omega) hB (fun v' w' h1 h2 h3 _=>?_)
  ·have hj' : j<l.length:=by
    rcases Nat.lt_or_ge j l.length with k|k
    ·exact k
    ·rw [List.getElem?_eq_none (by simpa [icells] using k)] at hj;cases hj
   obtain ⟨b,o,e2,hcell⟩:=huc j hj'
   simp only [Option.some.injEq] at e2
   subst e2
   have hy:y=.int .i64 (l.getD j 0):=by
    simp [icells,hj'] at hj
    rw [<- hj]
    simp [hj']
   rw [hy,← hcell]
   unfold Addr.add
   split
   ·subst j;rfl
   ·simp
  ·obtain ⟨z,_,rfl⟩:=List.mem_map.1 hy
   rfl
  ·rcases h1.2 with ⟨e,_⟩|⟨g',cap',cur,e,r⟩
   ·exact absurd (h3.1 e).1 (by simp)
   ·subst e
    exact h g' cap' w' h1 h2
end
set_option maxHeartbeats 1600000 in
theorem Jdo (sb:Nat) (va vb:Value) (la lb:List Int) (w:World) (c0:w.cell? ⟨sb,0,none⟩=some va) (c1:w.cell? ⟨sb,1,none⟩=some vb) (ha:IR w va la) (hb:IR w vb lb) (h0:0<la.length) (hn:la.length+lb.length<=100000000) :
  Calls Tryz.prog 84 #[.slice (some ⟨sb,0,none⟩) 2 2] w fun e w'=>(∃ v',e=.returned v' /\ w'.ownsRow w.heap.size 2 1 v' (la.length+lb.length) (icells (la ++ lb)))/\Below w.heap.size w w':=by
 obtain ⟨aa,ac,rfl,_,_⟩:=id ha
 obtain ⟨ba,bc,rfl,_,_⟩:=id hb
 have G:=Jhi (la.length+lb.length) (by omega) (by omega) w
 have n1:¬ (la.length:Int)<0:=by omega
 have n2:¬ (la.length:Int)+(lb.length:Int)<0:=by omega
 have ec:(((la.length+lb.length:Nat):Int))=(la.length:Int)+(lb.length:Int):=by omega
 rw [ec] at G
 clear ec
 go_enter Tryz.func84,Tryz.ntmps84
 go_wp2
 refine wp_loop_rounds 3 ?_
 rw [rounds_succ]
 go_wp2
 rw [rounds_succ]
 go_wp2
 rw [rounds_succ]
 go_wp2_with fail
 refine G.mono ?_
 rintro e w1 ⟨⟨cap,rfl,ho⟩,hb1⟩
 have s1:=hb1.size
 have k0:=C2 hb1 c0
 have k1:=C2 hb1 c1
 have ha1:=ha.later hb1
 have step:∀ (g' cap' : Nat) (w2:World),w2.ownsRow w.heap.size 2 1 (.slice (some ⟨g',0,none⟩) (0+la.length) cap') (0+la.length) ([] ++ icells la)->w1.grownBy w2 (some w.heap.size)->w2.cell? ⟨sb,1,none⟩=some (.slice ba lb.length bc)/\IR w2 (.slice ba lb.length bc) lb/\Below w.heap.size w w2:=fun g' cap' w2 _ q=>by
  have b2:Below w.heap.size w w2:=Below.grown hb1 q s1 (fun k e=>by cases e;exact Nat.le_refl _)
  exact ⟨C2 b2 c1,hb.later b2,b2⟩
 go_wp2
 refine wp_loop_rounds 3 ?_
 rw [rounds_succ]
 go_wp2_with (at_builtin;refine Jij _ rfl _ _ rfl w.heap.size _ 0 cap [] rfl ho _ la rfl ha1 (by omega) s1 ?_;intro g2 cap2 w2 o2 gr2;(obtain ⟨k12,hb12,bb2⟩:=step g2 cap2 w2 o2 gr2);rw [Nat.zero_add,List.nil_append] at o2;rw [Nat.zero_add])
 rw [rounds_succ]
 go_wp2_with (at_builtin;refine Jij _ rfl _ _ rfl w.heap.size _ la.length cap2 (icells la) rfl o2 _ lb rfl hb12 (by omega) bb2.size ?_;intro g3 cap3 w3 o3 gr3)
 rw [rounds_succ]
 go_wp2
 go_ret
 refine ⟨⟨_,rfl,?_⟩,Below.grown bb2 gr3 bb2.size (fun k e=>by cases e;exact (o2.lt _ rfl).1)⟩
 have e:icells (la ++ lb)=icells la ++ icells lb:=by simp [icells]
 rw [e]
 exact o3
/-! Texts -/
theorem Tryz.infoS:(Tryz.prog.info? 9).map (fun i=>(i.zero,i.size,i.bytes))=some (some (.string ⟨#[]⟩),1,16):=by kernel_rfl
theorem Jfs (n B:Nat) (hn:n<=1000000000) (w:World) (hB:B<=w.heap.size):∃ w',(Instr.makeSlice 124 (.int .i64 0) (.int .i64 (n:Int))).run Tryz.prog w=.ok (.slice (some ⟨w.heap.size,0,none⟩) 0 n) w' /\ w'.ownsRow B 9 1 (.slice (some ⟨w.heap.size,0,none⟩) 0 n) 0 []/\Below w.heap.size w w':=by
 obtain ⟨i,hi,hzz⟩:=Option.map_eq_some_iff.1 Tryz.infoS
 simp only [Prod.mk.injEq] at hzz
 obtain ⟨hz,hsz,hby⟩:=hzz
 obtain ⟨w',h1,h2,h3⟩:=run_make_own (P:=Tryz.prog) w B 124 9 i _ 1 Tryz.underlying124 hi hz hsz .i64 .i64 n (by rw [hby];omega) (by unfold maxLen;omega) hB
 exact ⟨w',h1,h2,⟨h3.os,h3.tape,h3.output,h3.size,fun k hk=>h3.block k hk (by simp)⟩⟩
theorem Jkc {ops:Array Oper} {rest:List Oper} {o:Oper} {a:Act} {Q:Exit->Act->World->Prop} (w:World) (hgd:o.guard=none) (s x:Operand)
  (ho:o.op=.call { callee:=.builtin .append,args:=#[s,x],argTypes:=#[124,124] }) (B g0 cap n:Nat) (xs:List Value) (hs:a.eval s=.slice (some ⟨g0,0,none⟩) n cap) (hown:w.ownsRow B 9 1 (.slice (some ⟨g0,0,none⟩) n cap) n xs)
  (g c:Nat) (z:ByteArray) (hx:a.eval x=.slice (some ⟨g,0,none⟩) 1 c) (hc:w.cell? ⟨g,0,none⟩=some (.string z)) (hn:n<=1000000000) (hB:B<=w.heap.size)
  (h:∀ g' cap' w',w'.ownsRow B 9 1 (.slice (some ⟨g',0,none⟩) (n+1) cap') (n+1) (xs ++ [.string z])->w.grownBy w' (some g0)->wpList Tryz.prog ops Q rest (a.put o.dst (.slice (some ⟨g',0,none⟩) (n+1) cap')) w'):wpList Tryz.prog ops Q (o::rest) a w:=by
 obtain ⟨i,hi,hzz⟩:=Option.map_eq_some_iff.1 Tryz.infoS
 simp only [Prod.mk.injEq] at hzz
 obtain ⟨hz,hsz,hby⟩:=hzz
 refine wpList_append_own_at w hgd s x 124 ho B 9 i _ 1 16 Tryz.underlying124 hi hz hsz hby rfl (by omega) _ n xs hs hown ⟨g,0,none⟩ 1 c [.string z] hx rfl (fun j u hj=>?_) (fun u hu=>?_) (by unfold maxLen;omega) (by omega) hB (fun v' w' h1 h2 h3 _=>?_)
 ·match j,hj with
  | 0,hj=>simp at hj;subst hj;simpa [Addr.add] using hc
 ·simp at hu;subst hu;rfl
 ·rcases h1.2 with ⟨e,_⟩|⟨g',cap',cur,e,r⟩
  ·exact absurd (h3.1 e).1 (by simp)
  ·subst e
   exact h g' cap' w' h1 h2
def gpow:String:=(Rows.fnShapedRow.laid.map (·.1)).getD 2 ""
def GTb (w:World):Prop:=Lib.TabIs Tryz.prog w gpow .u64 Lib.pow10Tab
theorem GTb.later {w w' : World} (h:GTb w) (hb:Below w.heap.size w w'):GTb w':=by
 unfold GTb Lib.TabIs World.var? at *
 cases hg:Tryz.prog.globalNamed gpow with
 | none=>simp [hg] at h
 | some g =>
  simp only [hg,Option.bind_some] at h ⊢
  have hlt:g<w.heap.size:=by
   rcases Nat.lt_or_ge g w.heap.size with h' | h'
   ·exact h'
   ·rw [Array.getElem?_eq_none h'] at h;simp at h
  rw [hb.block g hlt]
  exact h
theorem Jfp (w:World) (q:Nat) (os:Array Obj):Below w.heap.size w (Sort.grow (w.drewN q) os) :=
 ⟨rfl,rfl,rfl,by simp [Sort.grow],fun i hi=>by
  show ((w.drewN q).heap ++ os)[i]?=_
  rw [Array.getElem?_append_left (by show i<w.heap.size;omega)]
  rfl⟩
def gitoa (n:Int):ByteArray:=⟨(Lib.itoa n).toArray⟩
def g64 (x:Int):Prop:=-9223372036854775808<=x/\x<=9223372036854775807
theorem Jje (n:Int) (w:World) (h:g64 n) (ht:GTb w) :
  Calls Tryz.prog 96 #[.int .i64 n,.int .i64 10] w fun e w'=>e=.returned (.string (gitoa n))/\Below w.heap.size w w' :=
 (Any.strconv_FormatInt_10 Tryz.laysM173 n h.1 h.2 w ht).mono fun _ _ ⟨he,_,_,hw⟩=>⟨he,by rw [hw];exact Jfp _ _ _⟩
def Jew (l:List Int):ByteArray:=⟨(Lib.join (l.map Lib.itoa) [32]).toArray⟩
set_option maxHeartbeats 1600000 in
theorem Wc (v:Value) (l:List Int) (w:World) (hv:IR w v l) (hl:l.length<=100000000) (h64:∀ x,x ∈ l->g64 x) (ht:GTb w) :
  Calls Tryz.prog 83 #[v] w fun e w'=>e=.returned (.string (Jew l))/\Below w.heap.size w w':=by
 obtain ⟨va,vc,rfl,_,hvc⟩:=hv
 obtain ⟨wm,hrun,hown,hbm⟩:=Jfs l.length w.heap.size (by omega) w (Nat.le_refl _)
 have HOW:Hid (wm.ownsRow w.heap.size 9 1 (.slice (some ⟨w.heap.size,0,none⟩) 0 l.length) 0 []):=hown
 clear hown
 go_enter Tryz.func83,Tryz.ntmps83
 go_wp2
 go_loopw [3,11] (fun ovv iv wr=>∃ (j g cap:Nat),j<=l.length/\iv=.int .i64 j/\ovv=.slice (some ⟨g,0,none⟩) j cap/\wr.ownsRow w.heap.size 9 1 (.slice (some ⟨g,0,none⟩) j cap) j ((l.take j).map fun x=>.string (gitoa x))/\Below w.heap.size w wr) (fun _ iv _=>l.length - (intOf iv).toNat)
 case atStart=>exact ⟨0,_,_,Nat.zero_le _,rfl,rfl,HOW.out,hbm⟩
 case round =>
  obtain ⟨j,g,cap,hj,rfl,rfl,ho,hb⟩:=hrel
  clear hrun HOW
  by_cases hjl:j<l.length
  ·obtain ⟨vb,vo,rfl,hcw⟩:=hvc j hjl
   have hcr:=C2 hb hcw
   have TS:Hid ((l.take (j+1)).map (fun x=>Value.string (gitoa x))=(l.take j).map (fun x=>Value.string (gitoa x)) ++ [.string (gitoa (l.getD j 0))]):=(by
    rw [List.take_succ_eq_append_getElem hjl,List.map_append]
    congr 1
    simp [List.getD_eq_getElem?_getD,hjl]:(l.take (j+1)).map (fun x=>Value.string (gitoa x))=(l.take j).map (fun x=>Value.string (gitoa x)) ++ [.string (gitoa (l.getD j 0))])
   have FM:=Jje (l.getD j 0) wr (h64 _ (by simp [hjl])) (ht.later hb)
   generalize gitoa (l.getD j 0)=z at *
   generalize l.getD j 0=x at *
   have hji:(j:Int)<l.length:=by omega
   clear hcw hvc h64 ht
   go_wp2_with fail
   refine FM.mono ?_
   rintro e w1 ⟨rfl,hb1⟩
   have al:=C5 w1 (.cells #[.string z] 9)
   have ho2:=E8 (E8 ho hb1) al
   have hc:∀ W:World,(W.alloc (.cells #[.string z] 9)).cell? ⟨W.heap.size,0,none⟩=some (.string z):=fun W=>by simp
   have hbw:=C3 (hb.trans (hb1.mono hb.size)) al
   have sz:=hbw.size
   go_wp2_with (at_builtin;refine Jkc _ rfl _ _ rfl w.heap.size _ cap j _ rfl ho2 _ 1 z rfl (hc _) (by omega) sz ?_;intro g4 cap4 w4 o4 gr4)
   exact ⟨⟨j+1,g4,cap4,by omega,by go_num,rfl,by rw [TS.out];exact o4,Below.grown hbw gr4 sz (fun k e=>by cases e;exact (ho.lt _ rfl).1)⟩,by simp [intOf];omega⟩
  ·obtain rfl:j=l.length:=by omega
   rw [List.take_length] at ho
   have hg:=(ho.lt g rfl).2
   have JN:=Any.strings_Join Tryz.lays156 Tryz.Builder_Extra_156 g 0 cap (l.map gitoa) ⟨#[32]⟩ wr (fun i x hx=>by
    obtain ⟨ao,c,e,_,hcell⟩:=Ww ho
    have hi:i<l.length:=by
     rcases Nat.lt_or_ge i l.length with k|k
     ·exact k
     ·rw [List.getElem?_eq_none (by simpa using k)] at hx;cases hx
    obtain ⟨b,e2,hci⟩:=hcell i hi
    simp only [Value.slice.injEq] at e
    rw [<- e.1] at e2
    cases e2
    rw [Nat.zero_add,hci]
    simp [hi] at hx ⊢
    exact hx) hg (by rw [List.length_map];omega) (by
     rw [List.length_map]
     obtain ⟨_,_,e,hle,_⟩:=Ww ho
     simp only [Value.slice.injEq] at e
     omega) (by
     have e:(l.map gitoa).map (fun b=>b.data.toList)=l.map Lib.itoa:=by simp [gitoa]
     rw [e]
     have:=Jhj l (fun z hz=>Lib.itoa_length_le z (h64 z hz).1 (h64 z hz).2)
     show (Lib.join (l.map Lib.itoa) [32]).length<=_
     omega)
   have JE:Hid (∀ e:Ending,e=.returned (.string ⟨(Lib.join ((l.map gitoa).map (fun b=>b.data.toList)) (⟨#[32]⟩:ByteArray).data.toList).toArray⟩)->e=.returned (.string (Jew l))):=fun e he=>by
    rw [he]
    have e2:(l.map gitoa).map (fun b=>b.data.toList)=l.map Lib.itoa:=by simp [gitoa]
    rw [e2]
    rfl
   rw [List.length_map] at JN
   clear ho hvc h64
   go_wp2_with fail
   refine JN.mono ?_
   rintro e w2 ⟨he,hb2⟩
   have he2:=JE.out e he
   clear he JE
   subst he2
   go_wp2
   go_ret
   exact ⟨rfl,hb.trans (hb2.mono hb.size)⟩
def Y3 (n:Nd):ByteArray:=Jew (n.cls::n.hash::n.fl)
theorem Jhz {a b:Nd} (h:Y3 a=Y3 b):a=b:=by
 unfold Y3 Jew at h
 have h2:=congrArg (fun x=>x.data.toList) h
 simp only at h2
 have:=Jhq h2
 obtain ⟨c,z,f⟩:=a
 obtain ⟨c',z',f'⟩:=b
 simp only [List.cons.injEq] at this
 obtain ⟨rfl,rfl,rfl⟩:=this
 rfl
def Jjt (n:Nd):Prop:=g64 n.cls/\g64 n.hash/\∀ x,x ∈ n.fl->g64 x
theorem Uv (n:Nd) (fv:Value) (w:World) (hv:IR w fv n.fl) (hl:n.fl.length<=10000000) (h64:Jjt n) (ht:GTb w) :
  Calls Tryz.prog 64 #[.agg #[.int .i64 n.cls,.int .i64 n.hash,fv]] w fun e w'=>e=.returned (.string (Y3 n))/\Below w.heap.size w w':=by
 obtain ⟨c,z,f⟩:=n
 simp only at hv hl ⊢
 obtain ⟨fa,fc,rfl,_⟩:=id hv
 have b1:=C5 w (.cells #[.int .i64 c,.int .i64 z,.slice fa f.length fc] 41)
 have b2:=C5 (w.alloc (.cells #[.int .i64 c,.int .i64 z,.slice fa f.length fc] 41)) (.cells #[.int .i64 c,.int .i64 z] 2)
 have b3:=C5 ((w.alloc (.cells #[.int .i64 c,.int .i64 z,.slice fa f.length fc] 41)).alloc (.cells #[.int .i64 c,.int .i64 z] 2)) (.cells #[.slice (some ⟨w.heap.size+1,0,none⟩) 2 2,.slice fa f.length fc] 24)
 have bb:=C3 (C3 b1 b2) b3
 have p0:((w.alloc (.cells #[.int .i64 c,.int .i64 z,.slice fa f.length fc] 41)).alloc (.cells #[.int .i64 c,.int .i64 z] 2)).cell? ⟨w.heap.size+1,0,none⟩=some (.int .i64 c):=E6 _ _ 2 _ (by simp) 0 _ rfl
 have p1:((w.alloc (.cells #[.int .i64 c,.int .i64 z,.slice fa f.length fc] 41)).alloc (.cells #[.int .i64 c,.int .i64 z] 2)).cell? ⟨w.heap.size+1,1,none⟩=some (.int .i64 z):=E6 _ _ 2 _ (by simp) 1 _ rfl
 have q0:=C2 b3 p0
 have q1:=C2 b3 p1
 have r0:(((w.alloc (.cells #[.int .i64 c,.int .i64 z,.slice fa f.length fc] 41)).alloc (.cells #[.int .i64 c,.int .i64 z] 2)).alloc (.cells #[.slice (some ⟨w.heap.size+1,0,none⟩) 2 2,.slice fa f.length fc] 24)).cell? ⟨w.heap.size+1+1,0,none⟩=some (.slice (some ⟨w.heap.size+1,0,none⟩) 2 2):=E6 _ _ 24 _ (by simp) 0 _ rfl
 have r1:(((w.alloc (.cells #[.int .i64 c,.int .i64 z,.slice fa f.length fc] 41)).alloc (.cells #[.int .i64 c,.int .i64 z] 2)).alloc (.cells #[.slice (some ⟨w.heap.size+1,0,none⟩) 2 2,.slice fa f.length fc] 24)).cell? ⟨w.heap.size+1+1,1,none⟩=some (.slice fa f.length fc):=E6 _ _ 24 _ (by simp) 1 _ rfl
 have CC:=Jdo (w.heap.size+1+1) (.slice (some ⟨w.heap.size+1,0,none⟩) 2 2) (.slice fa f.length fc) [c,z] f _ r0 r1 ⟨_,2,rfl,Nat.le_refl _,fun i hi=>by
  match i,hi with
  | 0,_=>exact ⟨_,0,rfl,q0⟩
  | 1,_=>exact ⟨_,0,rfl,q1⟩⟩ (hv.later bb) (by simp) (by simp;omega)
 have JN:=fun v W (hb:Below w.heap.size w W) hv=>Wc v ([c,z] ++ f) W hv (by simp;omega) (fun x hx=>by
  simp only [List.cons_append,List.nil_append,List.mem_cons] at hx
  rcases hx with rfl|rfl|hx
  ·exact h64.1
  ·exact h64.2.1
  ·exact h64.2.2 x hx) (ht.later hb)
 have LE:Hid (([c,z] ++ f).length=[c,z].length+f.length):=List.length_append
 clear hv p0 p1 q0 q1 r0 r1
 go_enter Tryz.func64,Tryz.ntmps64
 go_wp2_with fail
 refine CC.mono ?_
 rintro e w1 ⟨⟨v',rfl,ho⟩,hb1⟩
 have hbw:=C3 bb hb1
 rw [<- LE.out] at ho
 go_wp2_with fail
 refine (JN v' w1 hbw (E9 ho)).mono ?_
 rintro e w2 ⟨rfl,hb2⟩
 go_wp2
 go_ret
 exact ⟨rfl,C3 hbw hb2⟩
end Go.Proofs.YtboiknllmnfipaaGreatDoor
/- sameNode, slices.EqualFunc and SameGraph of the program. -/
namespace Go.Proofs.YtboiknllmnfipaaGreatDoor
open Go.RowKit
theorem Jmy {W a b:World} {N M:Nat} {u0 u1 u2 x0 x1 x2:Value} (k:Below a.heap.size a b) (h:Below W.heap.size W a/\(a.cell? ⟨N,0,none⟩=some u0/\a.cell? ⟨N,1,none⟩=some u1/\a.cell? ⟨N,2,none⟩=some u2)/\(a.cell? ⟨M,0,none⟩=some x0/\a.cell? ⟨M,1,none⟩=some x1/\a.cell? ⟨M,2,none⟩=some x2)) :
  Below W.heap.size W b/\(b.cell? ⟨N,0,none⟩=some u0/\b.cell? ⟨N,1,none⟩=some u1/\b.cell? ⟨N,2,none⟩=some u2)/\(b.cell? ⟨M,0,none⟩=some x0/\b.cell? ⟨M,1,none⟩=some x1/\b.cell? ⟨M,2,none⟩=some x2) :=
 ⟨C3 h.1 k,⟨C2 k h.2.1.1,C2 k h.2.1.2.1,C2 k h.2.1.2.2⟩,C2 k h.2.2.1,C2 k h.2.2.2.1,C2 k h.2.2.2.2⟩
noncomputable def Jaf (a b:Nd):Bool:=@decide (a=b) (Classical.propDecidable _)
theorem Jfn (a b:Nd):((Y3 a).toList == (Y3 b).toList)=Jaf a b:=by
 unfold Jaf
 by_cases h:a=b
 ·subst h
  rw [@decide_eq_true _ (Classical.propDecidable _) rfl]
  simp
 ·rw [@decide_eq_false _ (Classical.propDecidable _) h]
  rw [Bool.eq_false_iff]
  intro q
  refine h (Jhz (ByteArray.ext ?_))
  simp at q
  rw [ByteArray.toList_eq,ByteArray.toList_eq] at q
  exact Array.toList_inj.1 q
set_option maxHeartbeats 1600000 in
theorem Z4 (m n:Nd) (fu fv:Value) (w:World) (hu:IR w fu m.fl) (hv:IR w fv n.fl) (lu:m.fl.length<=10000000) (lv:n.fl.length<=10000000) (mu:Jjt m) (mv:Jjt n) (ht:GTb w) :
  Calls Tryz.prog 44 #[.agg #[.int .i64 m.cls,.int .i64 m.hash,fu],.agg #[.int .i64 n.cls,.int .i64 n.hash,fv]] w fun e w'=>e=.returned (.bool (Jaf m n))/\Below w.heap.size w w':=by
 obtain ⟨ua,uc,rfl,_⟩:=id hu
 obtain ⟨va,vc,rfl,_⟩:=id hv
 have b1:=C5 w (.cells #[.int .i64 m.cls,.int .i64 m.hash,.slice ua m.fl.length uc] 41)
 have b2:=C5 (w.alloc (.cells #[.int .i64 m.cls,.int .i64 m.hash,.slice ua m.fl.length uc] 41)) (.cells #[.int .i64 n.cls,.int .i64 n.hash,.slice va n.fl.length vc] 41)
 have bb:=C3 b1 b2
 have C0:∀ i x,#[Value.int .i64 m.cls,.int .i64 m.hash,.slice ua m.fl.length uc][i]?=some x->((w.alloc (.cells #[.int .i64 m.cls,.int .i64 m.hash,.slice ua m.fl.length uc] 41)).alloc (.cells #[.int .i64 n.cls,.int .i64 n.hash,.slice va n.fl.length vc] 41)).cell? ⟨w.heap.size,i,none⟩=some x:=fun i x hx=>C2 b2 (E6 w _ 41 _ rfl i x hx)
 have C1:∀ i x,#[Value.int .i64 n.cls,.int .i64 n.hash,.slice va n.fl.length vc][i]?=some x->((w.alloc (.cells #[.int .i64 m.cls,.int .i64 m.hash,.slice ua m.fl.length uc] 41)).alloc (.cells #[.int .i64 n.cls,.int .i64 n.hash,.slice va n.fl.length vc] 41)).cell? ⟨w.heap.size+1,i,none⟩=some x:=fun i x hx=>E6 _ _ 41 _ (by simp) i x hx
 have p0:=C0 0 _ rfl
 have p1:=C0 1 _ rfl
 have p2:=C0 2 _ rfl
 have q0:=C1 0 _ rfl
 have q1:=C1 1 _ rfl
 have q2:=C1 2 _ rfl
 have TM:=fun W (h:Below w.heap.size w W)=>Uv m _ W (hu.later h) lu mu (ht.later h)
 have TN:=fun W (h:Below w.heap.size w W)=>Uv n _ W (hv.later h) lv mv (ht.later h)
 have NE:Hid (∀ x,x=((Y3 m).toList == (Y3 n).toList)->x=Jaf m n):=fun x e=>by rw [e,Jfn]
 clear C0 C1 hu hv
 generalize Y3 m=s at *
 generalize Y3 n=t at *
 go_enter Tryz.func44,Tryz.ntmps44
 go_wp2_with fail
 generalize hW0:(w.alloc (.cells #[.int .i64 m.cls,.int .i64 m.hash,.slice ua m.fl.length uc] 41)).alloc (.cells #[.int .i64 n.cls,.int .i64 n.hash,.slice va n.fl.length vc] 41)=W0 at *
 have l0:=World.block_lt_of_cell? _ _ p0
 have l1:=World.block_lt_of_cell? _ _ q0
 go_region_held3 (fun w'=>Below W0.heap.size W0 w' /\ (w'.cell? ⟨w.heap.size,0,none⟩=some (.int .i64 m.cls)/\w'.cell? ⟨w.heap.size,1,none⟩=some (.int .i64 m.hash)/\w'.cell? ⟨w.heap.size,2,none⟩=some (.slice ua m.fl.length uc))/\(w'.cell? ⟨w.heap.size+1,0,none⟩=some (.int .i64 n.cls)/\w'.cell? ⟨w.heap.size+1,1,none⟩=some (.int .i64 n.hash)/\w'.cell? ⟨w.heap.size+1,2,none⟩=some (.slice va n.fl.length vc)))
  (first|assumption|exact ⟨(Below.refl _ _).drew,⟨p0,p1,p2⟩,q0,q1,q2⟩|exact Jmy (by assumption) (by assumption))
  (first
   | (go_at_call 64;with_reducible refine (TM _ (C3 bb (And.left (by assumption)))).mono ?_;rintro e w2 ⟨rfl,hb2⟩)
   | (go_at_call 64;with_reducible refine (TN _ (C3 bb (And.left (by assumption)))).mono ?_;rintro e w3 ⟨rfl,hb3⟩))
 all_goals go_wp2
 all_goals go_ret
 all_goals exact ⟨congrArg (fun x=>Ending.returned (.bool x)) (NE.out _ rfl),C3 bb (C3 (C3 (Below.refl _ _).drew hb2) hb3)⟩
theorem ndEq_true {a b:Nd}:Jaf a b=true ↔ a=b:=by
 unfold Jaf
 exact ⟨fun h=>@of_decide_eq_true _ (Classical.propDecidable _) h,fun h=>@decide_eq_true _ (Classical.propDecidable _) h⟩
noncomputable def V6 (a b:List Nd):Bool:=@decide (a=b) (Classical.propDecidable _)
theorem Wn {a b:List Nd} (h:a ≠ b):V6 a b=false:=@decide_eq_false _ (Classical.propDecidable _) h
theorem Jce {a b:List Nd} (h:a=b):V6 a b=true:=@decide_eq_true _ (Classical.propDecidable _) h
theorem Ya {a b:List Nd} (hl:a.length=b.length) (h:∀ j,j<a.length->a.getD j nd0=b.getD j nd0):a=b:=by
 refine List.ext_getElem hl fun i h1 h2=>?_
 have:=h i h1
 simpa [List.getD_eq_getElem?_getD,h1,h2] using this
def U6 (l:List Nd):Prop:=∀ n,n ∈ l->Jjt n/\n.fl.length<=10000000
set_option maxHeartbeats 1600000 in
theorem Yx (v u:Value) (a b:List Nd) (w:World) (hv:NR w v a) (hu:NR w u b) (h1:a.length<=1000000000) (sa:U6 a) (sb:U6 b) (ht:GTb w) :
  Calls Tryz.prog 43 #[v,u,.func (.func 44) #[] #[]] w fun e w'=>e=.returned (.bool (V6 a b))/\Below w.heap.size w w':=by
 obtain ⟨va,vc,rfl,_,hvc⟩:=hv
 obtain ⟨ua,uc,rfl,_,huc⟩:=hu
 by_cases hl:a.length=b.length
 ·have hl' : ((a.length:Int) != (b.length:Int))=false:=by simp [hl]
  have HL:Hid (a.length=b.length):=hl
  clear hl
  go_enter Tryz.func43,Tryz.ntmps43
  go_wp2
  go_loopw [17] (fun iv wr=>∃ k:Nat,iv=.int .i64 k/\k<=a.length/\Hid (∀ j,j<k->a.getD j nd0=b.getD j nd0)/\Below w.heap.size w wr) (fun iv _=>a.length - (intOf iv).toNat)
  case atStart=>exact ⟨0,rfl,Nat.zero_le _,fun j hj=>absurd hj (by omega),Below.refl _ _⟩
  case round =>
   obtain ⟨k,rfl,hk,hj,hb⟩:=hrel
   by_cases hkl:k<a.length
   ·obtain ⟨vb,vo,fa,fn,fc,rfl,c0,c1,c2,cr⟩:=hvc k hkl
    obtain ⟨ub,uo,ga,gn,gc,rfl,d0,d1,d2,dr⟩:=huc k (by rw [<- HL.out];exact hkl)
    have ma:=sa (a.getD k nd0) (by simp [hkl])
    have hkb' : k<b.length:=by rw [<- HL.out];exact hkl
    have mb:=sb (b.getD k nd0) (by simp [hkb'])
    have e0:=C2 hb c0
    have e1:=C2 hb c1
    have e2:=C2 hb c2
    have g0:=C2 hb d0
    have g1:=C2 hb d1
    have g2:=C2 hb d2
    have hkb:(k:Int)<b.length:=by have:=HL.out;omega
    have hki:(k:Int)<a.length:=by omega
    have SN:=fun W (q:Below wr.heap.size wr W)=>Z4 (a.getD k nd0) (b.getD k nd0) (.slice fa fn fc) (.slice ga gn gc) W ((cr.later hb).later q) ((dr.later hb).later q) ma.2 mb.2 ma.1 mb.1 ((ht.later hb).later q)
    have YES:Hid (Jaf (a.getD k nd0) (b.getD k nd0)=true->∀ j,j<k+1->a.getD j nd0=b.getD j nd0):=fun e=>J9 hj.out (ndEq_true.1 e)
    have NO:Hid (Jaf (a.getD k nd0) (b.getD k nd0)=false->V6 a b=false):=fun e=>Wn (fun q=>by rw [q,ndEq_true.2 rfl] at e;cases e)
    have al1:=C5 wr (.cells #[.int .i64 (a.getD k nd0).cls,.int .i64 (a.getD k nd0).hash,.slice fa fn fc] 41)
    have al2:=C5 (wr.alloc (.cells #[.int .i64 (a.getD k nd0).cls,.int .i64 (a.getD k nd0).hash,.slice fa fn fc] 41)) (.cells #[.int .i64 (b.getD k nd0).cls,.int .i64 (b.getD k nd0).hash,.slice ga gn gc] 41)
    have SN2:=SN _ (C3 al1 al2)
    have lu:=World.block_lt_of_cell? _ _ g0
    have hbb:=C3 hb (C3 al1 al2)
    generalize (a.getD k nd0).cls=x at *
    generalize (a.getD k nd0).hash=y at *
    generalize (b.getD k nd0).cls=x' at *
    generalize (b.getD k nd0).hash=y' at *
    generalize Jaf (a.getD k nd0) (b.getD k nd0)=r at *
    clear c0 c1 c2 d0 d1 d2 cr dr hvc huc SN sa sb ma mb hj ht
    go_wp2_with fail
    refine SN2.mono ?_
    rintro e w2 ⟨rfl,hb2⟩
    cases r
    ·have G:=NO.out rfl
     have HG:Hid (V6 a b=false):=G
     clear G NO YES
     go_wp2
     go_ret
     exact ⟨J7 HG.out.symm,C3 hbb hb2⟩
    ·have G:=YES.out rfl
     clear NO YES
     go_wp2
     exact ⟨⟨k+1,by go_num,by omega,G,C3 hbb hb2⟩,by simp [intOf];omega⟩
   ·obtain rfl:k=a.length:=by omega
    have HG:Hid (V6 a b=true):=Jce (Ya HL.out hj.out)
    clear hvc huc
    go_wp2
    go_ret
    exact ⟨J7 HG.out.symm,hb⟩
 ·have hl' : ((a.length:Int) != (b.length:Int))=true:=by simp;omega
  have HG:Hid (V6 a b=false):=Wn (fun e=>hl (by rw [e]))
  clear hvc huc hl
  go_enter Tryz.func43,Tryz.ntmps43
  go_wp2
  go_ret
  exact ⟨J7 HG.out.symm,Below.refl _ _⟩
end Go.Proofs.YtboiknllmnfipaaGreatDoor
/- The numbers of a right heap's shape are of 64 bits. -/
namespace Go.Proofs.YtboiknllmnfipaaGreatDoor
open Go.RowKit
theorem Jkr {x:Int} (h:¬ H8 x=0) : -10000000000<=x/\x<=10000000000:=by
 by_cases e:x % 2=0
 ·rw [Ro e] at h
  split at h
  ·rename_i q
   unfold Xp at q
   simp at q
   omega
  ·exact absurd rfl h
 ·rw [Qh e] at h
  split at h
  ·rename_i q
   unfold Rq at q
   simp at q
   omega
  ·exact absurd rfl h
theorem Jhv {F:List Nat} {x:Int} (hF:F.length<=100000) (h:¬ H8 x=0):g64 (ren F x):=by
 have b:=Jkr h
 unfold ren g64
 split
 ·have:F.idxOf (x / 2).toNat<=F.length:=List.idxOf_le_length
  omega
 ·omega
theorem Jmx {h:Hp} (k:okC h=true):U6 (shC h).nodes:=by
 have R:=Oa k
 have SM:=Jcb k
 intro n hn
 refine ⟨?_,by have:=SM.2.2 n hn;omega⟩
 have e:(shC h).nodes=(C8 h.words h.roots).map (J3 h.words (C8 h.words h.roots)):=by
  unfold shC
  rw [if_pos k]
  rfl
 rw [e] at hn
 obtain ⟨a,ha,rfl⟩:=List.mem_map.1 hn
 have ho:=Sb R ha
 have hd:=(R.1.obj ho).2.2
 unfold M7 at hd
 simp only [Bool.and_eq_true,decide_eq_true_eq] at hd
 have h1:=R.2.2.2.1 a ho
 have h2:=R.2.2.2.2.1.1 a ho
 have h3:=R.2.2.1.2
 have hl:=O7 R
 refine ⟨?_,?_,?_⟩
 ·show g64 (gw h.words (a+1))
  unfold g64
  omega
 ·show g64 (gw h.words (a+2))
  unfold g64
  omega
 ·intro x hx
  obtain ⟨y,hy,rfl⟩:=List.mem_map.1 hx
  exact Jhv (by omega) (Pl ((fld_mem (p:=I8 (obC h))).2 (R.2.2.2.2.2.2.2.1 a ho) y hy))
end Go.Proofs.YtboiknllmnfipaaGreatDoor
/- The draw kit of the model, beside heaps. -/
namespace Go.Proofs.YtboiknllmnfipaaGreatDoor
open Go.RowKit
def BR (w:World) (v:Value) (l:List UInt8):Prop :=
 ∃ ao cap,v=.slice ao l.length cap/\l.length<=cap/\∀ i (h:i<l.length),∃ b o,ao=some ⟨b,o,none⟩/\w.cell? ⟨b,o+i,none⟩=some (.int .u8 (l[i].toNat:Int))
theorem BR.later {w w' : World} {v:Value} {l:List UInt8} (h:BR w v l) (hb:Below w.heap.size w w'):BR w' v l:=by
 obtain ⟨ao,cap,rfl,hle,h⟩:=h
 exact ⟨ao,cap,rfl,hle,fun i hi=>by obtain ⟨b,o,e,hc⟩:=h i hi;exact ⟨b,o,e,C2 hb hc⟩⟩
theorem Jgw (a:Int):0<=bits .and .i64 a 255/\bits .and .i64 a 255<=255:=by
 have key:bits .and .i64 a 255=(((BitVec.ofInt 64 a) &&& (BitVec.ofInt 64 255)).toNat:Int):=by
  unfold bits
  show IntKind.wrap .i64 ((((BitVec.ofInt 64 a) &&& (BitVec.ofInt 64 255)).toNat:Nat):Int)=_
  have hle:((BitVec.ofInt 64 a) &&& (BitVec.ofInt 64 255)).toNat<=255:=by
   rw [BitVec.toNat_and]
   exact Nat.le_trans Nat.and_le_right (by decide)
  generalize ((BitVec.ofInt 64 a) &&& (BitVec.ofInt 64 255)).toNat=k at *
  simp [IntKind.wrap,IntKind.bits,IntKind.signed]
  omega
 have hle:((BitVec.ofInt 64 a) &&& (BitVec.ofInt 64 255)).toNat<=255:=by
  rw [BitVec.toNat_and]
  exact Nat.le_trans Nat.and_le_right (by decide)
 rw [key]
 omega
theorem gdrew {w w' : World} {r:Option Nat} (h:w.grownBy w' r):w.grownBy w'.drew r:=⟨h.os,h.tape,h.output,h.size,h.block⟩
theorem gtrans {a w w' : World} {r:Option Nat} (h:a.grownBy w r) (k:w.grownBy w' r):a.grownBy w' r :=
 ⟨k.os.trans h.os,k.tape.trans h.tape,k.output.trans h.output,Nat.le_trans h.size k.size,fun b hb e=>(k.block b (Nat.lt_of_lt_of_le hb h.size) e).trans (h.block b hb e)⟩
theorem Zg (w:World) (b i:Nat) (v:Value):w.grownBy (w.setCell ⟨b,i,none⟩ v) (some b) :=
 ⟨rfl,rfl,rfl,by simp [World.setCell],fun k _ hr=>Below.heap_setCell _ _ _ _ (fun e=>hr (by rw [e]))⟩
theorem Sv {w w' : World} {N:Nat} (h:w.grownBy w' (some N)) (i:Nat) (v:Value):w.grownBy (w'.setCell ⟨N,i,none⟩ v) (some N):=gtrans h (Zg _ _ _ _)
structure Dr (N:Nat) (cv:Value) (n:Nat) (w:World):Prop where
 c0:w.cell? ⟨N,0,none⟩=some cv
 c1:∃ p:Nat,p<=n/\w.cell? ⟨N,1,none⟩=some (.int .i64 p)
 c2:∃ h:Int,w.cell? ⟨N,2,none⟩=some (.int .i64 h)
 f1:w.frozen? ⟨N,1,none⟩=false
 f2:w.frozen? ⟨N,2,none⟩=false
theorem Dr.drew {N n:Nat} {cv:Value} {w:World} (h:Dr N cv n w):Dr N cv n w.drew:=⟨h.c0,h.c1,h.c2,h.f1,h.f2⟩
theorem Dr.set2 {N n:Nat} {cv:Value} {w:World} (h:Dr N cv n w) (H:Int):Dr N cv n (w.setCell ⟨N,2,none⟩ (.int .i64 H)):=by
 obtain ⟨c0,⟨p,hp,c1⟩,⟨h,c2⟩,f1,f2⟩:=h
 exact ⟨(World.cell?_setCell_other _ _ _ _ (by simp)).trans c0,⟨p,hp,(World.cell?_setCell_other _ _ _ _ (by simp)).trans c1⟩,⟨H,World.cell?_setCell_same _ _ _ c2⟩,(World.frozen?_setCell ..).trans f1,(World.frozen?_setCell ..).trans f2⟩
theorem Dr.set1 {N n:Nat} {cv:Value} {w:World} (h:Dr N cv n w) (q:Int) (p:Nat) (e:q=p) (hp:p<=n):Dr N cv n (w.setCell ⟨N,1,none⟩ (.int .i64 q)):=by
 obtain ⟨c0,⟨p',hp',c1⟩,⟨h,c2⟩,f1,f2⟩:=h
 subst e
 exact ⟨(World.cell?_setCell_other _ _ _ _ (by simp)).trans c0,⟨p,hp,World.cell?_setCell_same _ _ _ c1⟩,⟨h,(World.cell?_setCell_other _ _ _ _ (by simp)).trans c2⟩,(World.frozen?_setCell ..).trans f1,(World.frozen?_setCell ..).trans f2⟩
set_option maxRecDepth 100000 in
set_option maxHeartbeats 3200000 in
theorem Jcs (N:Nat) (cv:Value) (cs:List UInt8) (w:World) (hc:BR w cv cs) (hn:cs.length<=4096) (hd:Dr N cv cs.length w) (hlow:∀ a n c,cv=.slice (some a) n c->0<n->a.block ≠ N) :
  Calls Tryz.prog 74 #[.pointer (some ⟨N,0,none⟩)] w fun x w'=>(∃ z:Int,x=.returned (.int .i64 z)/\0<=z/\z<=255)/\w.grownBy w' (some N)/\Dr N cv cs.length w':=by
 have HD:Hid (Dr N cv cs.length w):=hd
 obtain ⟨c0,⟨p,hp,c1⟩,⟨h,c2⟩,f1,f2⟩:=hd
 obtain ⟨ao,cap,rfl,hcap,hr⟩:=hc
 by_cases hlt:p<cs.length
 ·obtain ⟨b,o,rfl,hx⟩:=hr p hlt
  have hbN:¬ b=N:=hlow _ _ _ rfl (by omega)
  have hNb:¬ N=b:=fun e=>hbN e.symm
  have hlt' : decide ((p:Int)<(cs.length:Int))=true:=by simp;omega
  clear hr hlow
  go_enter Tryz.func74,Tryz.ntmps74
  go_wp2
  generalize wrap64 (wrap64 (h * 6364136223846793005)+1442695040888963407)=H
  go_region
  all_goals go_wp2
  all_goals generalize bits BinOp.and IntKind.i64 (bits BinOp.xor IntKind.i64 (H / 8589934592) (H / 35184372088832)) 255=z
  all_goals go_region
  all_goals go_wp2
  all_goals go_region
  all_goals go_wp2
  all_goals
   have Z:=Jgw (wrap64 (z+wrap64 ↑cs[p].toNat))
   go_ret
   refine ⟨⟨_,rfl,Z.1,Z.2⟩,?_,?_⟩
   ·first|exact Sv (Sv (World.grownBy.refl _ _) 2 _) 1 _|exact gdrew (Sv (Sv (World.grownBy.refl _ _) 2 _) 1 _)|exact gdrew (gdrew (Sv (Sv (World.grownBy.refl _ _) 2 _) 1 _))|exact gdrew (gdrew (gdrew (Sv (Sv (World.grownBy.refl _ _) 2 _) 1 _)))
   ·first|exact ((HD.out.set2 H).set1 _ (p+1) (by simp) (by omega)).drew.drew.drew|exact ((HD.out.set2 H).set1 _ (p+1) (by simp) (by omega)).drew.drew|exact ((HD.out.set2 H).set1 _ (p+1) (by simp) (by omega)).drew
 ·obtain rfl:p=cs.length:=by omega
  have hlt' : decide ((cs.length:Int)<(cs.length:Int))=false:=by simp
  clear hr hlow
  go_enter Tryz.func74,Tryz.ntmps74
  go_wp2
  generalize wrap64 (wrap64 (h * 6364136223846793005)+1442695040888963407)=H
  have Z:=Jgw (bits BinOp.xor IntKind.i64 (H / 8589934592) (H / 35184372088832))
  go_region
  all_goals go_wp2
  all_goals generalize bits BinOp.and IntKind.i64 (bits BinOp.xor IntKind.i64 (H / 8589934592) (H / 35184372088832)) 255=z at *
  all_goals go_region
  all_goals go_wp2
  all_goals go_ret
  all_goals
   refine ⟨⟨z,rfl,Z.1,Z.2⟩,?_,?_⟩
   ·first|exact Sv (World.grownBy.refl _ _) 2 _|exact gdrew (Sv (World.grownBy.refl _ _) 2 _)|exact gdrew (gdrew (Sv (World.grownBy.refl _ _) 2 _))
   ·first|exact (HD.out.set2 H).drew.drew|exact (HD.out.set2 H).drew|exact HD.out.set2 H
def Off (N:Nat) (cv:Value):Prop:=∀ a n c,cv=.slice (some a) n c->0<n->a.block ≠ N
theorem BR.grown {w w' : World} {v:Value} {l:List UInt8} {N:Nat} (h:BR w v l) (hg:w.grownBy w' (some N)) (ho:Off N v):BR w' v l:=by
 obtain ⟨ao,cap,rfl,hle,h⟩:=h
 refine ⟨ao,cap,rfl,hle,fun i hi=>?_⟩
 obtain ⟨b,o,rfl,hc⟩:=h i hi
 exact ⟨b,o,rfl,hg.cell hc (fun e=>ho _ _ _ rfl (by omega) (Option.some.inj e))⟩
structure Dw (N:Nat) (cv:Value) (cs:List UInt8) (w:World):Prop where
 br:BR w cv cs
 len:cs.length<=4096
 dr:Dr N cv cs.length w
 off:Off N cv
theorem Dw.byte {N:Nat} {cv:Value} {cs:List UInt8} {w:World} (h:Dw N cv cs w) :
  Calls Tryz.prog 74 #[.pointer (some ⟨N,0,none⟩)] w fun x w'=>(∃ z:Int,x=.returned (.int .i64 z)/\0<=z/\z<=255)/\w.grownBy w' (some N)/\Dw N cv cs w' :=
 (Jcs N cv cs w h.br h.len h.dr h.off).mono fun _ _ ⟨a,g,d⟩=>⟨a,g,h.br.grown g h.off,h.len,d,h.off⟩
set_option maxRecDepth 100000 in
set_option maxHeartbeats 1600000 in
theorem Dw.below {N:Nat} {cv:Value} {cs:List UInt8} {w:World} (h:Dw N cv cs w) (n:Int) (h0:0<n) (h1:n<=256) :
  Calls Tryz.prog 59 #[.pointer (some ⟨N,0,none⟩),.int .i64 n] w fun x w'=>(∃ z:Int,x=.returned (.int .i64 z)/\0<=z/\z<n)/\w.grownBy w' (some N)/\Dw N cv cs w':=by
 have B:=h.byte
 have e1:decide (n<=0)=false:=by simp;omega
 have e2:decide (n<=256)=true:=by simp;omega
 go_enter Tryz.func59,Tryz.ntmps59
 go_wp2_with fail
 refine B.mono ?_
 rintro x w1 ⟨⟨z,rfl,z0,z1⟩,g1,d1⟩
 clear B
 have nz:¬ n=0:=by omega
 have hm:Int.tmod z n=z % n:=Int.tmod_eq_emod_of_nonneg z0
 have hm0:0<=z % n:=Int.emod_nonneg z nz
 have hm1:z % n<n:=Int.emod_lt_of_pos z h0
 go_wp2
 go_ret
 exact ⟨⟨_,rfl,by first|omega|(rw [hm];omega),by first|omega|(rw [hm];omega)⟩,g1,d1⟩
set_option maxRecDepth 100000 in
set_option maxHeartbeats 1600000 in
theorem Dw.once {N:Nat} {cv:Value} {cs:List UInt8} {w:World} (h:Dw N cv cs w) (n:Int) (h0:0<n) (h1:n<=256) :
  Calls Tryz.prog 58 #[.pointer (some ⟨N,0,none⟩),.int .i64 n] w fun x w'=>(∃ b:Bool,x=.returned (.bool b))/\w.grownBy w' (some N)/\Dw N cv cs w':=by
 have B:=h.below n h0 h1
 go_enter Tryz.func58,Tryz.ntmps58
 go_wp2_with fail
 refine B.mono ?_
 rintro x w1 ⟨⟨z,rfl,z0,z1⟩,g1,d1⟩
 go_wp2
 go_ret
 exact ⟨⟨_,rfl⟩,g1,d1⟩
set_option maxRecDepth 100000 in
set_option maxHeartbeats 1600000 in
theorem Zl (cv:Value) (cs:List UInt8) (w:World) (hc:BR w cv cs) (hn:cs.length<=4096) :
  Calls Tryz.prog 37 #[cv] w fun x w'=>∃ N,x=.returned (.pointer (some ⟨N,0,none⟩))/\w.heap.size<=N/\N<w'.heap.size/\Below w.heap.size w w' /\ Dw N cv cs w':=by
 have hC:=hc
 obtain ⟨ao,cap,rfl,hcap,hr⟩:=hc
 have lt:∀ a n c,Value.slice ao cs.length cap=.slice (some a) n c->0<n->a.block<w.heap.size:=by
  intro a n c e hp
  simp only [Value.slice.injEq] at e
  obtain ⟨rfl,rfl,_⟩:=e
  obtain ⟨b,o,e2,hc⟩:=hr 0 hp
  simp only [Option.some.injEq] at e2
  subst e2
  exact World.block_lt_of_cell? _ _ hc
 go_enter Tryz.func37,Tryz.ntmps37
 go_wp2
 go_loopw [3,4] (fun hv iv wr=>∃ (k:Nat) (H:Int),k<=cs.length/\iv=.int .i64 k/\hv=.int .i64 H/\Below w.heap.size w wr) (fun _ iv _=>cs.length - (intOf iv).toNat)
 case atStart=>exact ⟨0,_,Nat.zero_le _,rfl,rfl,Below.refl _ _⟩
 case round =>
  obtain ⟨k,H,hk,rfl,rfl,hb⟩:=hrel
  by_cases hlt:k<cs.length
  ·obtain ⟨b,o,rfl,hx⟩:=hr k hlt
   have hx1:=C2 hb hx
   clear hr hx lt hC
   go_wp2
   exact ⟨⟨k+1,_,by omega,by go_num,rfl,hb⟩,by simp [intOf];omega⟩
  ·obtain rfl:k=cs.length:=by omega
   go_wp2
   go_ret
   have hal:=C3 hb (C5 wr (.cells #[.slice ao cs.length cap,.int .i64 0,.int .i64 H] 82))
   exact ⟨wr.heap.size,rfl,hb.size,by simp,hal,hC.later hal,hn,⟨by simp,⟨0,Nat.zero_le _,by simp⟩,⟨H,by simp⟩,by simp,by simp⟩,fun a n c e hp he=>by have:=lt a n c e hp;have:=hb.size;omega⟩
theorem gmix {w a b:World} {N:Nat} {row:Option Nat} (h:w.grownBy a (some N)) (g:a.grownBy b row) (hr:∀ k,row=some k->w.heap.size<=k):w.grownBy b (some N) :=
 ⟨g.os.trans h.os,g.tape.trans h.tape,g.output.trans h.output,Nat.le_trans h.size g.size,fun k hk e=>(g.block k (Nat.lt_of_lt_of_le hk h.size) (fun e2=>by have:=hr k e2.symm;omega)).trans (h.block k hk e)⟩
theorem Dr.grown {N n:Nat} {cv:Value} {a b:World} {row:Option Nat} (h:Dr N cv n a) (g:a.grownBy b row) (hne:some N ≠ row) (hN:N<a.heap.size):Dr N cv n b:=by
 obtain ⟨c0,⟨p,hp,c1⟩,⟨q,c2⟩,f1,f2⟩:=h
 exact ⟨g.cell c0 hne,⟨p,hp,g.cell c1 hne⟩,⟨q,g.cell c2 hne⟩,(World.frozen?_of_block (w:=a) (g.block N hN hne)).trans f1,(World.frozen?_of_block (w:=a) (g.block N hN hne)).trans f2⟩
theorem Dw.grown {N:Nat} {cv:Value} {cs:List UInt8} {w a b:World} {row:Option Nat} (h0:Dw N cv cs w) (hb:w.grownBy b (some N)) (h:Dw N cv cs a) (g:a.grownBy b row) (hne:some N ≠ row) (hN:N<a.heap.size):Dw N cv cs b :=
 ⟨h0.br.grown hb h0.off,h0.len,h.dr.grown g hne hN,h0.off⟩
theorem gbel {B N:Nat} {w a b:World} (h:Below B w a) (g:a.grownBy b (some N)) (hB:B<=a.heap.size) (hN:B<=N):Below B w b :=
 h.trans ⟨g.os,g.tape,g.output,g.size,fun k hk=>g.block k (by omega) (fun e=>by have:=Option.some.inj e;omega)⟩
theorem Jkw (z:Int) (h0:0<=z) (h1:z<=255):((UInt8.ofNat z.toNat).toNat:Int)=z:=by
 rw [UInt8.toNat_ofNat']
 omega
theorem Jjy (cv:Value) (cs:List UInt8) (w:World) (hc:BR w cv cs) :
  Calls Tryz.prog 4 #[cv] w fun x w'=>x=.returned (.bool (decide (4096<cs.length)))/\w' = w:=by
 obtain ⟨ao,cap,rfl,hcap,hr⟩:=hc
 have e:decide (4096<cs.length)=decide ((4096:Int)<(cs.length:Int)):=by rw [decide_eq_decide];omega
 rw [e]
 go_enter Tryz.func4,Tryz.ntmps4
 go_wp2
 go_ret
 exact ⟨rfl,rfl⟩
set_option maxRecDepth 100000 in
set_option maxHeartbeats 1600000 in
theorem Dw.wide {N:Nat} {cv:Value} {cs:List UInt8} {w:World} (h:Dw N cv cs w) (n:Int) (h0:256<n) (h1:n<=1000000) :
  Calls Tryz.prog 59 #[.pointer (some ⟨N,0,none⟩),.int .i64 n] w fun x w'=>(∃ z:Int,x=.returned (.int .i64 z)/\0<=z/\z<n)/\w.grownBy w' (some N)/\Dw N cv cs w':=by
 have B:=h.byte
 have e1:decide (n<=0)=false:=by simp;omega
 have e2:decide (n<=256)=false:=by simp;omega
 go_enter Tryz.func59,Tryz.ntmps59
 go_wp2_with fail
 refine B.mono ?_
 rintro x w1 ⟨⟨z1,rfl,p1,q1⟩,g1,d1⟩
 clear B
 go_wp2_with fail
 refine d1.byte.mono ?_
 rintro x w2 ⟨⟨z2,rfl,p2,q2⟩,g2,d2⟩
 go_wp2_with fail
 refine d2.byte.mono ?_
 rintro x w3 ⟨⟨z3,rfl,p3,q3⟩,g3,d3⟩
 go_wp2_with fail
 refine d3.byte.mono ?_
 rintro x w4 ⟨⟨z4,rfl,p4,q4⟩,g4,d4⟩
 have nz:¬ n=0:=by omega
 have G:=gtrans (gtrans (gtrans g1 g2) g3) g4
 clear g1 g2 g3 g4 d1 d2 d3
 have z0:0<=z1 * 16777216+z2 * 65536+z3 * 256+z4:=by omega
 have hm:Int.tmod (z1 * 16777216+z2 * 65536+z3 * 256+z4) n=(z1 * 16777216+z2 * 65536+z3 * 256+z4) % n:=Int.tmod_eq_emod_of_nonneg z0
 have hm0:0<=(z1 * 16777216+z2 * 65536+z3 * 256+z4) % n:=Int.emod_nonneg _ nz
 have hm1:(z1 * 16777216+z2 * 65536+z3 * 256+z4) % n<n:=Int.emod_lt_of_pos _ (by omega)
 go_wp2
 go_ret
 exact ⟨⟨_,rfl,by first|omega|(rw [hm];omega),by first|omega|(rw [hm];omega)⟩,G,d4⟩
theorem Dw.less {N:Nat} {cv:Value} {cs:List UInt8} {w:World} (h:Dw N cv cs w) (n:Int) (h0:0<n) (h1:n<=1000000) :
  Calls Tryz.prog 59 #[.pointer (some ⟨N,0,none⟩),.int .i64 n] w fun x w'=>(∃ z:Int,x=.returned (.int .i64 z)/\0<=z/\z<n)/\w.grownBy w' (some N)/\Dw N cv cs w':=by
 by_cases k:n<=256
 ·exact h.below n h0 k
 ·exact h.wide n (by omega) h1
set_option maxHeartbeats 1600000 in
theorem Dw.fromI {N:Nat} {cv:Value} {cs:List UInt8} {w:World} (h:Dw N cv cs w) (lo hi:Int) (h0:0<hi - lo+1) (h1:hi - lo+1<=1000000) (l0 : -1000000<=lo) (l1:lo<=1000000) :
  Calls Tryz.prog 66 #[.pointer (some ⟨N,0,none⟩),.int .i64 lo,.int .i64 hi] w fun x w'=>(∃ z:Int,x=.returned (.int .i64 z)/\lo<=z/\z<=hi)/\w.grownBy w' (some N)/\Dw N cv cs w':=by
 have B:=h.less (hi - lo+1) h0 h1
 go_enter Tryz.func66,Tryz.ntmps66
 go_wp2_with fail
 refine B.mono ?_
 rintro x w1 ⟨⟨z,rfl,z0,z1⟩,g1,d1⟩
 go_wp2
 go_ret
 exact ⟨⟨_,rfl,by omega,by omega⟩,g1,d1⟩
end Go.Proofs.YtboiknllmnfipaaGreatDoor
/- Heaps whose rows are owned with their spare room. -/
namespace Go.Proofs.YtboiknllmnfipaaGreatDoor
open Go.RowKit
structure HM (B:Nat) (w:World) (v:Value) (h:Hp):Prop where
 ex:∃ v1 v2 v3,v=.agg #[v1,v2,.int .i64 h.old,.int .i64 h.eden,.int .i64 h.surv,.bool h.flip,.int .i64 h.hash,v3] ∧
  (w.ownsRow B 2 1 v1 h.words.length (icells h.words)/\w.ownsRow B 2 1 v2 h.roots.length (icells h.roots)/\w.ownsRow B 2 1 v3 h.kept.length (icells h.kept)) ∧
  (∀ b,v1.ownBlock=some b->v2.ownBlock ≠ some b/\v3.ownBlock ≠ some b)/\(∀ b,v2.ownBlock=some b->v3.ownBlock ≠ some b)
theorem Ts {v:Value} {n b:Nat} (h:Disk.rowOf v n=some b):v.ownBlock=some b:=by
 unfold Disk.rowOf at h
 split at h
 ·cases h
 ·exact h
theorem HM.hn {B:Nat} {w:World} {v:Value} {h:Hp} (k:HM B w v h):HN B w v h:=by
 obtain ⟨v1,v2,v3,e,⟨o1,o2,o3⟩,d1,d2⟩:=k.ex
 exact ⟨v1,v2,v3,e,⟨Q5 o1,Q5 o2,Q5 o3⟩,⟨E9 o1,E9 o2,E9 o3⟩,⟨Qg o1,Qg o2,Qg o3⟩,
  fun b q q'=>(d1 b (Ts q)).1 (Ts q'),fun b q q'=>(d1 b (Ts q)).2 (Ts q'),fun b q q'=>d2 b (Ts q) (Ts q')⟩
theorem HM.hr {B:Nat} {w:World} {v:Value} {h:Hp} (k:HM B w v h):HR w v h:=k.hn.hr
theorem HM.later {B:Nat} {w w' : World} {v:Value} {h:Hp} (k:HM B w v h) (hb:Below w.heap.size w w'):HM B w' v h:=by
 obtain ⟨v1,v2,v3,e,⟨o1,o2,o3⟩,d1,d2⟩:=k.ex
 exact ⟨v1,v2,v3,e,⟨E8 o1 hb,E8 o2 hb,E8 o3 hb⟩,d1,d2⟩
theorem S9 {w w' : World} {B e size n:Nat} {v:Value} {xs:List Value} (h:w.ownsRow B e size v n xs) (hk:∀ b,B<=b->b<w.heap.size->w'.heap[b]?=w.heap[b]?):w'.ownsRow B e size v n xs:=by
 have hlt:=h.lt
 obtain ⟨hl,h⟩:=h
 refine ⟨hl,?_⟩
 rcases h with h|⟨g,cap,cur,rfl,hB,hh,h1⟩
 ·exact .inl h
 ·exact .inr ⟨g,cap,cur,rfl,hB,(hk g hB (hlt g rfl).2).trans hh,h1⟩
theorem HM.keep {B:Nat} {w w' : World} {v:Value} {h:Hp} (k:HM B w v h) (hk:∀ b,B<=b->b<w.heap.size->w'.heap[b]?=w.heap[b]?):HM B w' v h:=by
 obtain ⟨v1,v2,v3,e,⟨o1,o2,o3⟩,d1,d2⟩:=k.ex
 exact ⟨v1,v2,v3,e,⟨S9 o1 hk,S9 o2 hk,S9 o3 hk⟩,d1,d2⟩
theorem Pk {w:World} {B C e size n:Nat} {v:Value} {xs:List Value} (h:w.ownsRow B e size v n xs) (hC:C<=B):w.ownsRow C e size v n xs:=by
 obtain ⟨hl,h⟩:=h
 refine ⟨hl,?_⟩
 rcases h with h|⟨g,cap,cur,hv,hb,hh⟩
 ·exact .inl h
 ·exact .inr ⟨g,cap,cur,hv,Nat.le_trans hC hb,hh⟩
theorem HM.low {B C:Nat} {w:World} {v:Value} {h:Hp} (k:HM B w v h) (hC:C<=B):HM C w v h:=by
 obtain ⟨v1,v2,v3,e,⟨o1,o2,o3⟩,d1,d2⟩:=k.ex
 exact ⟨v1,v2,v3,e,⟨Pk o1 hC,Pk o2 hC,Pk o3 hC⟩,d1,d2⟩
theorem Rn (w:World) (B:Nat):w.ownsRow B 2 1 (.slice none 0 0) 0 []:=⟨by simp,.inl ⟨rfl,rfl⟩⟩
theorem Tt (B:Nat) (w:World):HM B w (.agg #[.slice none 0 0,.slice none 0 0,.int .i64 0,.int .i64 0,.int .i64 0,.bool false,.int .i64 0,.slice none 0 0]) Pz :=
 ⟨_,_,_,rfl,⟨Rn _ _,Rn _ _,Rn _ _⟩,(fun b q=>by cases q),(fun b q=>by cases q)⟩
theorem Oz {h' : Hp} {b:Bool} {B:Nat} {w' : World} (k:b=false) (e:h' = Pz) :
  Ending.returned (.tuple #[.agg #[.slice none 0 0,.slice none 0 0,.int .i64 0,.int .i64 0,.int .i64 0,.bool false,.int .i64 0,.slice none 0 0],.bool false])=.returned (.tuple #[.agg #[.slice none 0 0,.slice none 0 0,.int .i64 0,.int .i64 0,.int .i64 0,.bool false,.int .i64 0,.slice none 0 0],.bool b])/\HM B w' (.agg #[.slice none 0 0,.slice none 0 0,.int .i64 0,.int .i64 0,.int .i64 0,.bool false,.int .i64 0,.slice none 0 0]) h':=by
 subst k
 subst e
 exact ⟨rfl,Tt _ _⟩
theorem Qy {h' : Hp} {b:Bool} {B:Nat} {w' : World} {z:Int} (k:b=false) (e:h' = Pz) (e' : z=0) :
  Ending.returned (.tuple #[.agg #[.slice none 0 0,.slice none 0 0,.int .i64 0,.int .i64 0,.int .i64 0,.bool false,.int .i64 0,.slice none 0 0],.int .i64 0,.bool false])=.returned (.tuple #[.agg #[.slice none 0 0,.slice none 0 0,.int .i64 0,.int .i64 0,.int .i64 0,.bool false,.int .i64 0,.slice none 0 0],.int .i64 z,.bool b])/\HM B w' (.agg #[.slice none 0 0,.slice none 0 0,.int .i64 0,.int .i64 0,.int .i64 0,.bool false,.int .i64 0,.slice none 0 0]) h':=by
 subst k
 subst e
 subst e'
 exact ⟨rfl,Tt _ _⟩
theorem HM.of_owns {B n1 n2 n3:Nat} {w:World} {h:Hp} {v1 v2 v3:Value} (e1:n1=h.words.length) (o1:w.ownsRow B 2 1 v1 n1 (icells h.words)) (e2:n2=h.roots.length) (o2:w.ownsRow B 2 1 v2 n2 (icells h.roots)) (e3:n3=h.kept.length) (o3:w.ownsRow B 2 1 v3 n3 (icells h.kept))
  (d1:∀ b,v1.ownBlock=some b->v2.ownBlock ≠ some b/\v3.ownBlock ≠ some b) (d2:∀ b,v2.ownBlock=some b->v3.ownBlock ≠ some b) :
  HM B w (.agg #[v1,v2,.int .i64 h.old,.int .i64 h.eden,.int .i64 h.surv,.bool h.flip,.int .i64 h.hash,v3]) h:=by
 subst e1;subst e2;subst e3
 exact ⟨v1,v2,v3,rfl,⟨o1,o2,o3⟩,d1,d2⟩
theorem Su {w:World} {B e size n b:Nat} {v:Value} {xs:List Value} (h:w.ownsRow B e size v n xs) (hk:v.ownBlock=some b):B<=b:=by
 rcases h.2 with ⟨rfl,_⟩|⟨g,cap,cur,rfl,hg,_⟩
 ·cases hk
 ·cases hk;exact hg
theorem Xf {g n c b:Nat} (h:(Value.slice (some ⟨g,0,none⟩) n c).ownBlock=some b):g=b:=Option.some.inj h
theorem HM.of_own3 {B B3 g1 g2 c1 c2:Nat} {w:World} {v3:Value} {h:Hp} (r1:RI w g1 h.words c1) (r2:RI w g2 h.roots c2) (m1:c1<=maxLen) (m2:c2<=maxLen) (o3:w.ownsRow B3 2 1 v3 h.kept.length (icells h.kept))
  (b1:B<=g1) (b2:B<=g2) (b3:B<=B3) (d12:g1 ≠ g2) (d13:g1<B3) (d23:g2<B3) :
  HM B w (.agg #[.slice (some ⟨g1,0,none⟩) h.words.length c1,.slice (some ⟨g2,0,none⟩) h.roots.length c2,.int .i64 h.old,.int .i64 h.eden,.int .i64 h.surv,.bool h.flip,.int .i64 h.hash,v3]) h :=
 ⟨_,_,_,rfl,⟨r1.owns b1 m1,r2.owns b2 m2,Pk o3 b3⟩,fun b q=>⟨fun e=>d12 ((Xf q).trans (Xf e).symm),fun e=>by have:=Su o3 e;have:=Xf q;omega⟩,fun b q e=>by have:=Su o3 e;have:=Xf q;omega⟩
theorem HM.of_rows {B g1 g2 g3 c1 c2 c3:Nat} {w:World} {h:Hp} (r1:RI w g1 h.words c1) (r2:RI w g2 h.roots c2) (r3:RI w g3 h.kept c3) (m1:c1<=maxLen) (m2:c2<=maxLen) (m3:c3<=maxLen)
  (b1:B<=g1) (b2:B<=g2) (b3:B<=g3) (d12:g1 ≠ g2) (d13:g1 ≠ g3) (d23:g2 ≠ g3) :
  HM B w (.agg #[.slice (some ⟨g1,0,none⟩) h.words.length c1,.slice (some ⟨g2,0,none⟩) h.roots.length c2,.int .i64 h.old,.int .i64 h.eden,.int .i64 h.surv,.bool h.flip,.int .i64 h.hash,.slice (some ⟨g3,0,none⟩) h.kept.length c3]) h :=
 ⟨_,_,_,rfl,⟨r1.owns b1 m1,r2.owns b2 m2,r3.owns b3 m3⟩,fun b q=>by cases q;exact ⟨fun e=>d12 (Option.some.inj e).symm,fun e=>d13 (Option.some.inj e).symm⟩,fun b q=>by cases q;exact fun e=>d23 (Option.some.inj e).symm⟩
end Go.Proofs.YtboiknllmnfipaaGreatDoor
/- The scavenger in plain words: a young object is moved, and what stays as it was. -/
namespace Go.Proofs.YtboiknllmnfipaaGreatDoor
open Go.RowKit
structure SV where
 W:List Int
 old:Nat
 to:Nat
 went:List Nat
 q:List Nat
 full:Bool
def tb (h:Hp):Nat:=H9 (!h.flip)
def frm (h:Hp) (j:Nat):Prop:=(2000<=j/\j<2600) ∨ (H9 h.flip<=j/\j<H9 h.flip+300)
def Qz (W:List Int) (a:Nat):Int:=if gw W (a+3)+1<15 then gw W (a+3)+1 else 15
def mvW (W:List Int) (d a:Nat):List Int:=(splice W d ((W.drop a).take (4+(gw W a).toNat))).set (d+3) (Qz W a)
def Xq (s:SV) (a d:Nat) (old to:Nat):SV:={ s with W:=mvW s.W d a,old:=old,to:=to,went:=s.went.set a (d+1),q:=s.q ++ [d] }
def mv (lim:Nat) (s:SV) (x:Int):SV × Int :=
 if (M5 x && !s.full)=true then
  (if 0<s.went.getD (x / 2).toNat 0 then (s,2 * ((s.went.getD (x / 2).toNat 0:Nat) - 1:Int)+1)
  else if 3<=Qz s.W (x / 2).toNat ∨ lim<s.to+(4+(gw s.W (x / 2).toNat).toNat) then
   (if 2000<s.old+(4+(gw s.W (x / 2).toNat).toNat) then ({ s with full:=true },x)
   else (Xq s (x / 2).toNat s.old (s.old+(4+(gw s.W (x / 2).toNat).toNat)) s.to,2 * (s.old:Int)+1))
  else (Xq s (x / 2).toNat s.to s.old (s.to+(4+(gw s.W (x / 2).toNat).toNat)),2 * (s.to:Int)+1))
 else (s,x)
def Ov (x:Int):Prop:=-4000000000000000000<=x/\x<=4000000000000000000
structure SI (h:Hp) (l:List Nat) (s:SV):Prop where
 len:s.W.length=3200
 wlen:s.went.length=3200
 same:∀ j,frm h j->gw s.W j=gw h.words j
 old0:h.old.toNat<=s.old
 old1:s.old<=2000
 to0:tb h<=s.to
 to1:s.to<=tb h+300
 wnt:∀ a,s.went.getD a 0<=3200
 ar:∀ d,d ∈ s.q->(0<=gw s.W d/\gw s.W d<=60)/\((h.old.toNat<=d/\nx s.W d<=s.old) ∨ (tb h<=d/\nx s.W d<=s.to))
 dis:s.q.Pairwise fun d e=>nx s.W d<=e ∨ nx s.W e<=d
 qlen:4 * s.q.length+h.old.toNat+tb h<=s.old+s.to
 sm:∀ j,Ov (gw s.W j)
 g0:∃ m,Goes s.W 0 s.old m/\(∀ a,a ∈ l->a<2000->a ∈ its s.W 0 m/\gw s.W a=gw h.words a)/\∀ d,d ∈ s.q->d<2000->d ∈ its s.W 0 m
 g2:∃ m,Goes s.W (tb h) s.to m/\∀ d,d ∈ s.q->2000<=d->d ∈ its s.W (tb h) m
 z0:∀ j,s.old<=j->j<2000->gw s.W j=0
 z2:∀ j,s.to<=j->j<tb h+300->gw s.W j=0
theorem Oc (h:Hp):(tb h=2600/\H9 h.flip=2900) ∨ (tb h=2900/\H9 h.flip=2600):=by
 unfold tb H9
 cases h.flip
 ·right;exact ⟨rfl,rfl⟩
 ·left;exact ⟨rfl,rfl⟩
theorem P7 {h:Hp} {j:Nat} (k:frm h j):2000<=j/\¬ (tb h<=j/\j<tb h+300):=by
 unfold frm at k
 rcases Oc h with ⟨a,b⟩|⟨a,b⟩ <;> omega
theorem Pa {h:Hp} {l:List Nat} (R:RightAt h l) {a j:Nat} (ha:a ∈ l) (hy:2000<=a) (h1:a<=j) (h2:j<nx h.words a):frm h j:=by
 obtain ⟨_,r0,r1,r2,n0,n1,n2,g0,g1,g2,rfl⟩:=R.1
 rw [List.mem_append,List.mem_append] at ha
 unfold frm
 rcases ha with (ha|ha)|ha
 ·have:=J5 g0 ha;omega
 ·have:=J5 g1 ha;omega
 ·have:=J5 g2 ha;omega
theorem Sz {h:Hp} {l:List Nat} (R:RightAt h l) {a:Nat} (ha:a ∈ l) (hy:a<2000):nx h.words a<=h.old.toNat:=by
 obtain ⟨_,r0,r1,r2,n0,n1,n2,g0,g1,g2,rfl⟩:=R.1
 have hs:2600<=H9 h.flip:=by unfold H9;split <;> omega
 rw [List.mem_append,List.mem_append] at ha
 rcases ha with (ha|ha)|ha
 ·have:=J5 g0 ha;omega
 ·have:=J5 g1 ha;omega
 ·have:=J5 g2 ha;omega
theorem Ze {h:Hp} {l:List Nat} (R:RightAt h l) {x:Int} (hf:I8 l x=true) (hy:M5 x=true):∃ a:Nat,a ∈ l/\x / 2=a/\2000<=a/\a+4<=3200/\nx h.words a<=3200/\(0<=gw h.words a/\gw h.words a<=60)/\(0<=gw h.words (a+3)/\gw h.words (a+3)<=15):=by
 rw [Jbm (Pl hf)] at hy
 unfold Ou at hy
 rw [Bool.and_eq_true] at hy
 have k:H8 x=2:=of_decide_eq_true hy.1
 rw [Z1 (decide_eq_true k),List.contains_iff_mem] at hf
 obtain ⟨a,ha,e⟩:=List.mem_map.1 hf
 obtain ⟨o1,o2,o3⟩:=R.1.obj ha
 have y:=of_decide_eq_true hy.2
 refine ⟨a,ha,e.symm,by omega,o1,o2,L6 o3,?_⟩
 unfold M7 at o3
 rw [Bool.and_eq_true,Bool.and_eq_true] at o3
 exact of_decide_eq_true o3.2.2
theorem Jjz {W:List Int} {d a:Nat} (h:d+(4+(gw W a).toNat)<=W.length) (_h2:a+(4+(gw W a).toNat)<=W.length):(mvW W d a).length=W.length:=by
 unfold mvW
 rw [List.length_set,length_splice _ _ _ (by rw [List.length_take,List.length_drop];omega)]
theorem Jmd {W:List Int} {d a:Nat} (h:d+(4+(gw W a).toNat)<=W.length) (h2:a+(4+(gw W a).toNat)<=W.length) (j:Nat) :
  gw (mvW W d a) j=if j=d+3 then Qz W a else if d<=j/\j<d+(4+(gw W a).toNat) then gw W (a+(j - d)) else gw W j:=by
 have ll:((W.drop a).take (4+(gw W a).toNat)).length=4+(gw W a).toNat:=by rw [List.length_take,List.length_drop];omega
 have hl:d+((W.drop a).take (4+(gw W a).toNat)).length<=W.length:=by rw [ll];exact h
 unfold mvW
 rw [Uf _ _ _ _ (by rw [length_splice _ _ _ hl];omega)]
 by_cases e:j=d+3
 ·rw [if_pos e,if_pos e]
 rw [if_neg e,if_neg e]
 show (splice W d _).getD j 0=_
 rw [Rb _ _ _ _ hl,ll]
 by_cases h1:j<d
 ·rw [if_pos h1,if_neg (by omega)]
  rfl
 rw [if_neg h1]
 by_cases h3:j<d+(4+(gw W a).toNat)
 ·rw [if_pos h3,if_pos ⟨by omega,h3⟩]
  have hj:j - d<4+(gw W a).toNat:=by omega
  show ((W.drop a).take (4+(gw W a).toNat)).getD (j - d) 0=W.getD (a+(j - d)) 0
  simp only [List.getD_eq_getElem?_getD]
  rw [List.getElem?_take_of_lt hj,List.getElem?_drop]
 ·rw [if_neg h3,if_neg (by omega)]
  rfl
structure Mvd (h:Hp) (l:List Nat) (s s' : SV):Prop where
 si:SI h l s'
 out:∀ j,¬ (s.old<=j/\j<2000)->¬ (s.to<=j/\j<tb h+300)->gw s'.W j=gw s.W j
 old:s.old<=s'.old
 to:s.to<=s'.to
 q:s'.q=s.q ∨ ∃ d,s'.q=s.q ++ [d]/\∀ k,d+4<=k->k<nx s'.W d->I8 l (gw s'.W k)=true
theorem Mvd.refl {h:Hp} {l:List Nat} {s:SV} (k:SI h l s):Mvd h l s s:=⟨k,fun _ _ _=>rfl,Nat.le_refl _,Nat.le_refl _,.inl rfl⟩
theorem Rp {l:List Nat} {x:Int} (h:I8 l x=true):Ov x:=by
 have k:=Pl h
 have:=Wm k
 unfold Ov
 by_cases e:x % 2=0
 ·rw [Ro e] at k
  split at k
  ·rename_i ha
   have hx:=of_decide_eq_true ha
   omega
  ·exact absurd rfl k
 ·rw [Qh e] at k
  split at k
  ·rename_i ha
   have hx:=of_decide_eq_true ha
   omega
  ·exact absurd rfl k
theorem Rr {h:Hp} {l:List Nat} (R:RightAt h l) {s:SV} (S:SI h l s) {a:Nat} (ha:a ∈ l) (hy:2000<=a) (d old to:Nat)
  (hd:(d=s.old/\old=s.old+(4+(gw s.W a).toNat)/\to=s.to/\old<=2000) ∨ (d=s.to/\to=s.to+(4+(gw s.W a).toNat)/\old=s.old/\to<=tb h+300)):Mvd h l s (Xq s a d old to)/\d<3200:=by
 obtain ⟨o1,o2,o3⟩:=R.1.obj ha
 have sz:=L6 o3
 have sa:∀ j,a<=j->j<nx h.words a->gw s.W j=gw h.words j:=fun j h1 h2=>S.same j (Pa R ha hy h1 h2)
 have nxe:nx h.words a=a+4+(gw h.words a).toNat:=rfl
 have e0:gw s.W a=gw h.words a:=sa a (Nat.le_refl _) (by omega)
 rw [e0] at hd
 have t3:=Oc h
 have len:=S.len
 have oo:=S.old0
 have o0:=S.old1
 have t0:=S.to0
 have t1:=S.to1
 have h1:d+(4+(gw s.W a).toNat)<=s.W.length:=by rw [e0,len];omega
 have h2:a+(4+(gw s.W a).toNat)<=s.W.length:=by rw [e0,len];omega
 have G:=Jmd h1 h2
 rw [e0] at G
 have ho:∀ j,¬ (s.old<=j/\j<2000)->¬ (s.to<=j/\j<tb h+300)->gw (mvW s.W d a) j=gw s.W j:=fun j n1 n2=>by
  rw [G,if_neg (by omega),if_neg (by omega)]
 have gd:gw (mvW s.W d a) d=gw h.words a:=by
  rw [G,if_neg (by omega),if_pos (by omega),Nat.sub_self,Nat.add_zero,e0]
 have ag:0<=Qz s.W a/\Qz s.W a<=15:=by
  unfold M7 at o3
  rw [Bool.and_eq_true,Bool.and_eq_true] at o3
  have q:=of_decide_eq_true o3.2.2
  unfold Qz
  rw [sa (a+3) (by omega) (by omega)]
  split <;> omega
 have hdB:M7 (mvW s.W d a) d=true:=by
  have o3':=o3
  unfold M7 at o3' ⊢
  rw [Bool.and_eq_true,Bool.and_eq_true] at o3' ⊢
  have c1:gw (mvW s.W d a) (d+1)=gw h.words (a+1):=by
   rw [G,if_neg (by omega),if_pos (by omega),show d+1 - d=1 from by omega]
   exact sa (a+1) (by omega) (by omega)
  have c3:gw (mvW s.W d a) (d+3)=Qz s.W a:=by rw [G,if_pos rfl]
  rw [gd,c1,c3]
  exact ⟨o3'.1,o3'.2.1,decide_eq_true ag⟩
 have inq:∀ e,e ∈ s.q->gw (mvW s.W d a) e=gw s.W e:=fun e he=>by
  have q:=S.ar e he
  have:nx s.W e=e+4+(gw s.W e).toNat:=rfl
  exact ho e (by omega) (by omega)
 have inx:∀ e,e ∈ s.q->nx (mvW s.W d a) e=nx s.W e:=fun e he=>by unfold nx;rw [inq e he]
 have nd:nx (mvW s.W d a) d=d+4+(gw h.words a).toNat:=by unfold nx;rw [gd]
 refine ⟨⟨⟨by show (mvW s.W d a).length=3200;rw [Jjz h1 h2,len],by show (s.went.set a (d+1)).length=3200;rw [List.length_set];exact S.wlen,fun j hj=>?_,by show h.old.toNat<=old;omega,by show old<=2000;omega,by show tb h<=to;omega,by show to<=tb h+300;omega,fun b=>?_,fun e he=>?_,?_,?_,fun j=>?_,?_,?_,fun j j1 j2=>?_,fun j j1 j2=>?_⟩,ho,by show s.old<=old;omega,by show s.to<=to;omega,.inr ⟨d,rfl,fun k k1 k2=>?_⟩⟩,by omega⟩
 ·have q:=P7 hj
  show gw (mvW s.W d a) j=gw h.words j
  rw [ho j (by omega) (by omega)]
  exact S.same j hj
 ·show (s.went.set a (d+1)).getD b 0<=3200
  simp only [List.getD_eq_getElem?_getD,List.getElem?_set]
  by_cases e:a=b
  ·subst e
   rw [if_pos rfl]
   split <;> simp <;> omega
  ·rw [if_neg e]
   have:=S.wnt b
   rw [List.getD_eq_getElem?_getD] at this
   exact this
 ·have he' : e ∈ s.q ++ [d]:=he
  rw [List.mem_append,List.mem_singleton] at he'
  show (0<=gw (mvW s.W d a) e/\gw (mvW s.W d a) e<=60)/\((h.old.toNat<=e/\nx (mvW s.W d a) e<=old) ∨ (tb h<=e/\nx (mvW s.W d a) e<=to))
  rcases he' with he' | rfl
  ·rw [inq e he',inx e he']
   have q:=S.ar e he'
   refine ⟨q.1,?_⟩
   omega
  ·rw [gd,nd]
   refine ⟨sz,?_⟩
   omega
 ·show (s.q ++ [d]).Pairwise fun d1 e1=>nx (mvW s.W d a) d1<=e1 ∨ nx (mvW s.W d a) e1<=d1
  rw [List.pairwise_append]
  refine ⟨List.Pairwise.imp_of_mem (fun {x y} hx hy' q=>?_) S.dis,List.pairwise_singleton _ _,fun x hx y hy'=>?_⟩
  ·rw [inx x hx,inx y hy']
   exact q
  ·rw [List.mem_singleton] at hy'
   subst hy'
   rw [inx x hx,nd]
   have q:=S.ar x hx
   have:nx s.W x=x+4+(gw s.W x).toNat:=rfl
   omega
 ·show 4 * (s.q ++ [d]).length+h.old.toNat+tb h<=old+to
  rw [List.length_append,List.length_singleton]
  have:=S.qlen
  omega
 ·show Ov (gw (mvW s.W d a) j)
  rw [G]
  split
  ·unfold Ov;omega
  split
  ·exact S.sm _
  ·exact S.sm _
 ·obtain ⟨m,g,q1,q2⟩:=S.g0
  have low:∀ b,b ∈ its s.W 0 m->∀ k,k<4->gw (mvW s.W d a) (b+k)=gw s.W (b+k):=fun b hb k hk=>by
   have:=J5 g hb
   exact ho _ (by omega) (by omega)
  obtain ⟨g',e'⟩:=Og g low
  have l0:∀ b,b ∈ its s.W 0 m->b<s.old:=fun b hb=>by have:=J5 g hb;omega
  rcases hd with ⟨rfl,rfl,rfl,hd⟩|⟨rfl,rfl,rfl,hd⟩
  ·refine ⟨m+1,⟨?_,fun i hi=>?_⟩,fun b hb b2=>?_,fun e he e2=>?_⟩
   ·show nx (mvW s.W s.old a) (it (mvW s.W s.old a) 0 m)=s.old+(4+(gw h.words a).toNat)
    rw [g'.1,nd]
    omega
   ·rcases Nat.lt_or_ge i m with k|k
    ·exact g'.2 i k
    ·obtain rfl:i=m:=by omega
     show M7 (mvW s.W s.old a) (it (mvW s.W s.old a) 0 i)=true
     rw [g'.1]
     exact hdB
   ·show b ∈ its (mvW s.W s.old a) 0 (m+1)/\gw (mvW s.W s.old a) b=gw h.words b
    rw [Px,e',List.mem_append]
    exact ⟨.inl (q1 b hb b2).1,by rw [show gw (mvW s.W s.old a) b=gw s.W b from low b (q1 b hb b2).1 0 (by omega)];exact (q1 b hb b2).2⟩
   ·show e ∈ its (mvW s.W s.old a) 0 (m+1)
    have he' : e ∈ s.q ++ [s.old]:=he
    rw [Px,e',g'.1]
    rw [List.mem_append,List.mem_singleton] at he' ⊢
    exact he'.imp (fun q=>q2 e q e2) id
  ·refine ⟨m,g',fun b hb b2=>?_,fun e he e2=>?_⟩
   ·show b ∈ its (mvW s.W s.to a) 0 m/\gw (mvW s.W s.to a) b=gw h.words b
    rw [e']
    exact ⟨(q1 b hb b2).1,by rw [show gw (mvW s.W s.to a) b=gw s.W b from low b (q1 b hb b2).1 0 (by omega)];exact (q1 b hb b2).2⟩
   ·show e ∈ its (mvW s.W s.to a) 0 m
    have he' : e ∈ s.q ++ [s.to]:=he
    rw [List.mem_append,List.mem_singleton] at he'
    rw [e']
    rcases he' with q|q
    ·exact q2 e q e2
    ·omega
 ·obtain ⟨m,g,q2⟩:=S.g2
  have low:∀ b,b ∈ its s.W (tb h) m->∀ k,k<4->gw (mvW s.W d a) (b+k)=gw s.W (b+k):=fun b hb k hk=>by
   have:=J5 g hb
   exact ho _ (by omega) (by omega)
  obtain ⟨g',e'⟩:=Og g low
  rcases hd with ⟨rfl,rfl,rfl,hd⟩|⟨rfl,rfl,rfl,hd⟩
  ·refine ⟨m,g',fun e he e2=>?_⟩
   show e ∈ its (mvW s.W s.old a) (tb h) m
   have he' : e ∈ s.q ++ [s.old]:=he
   rw [List.mem_append,List.mem_singleton] at he'
   rw [e']
   rcases he' with q|q
   ·exact q2 e q e2
   ·omega
  ·refine ⟨m+1,⟨?_,fun i hi=>?_⟩,fun e he e2=>?_⟩
   ·show nx (mvW s.W s.to a) (it (mvW s.W s.to a) (tb h) m)=s.to+(4+(gw h.words a).toNat)
    rw [g'.1,nd]
    omega
   ·rcases Nat.lt_or_ge i m with k|k
    ·exact g'.2 i k
    ·obtain rfl:i=m:=by omega
     show M7 (mvW s.W s.to a) (it (mvW s.W s.to a) (tb h) i)=true
     rw [g'.1]
     exact hdB
   ·show e ∈ its (mvW s.W s.to a) (tb h) (m+1)
    have he' : e ∈ s.q ++ [s.to]:=he
    rw [Px,e',g'.1]
    rw [List.mem_append,List.mem_singleton] at he' ⊢
    exact he'.imp (fun q=>q2 e q e2) id
 ·have j1' : old<=j:=j1
  show gw (mvW s.W d a) j=0
  rw [G,if_neg (by omega),if_neg (by omega)]
  exact S.z0 j (by omega) j2
 ·have j1' : to<=j:=j1
  show gw (mvW s.W d a) j=0
  rw [G,if_neg (by omega),if_neg (by omega)]
  exact S.z2 j (by omega) j2
 ·have k2' : k<nx (mvW s.W d a) d:=k2
  rw [nd] at k2'
  show I8 l (gw (mvW s.W d a) k)=true
  rw [G,if_neg (by omega),if_pos (by omega),sa _ (by omega) (by omega)]
  exact R.2.2.2.2.2.2.2.1 a ha _ (by omega) (by omega)
theorem Tr {h:Hp} {l:List Nat} (R:RightAt h l) {s:SV} (S:SI h l s) {x:Int} (hf:I8 l x=true):Mvd h l s (mv (tb h+300) s x).1/\Ov (mv (tb h+300) s x).2:=by
 unfold mv
 by_cases hy:(M5 x && !s.full)=true
 ·rw [if_pos hy]
  rw [Bool.and_eq_true] at hy
  obtain ⟨a,ha,ea,y2,o1,o2,sz,ag⟩:=Ze R hf hy.1
  rw [ea,Int.toNat_natCast]
  by_cases hw:0<s.went.getD a 0
  ·rw [if_pos hw]
   have:=S.wnt a
   exact ⟨Mvd.refl S,by unfold Ov;omega⟩
  rw [if_neg hw]
  by_cases hg:3<=Qz s.W a ∨ tb h+300<s.to+(4+(gw s.W a).toNat)
  ·rw [if_pos hg]
   by_cases hfl:2000<s.old+(4+(gw s.W a).toNat)
   ·rw [if_pos hfl]
    exact ⟨⟨⟨S.len,S.wlen,S.same,S.old0,S.old1,S.to0,S.to1,S.wnt,S.ar,S.dis,S.qlen,S.sm,S.g0,S.g2,S.z0,S.z2⟩,fun _ _ _=>rfl,Nat.le_refl _,Nat.le_refl _,.inl rfl⟩,Rp hf⟩
   ·rw [if_neg hfl]
    have q:=Rr R S ha y2 s.old (s.old+(4+(gw s.W a).toNat)) s.to (.inl ⟨rfl,rfl,rfl,by omega⟩)
    exact ⟨q.1,by unfold Ov;omega⟩
  ·rw [if_neg hg]
   have q:=Rr R S ha y2 s.to s.old (s.to+(4+(gw s.W a).toNat)) (.inr ⟨rfl,rfl,rfl,by omega⟩)
   exact ⟨q.1,by unfold Ov;omega⟩
 ·rw [if_neg hy]
  exact ⟨Mvd.refl S,Rp hf⟩
theorem Jbo {h:Hp} {l:List Nat} (R:RightAt h l) {s:SV} (S:SI h l s) {f:Nat} {y:Int} (hf0:(∃ a,a ∈ l/\a<2000/\a+4<=f/\f<nx h.words a) ∨ ∃ d,d ∈ s.q/\d+4<=f/\f<nx s.W d) (hy:Ov y) :
  SI h l { s with W:=s.W.set f y } /\ (∀ j,gw (s.W.set f y) j=if j=f then y else gw s.W j)/\∀ d,d ∈ s.q->nx (s.W.set f y) d=nx s.W d:=by
 have t3:=Oc h
 have oo:=S.old1
 have t1:=S.to1
 have t0:=S.to0
 have o0:=S.old0
 have hf:f<h.old.toNat ∨ ∃ d,d ∈ s.q/\d+4<=f/\f<nx s.W d:=by
  rcases hf0 with ⟨a,ha,a2,f1,f2⟩|q
  ·have:=Sz R ha a2
   exact .inl (by omega)
  ·exact .inr q
 have own0:∀ m,Goes s.W 0 s.old m->(∀ a,a ∈ l->a<2000->a ∈ its s.W 0 m/\gw s.W a=gw h.words a)->(∀ d,d ∈ s.q->d<2000->d ∈ its s.W 0 m)->∀ b,b ∈ its s.W 0 m->∀ k,k<4->b+k ≠ f:=fun m g q1 q2 b hb k hk e=>by
  have gb:=J5 g hb
  obtain ⟨p,hp,p1,p2⟩:∃ p,p ∈ its s.W 0 m/\p+4<=f/\f<nx s.W p:=by
   rcases hf0 with ⟨a,ha,a2,f1,f2⟩|⟨d,hd,f1,f2⟩
   ·have q:=q1 a ha a2
    refine ⟨a,q.1,f1,?_⟩
    unfold nx at f2 ⊢
    rw [q.2]
    exact f2
   ·have ar:=S.ar d hd
    exact ⟨d,q2 d hd (by omega),f1,f2⟩
  rcases Nat.lt_trichotomy b p with c|c|c
  ·have:=Qd hb hp c;omega
  ·omega
  ·have:=Qd hp hb c;omega
 have own2:∀ m,Goes s.W (tb h) s.to m->(∀ d,d ∈ s.q->2000<=d->d ∈ its s.W (tb h) m)->∀ b,b ∈ its s.W (tb h) m->∀ k,k<4->b+k ≠ f:=fun m g q2 b hb k hk e=>by
  have gb:=J5 g hb
  clear hf own0
  rcases hf0 with ⟨a,ha,a2,f1,f2⟩|⟨d,hd,f1,f2⟩
  ·have:=Sz R ha a2
   omega
  ·have ar:=S.ar d hd
   have hp:=q2 d hd (by omega)
   rcases Nat.lt_trichotomy b d with c|c|c
   ·have:=Qd hb hp c;omega
   ·omega
   ·have:=Qd hp hb c;omega
 have lowf:f<s.old ∨ (tb h<=f/\f<s.to):=by
  rcases hf with q|⟨d,hd,f1,f2⟩
  ·exact .inl (by omega)
  ·have:=S.ar d hd
   omega
 have fl:f<3200/\¬ frm h f/\∀ d,d ∈ s.q->d ≠ f:=by
  rcases hf with hf|⟨d,hd,f1,f2⟩
  ·refine ⟨by omega,fun q=>by have:=P7 q;omega,fun d hd e=>?_⟩
   have:=S.ar d hd
   omega
  ·have q:=S.ar d hd
   refine ⟨by omega,fun q=>by have:=P7 q;omega,fun e he ee=>?_⟩
   subst ee
   rcases Nat.lt_trichotomy d e with k|k|k
   ·have dd:=S.dis
    have hne:d ≠ e:=by omega
    have:nx s.W d<=e ∨ nx s.W e<=d:=by
     obtain ⟨i,hi,ei⟩:=List.getElem_of_mem hd
     obtain ⟨j,hj,ej⟩:=List.getElem_of_mem he
     have P:=List.pairwise_iff_getElem.1 dd
     rcases Nat.lt_trichotomy i j with a|a|a
     ·have:=P i j hi hj a
      rw [ei,ej] at this
      exact this
     ·subst a
      exact absurd (ei.symm.trans ej) hne
     ·have:=P j i hj hi a
      rw [ei,ej] at this
      exact this.symm
    have:nx s.W e=e+4+(gw s.W e).toNat:=rfl
    omega
   ·omega
   ·omega
 have G:∀ j,gw (s.W.set f y) j=if j=f then y else gw s.W j:=fun j=>Uf _ _ _ _ (by rw [S.len];exact fl.1)
 have Q:∀ d,d ∈ s.q->gw (s.W.set f y) d=gw s.W d:=fun d hd=>by rw [G,if_neg (fl.2.2 d hd)]
 have N:∀ d,d ∈ s.q->nx (s.W.set f y) d=nx s.W d:=fun d hd=>by unfold nx;rw [Q d hd]
 refine ⟨⟨by show (s.W.set f y).length=3200;rw [List.length_set];exact S.len,S.wlen,fun j hj=>?_,S.old0,S.old1,S.to0,S.to1,S.wnt,fun d hd=>?_,?_,S.qlen,fun j=>?_,?_,?_,fun j j1 j2=>?_,fun j j1 j2=>?_⟩,G,N⟩
 ·show gw (s.W.set f y) j=_
  rw [G,if_neg (by rintro rfl;exact fl.2.1 hj)]
  exact S.same j hj
 ·show (0<=gw (s.W.set f y) d/\gw (s.W.set f y) d<=60)/\((h.old.toNat<=d/\nx (s.W.set f y) d<=s.old) ∨ (tb h<=d/\nx (s.W.set f y) d<=s.to))
  rw [Q d hd,N d hd]
  exact S.ar d hd
 ·show s.q.Pairwise fun d e=>nx (s.W.set f y) d<=e ∨ nx (s.W.set f y) e<=d
  refine List.Pairwise.imp_of_mem (fun {a b} ha hb q=>?_) S.dis
  rw [N a ha,N b hb]
  exact q
 ·show Ov (gw (s.W.set f y) j)
  rw [G]
  split
  ·exact hy
  ·exact S.sm j
 ·obtain ⟨m,g,q1,q2⟩:=S.g0
  obtain ⟨g',e'⟩:=Og (V:=s.W.set f y) g (fun b hb k hk=>by rw [G,if_neg (own0 m g q1 q2 b hb k hk)])
  refine ⟨m,g',fun a ha a2=>?_,fun d hd d2=>?_⟩
  ·show a ∈ its (s.W.set f y) 0 m/\gw (s.W.set f y) a=gw h.words a
   have q:=q1 a ha a2
   rw [e',G,if_neg (show ¬ a=f from own0 m g q1 q2 a q.1 0 (by omega))]
   exact q
  ·show d ∈ its (s.W.set f y) 0 m
   rw [e']
   exact q2 d hd d2
 ·obtain ⟨m,g,q2⟩:=S.g2
  obtain ⟨g',e'⟩:=Og (V:=s.W.set f y) g (fun b hb k hk=>by rw [G,if_neg (own2 m g q2 b hb k hk)])
  refine ⟨m,g',fun d hd d2=>?_⟩
  show d ∈ its (s.W.set f y) (tb h) m
  rw [e']
  exact q2 d hd d2
 ·have j1' : s.old<=j:=j1
  show gw (s.W.set f y) j=0
  rw [G,if_neg (by omega)]
  exact S.z0 j j1' j2
 ·have j1' : s.to<=j:=j1
  show gw (s.W.set f y) j=0
  rw [G,if_neg (by omega)]
  exact S.z2 j j1' j2
end Go.Proofs.YtboiknllmnfipaaGreatDoor
