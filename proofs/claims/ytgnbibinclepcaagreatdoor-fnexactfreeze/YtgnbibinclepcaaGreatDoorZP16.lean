
import Derived.Test.YtgnbibinclepcaaGreatDoorZKCode
import Derived.Test.YtgnbibinclepcaaGreatDoorZP15
import Derived.Test.YtgnbibinclepcaaGreatDoorZP13
/- Boxes that are written in part. -/
namespace Go.Proofs.YtgnbibinclepcaaGreatDoor
open Go.RowKit
theorem Bk.part {w:World} {b:Nat} {C:Array Value} {t' : TypeId} (h:Bk w b C t') (t:TypeId) (o:Nat) (cs C' : Array Value) (hn:o+cs.size<=C.size) (hi:(Tryz.prog.info? t).map (·.size)=some cs.size) (h1:cs.all (·.oneCell')=true) (hC:C' = (C.toList.take o ++ cs.toList ++ C.toList.drop (o+cs.size)).toArray) :
  ∃ w',(Instr.storeAt t (.pointer (some ⟨b,o,none⟩)) (.agg cs)).run Tryz.prog w=.ok () w' /\ Bk w' b C' t' /\ w.grownBy w' (some b)/\w'.heap.size=w.heap.size:=by
 subst hC
 refine ⟨w.setRow b (C.toList.take o ++ cs.toList ++ C.toList.drop (o+cs.size)).toArray,?_,setRow_heap w b C _ t' _ h,?_,?_⟩
 ·have hst:=run_storeCells_at Tryz.prog b o t' cs.toList 0 C w h (by simp;omega) (fun v hv=>by
   have q:=Array.all_eq_true'.1 h1 v (by simpa using hv)
   exact q)
  have e:(C.toList.take (o+0) ++ cs.toList ++ C.toList.drop (o+0+cs.toList.length)).toArray=(C.toList.take o ++ cs.toList ++ C.toList.drop (o+cs.size)).toArray:=by simp
  rw [e] at hst
  obtain ⟨i,hi',hs⟩:=Option.map_eq_some_iff.1 hi
  simp [Instr.storeAt,Instr.sureAddr,storeVar,sizeOf,typeInfo,hi',hs,Value.cells] at hst ⊢
  exact hst
 ·refine ⟨rfl,rfl,rfl,?_,fun i _ hne=>?_⟩
  ·simp [World.setRow]
  ·simp [World.setRow,Array.getElem?_modify]
   intro e
   exact absurd (by rw [e]) hne
 ·simp [World.setRow]
theorem Bk.setc {w:World} {b:Nat} {C:Array Value} {t:TypeId} (h:Bk w b C t) (j:Nat) (v:Value) (C' : Array Value) (hC:C' = C.setIfInBounds j v):Bk (w.setCell ⟨b,j,none⟩ v) b C' t:=by
 subst hC
 unfold Bk
 rw [setCell_eq_setRow w b j C t (0,0) v h]
 exact setRow_heap w b C _ t _ h
theorem wp_storeK {ops:Array Oper} {rest:List Oper} {o:Oper} {a:Act} {Q:Exit->Act->World->Prop} {w w' : World} {t:TypeId} {Av u:Value} (hrun:(Instr.storeAt t Av u).run Tryz.prog w=.ok () w') (hg:o.guard=none) (p s:Operand) (hop:o.op=Op.store t p s) (hp:a.eval p=Av) (hs:a.eval s=u) (hd:o.dst=none)
  (h:wpList Tryz.prog ops Q rest a w'):wpList Tryz.prog ops Q (o::rest) a w:=by
 refine wpList_plain hg fun K hK=>?_
 unfold Oper.wp
 simp [execOp,hop,hp,hs,hrun,Result.andThen]
 refine hK _ _ ?_
 rw [hd]
 exact h
end Go.Proofs.YtgnbibinclepcaaGreatDoor
/- Get, Set, ClassOf and HashOf in plain words: a heap in which one field is set is right, and what is kept of it. -/
namespace Go.Proofs.YtgnbibinclepcaaGreatDoor
open Go.RowKit
noncomputable def refB (h:Hp) (x:Int):Bool:=decide (kindW x=2) && (ints (obC h)).contains (x / 2)
theorem ref_mem {h:Hp} {x:Int} (k:refB h x=true):kindW x=2/\∃ a:Nat,a ∈ obC h/\x / 2=a:=by
 unfold refB at k
 rw [Bool.and_eq_true,List.contains_iff_mem] at k
 obtain ⟨a,ha,e⟩:=List.mem_map.1 k.2
 exact ⟨of_decide_eq_true k.1,a,ha,e.symm⟩
theorem ref_of {h:Hp} {x:Int} {a:Nat} (k:kindW x=2) (ha:a ∈ obC h) (e:x / 2=a):refB h x=true:=by
 unfold refB
 rw [Bool.and_eq_true,List.contains_iff_mem]
 exact ⟨decide_eq_true k,List.mem_map.2 ⟨a,ha,e.symm⟩⟩
section
variable {h : Hp} {l : List Nat} (R : RightAt h l) {a i : Nat} (ha : a ∈ l) (hi : (i : Int) < gw h.words a) (y : Int)
include R ha hi
end
end Go.Proofs.YtgnbibinclepcaaGreatDoor
/- A machine in plain words. -/
namespace Go.Proofs.YtgnbibinclepcaaGreatDoor
open Go.RowKit
structure Mp where
 h:Hp
 prog:List Cd
 pc:Int
 out:List Int
 st:Int
def progB (l:List Cd):Bool:=decide (l.length<=100) && l.all fun p=>cokB p.1 p.2
def outB (l:List Int):Bool:=decide (l.length<=300) && l.all numB
def placeB (n:Nat) (pc:Int):Bool:=decide (0<=pc) && decide (pc<=n)
def stateB (s:Int):Bool:=decide (0<=s) && decide (s<=3)
noncomputable def rootB (h:Hp) (k:Nat) (c:Int) (n:Nat):Bool :=
 refB h (h.roots.getD k 0) && (decide (gw h.words ((h.roots.getD k 0 / 2).toNat+1)=c) && decide ((gw h.words (h.roots.getD k 0 / 2).toNat).toNat=n))
def stkB (l:List Int):Bool :=
 isK 1 (l.getD 0 0) && (decide (0<=valK 1 (l.getD 0 0)) && (decide (valK 1 (l.getD 0 0)<=39) && (l.drop ((valK 1 (l.getD 0 0)).toNat+1)).all (· == 0)))
def fldR (h:Hp) (k:Nat):List Int:=flds h.words (h.roots.getD k 0 / 2).toNat
noncomputable def partsB (h:Hp):Bool:=decide (h.roots.length=2) && (rootB h 0 1 40 && (rootB h 1 2 10 && stkB (fldR h 0)))
theorem flds_len (W:List Int) (a:Nat):(flds W a).length=(gw W a).toNat:=by simp [flds]
theorem flds_get (W:List Int) (a i:Nat) (h:i<(gw W a).toNat):(flds W a).getD i 0=gw W (a+4+i):=by simp [flds,h]
theorem flds_ir {w:World} {b q c a:Nat} {W:List Int} (hW:WS w b 0 W) (hl:W.length=3200) (hn:nx W a<=3200) (hc:(gw W a).toNat<=c) (hq:(gw W a).toNat=0 ∨ q=0+(a+4)):IR w (.slice (some ⟨b,q,none⟩) (gw W a).toNat c) (flds W a):=by
 refine ⟨_,_,by rw [flds_len],by rw [flds_len];exact hc,fun i hi=>?_⟩
 rw [flds_len] at hi
 obtain rfl:q=0+(a+4):=hq.resolve_left (by omega)
 refine ⟨b,0+(a+4),rfl,?_⟩
 have e:=hW (a+4+i) (by unfold nx at hn;omega)
 rw [flds_get W a i hi,Nat.zero_add]
 rw [Nat.zero_add] at e
 exact e
end Go.Proofs.YtgnbibinclepcaaGreatDoor
/- szVm, toVm, eqVm of the laws. -/
namespace Go.Proofs.YtgnbibinclepcaaGreatDoor
open Go.RowKit
def VR (w:World) (v:Value) (m:Mp):Prop:=∃ v1 v2 v3 vp vo,v=.agg #[v1,v2,.int .i64 m.h.old,.int .i64 m.h.eden,.int .i64 m.h.surv,.bool m.h.flip,.int .i64 m.h.hash,v3,vp,.int .i64 m.pc,vo,.int .i64 m.st]/\IR w v1 m.h.words/\IR w v2 m.h.roots/\IR w v3 m.h.kept/\CR w vp m.prog/\IR w vo m.out
structure VN (B:Nat) (w:World) (v:Value) (m:Mp):Prop where
 ex:∃ v1 v2 v3 vp vo,v=.agg #[v1,v2,.int .i64 m.h.old,.int .i64 m.h.eden,.int .i64 m.h.surv,.bool m.h.flip,.int .i64 m.h.hash,v3,vp,.int .i64 m.pc,vo,.int .i64 m.st]/\HN B w (.agg #[v1,v2,.int .i64 m.h.old,.int .i64 m.h.eden,.int .i64 m.h.surv,.bool m.h.flip,.int .i64 m.h.hash,v3]) m.h/\(CR w vp m.prog/\Disk.OS w 70 2 vp m.prog.length)/\(IR w vo m.out/\Disk.OS w 2 1 vo m.out.length) ∧
  (∀ b,Disk.rowOf vp m.prog.length=some b->B<=b/\Disk.rowOf v1 m.h.words.length ≠ some b/\Disk.rowOf v2 m.h.roots.length ≠ some b/\Disk.rowOf v3 m.h.kept.length ≠ some b/\Disk.rowOf vo m.out.length ≠ some b) ∧
  (∀ b,Disk.rowOf vo m.out.length=some b->B<=b/\Disk.rowOf v1 m.h.words.length ≠ some b/\Disk.rowOf v2 m.h.roots.length ≠ some b/\Disk.rowOf v3 m.h.kept.length ≠ some b)
theorem HN.irs {B:Nat} {w:World} {v1 v2 v3:Value} {h:Hp} (k:HN B w (.agg #[v1,v2,.int .i64 h.old,.int .i64 h.eden,.int .i64 h.surv,.bool h.flip,.int .i64 h.hash,v3]) h):(Disk.OS w 2 1 v1 h.words.length/\Disk.OS w 2 1 v2 h.roots.length/\Disk.OS w 2 1 v3 h.kept.length)/\(IR w v1 h.words/\IR w v2 h.roots/\IR w v3 h.kept) ∧
  ((∀ b,Disk.rowOf v1 h.words.length=some b->B<=b)/\(∀ b,Disk.rowOf v2 h.roots.length=some b->B<=b)/\(∀ b,Disk.rowOf v3 h.kept.length=some b->B<=b)) ∧
  (∀ b,Disk.rowOf v1 h.words.length=some b->Disk.rowOf v2 h.roots.length ≠ some b)/\(∀ b,Disk.rowOf v1 h.words.length=some b->Disk.rowOf v3 h.kept.length ≠ some b)/\(∀ b,Disk.rowOf v2 h.roots.length=some b->Disk.rowOf v3 h.kept.length ≠ some b):=by
 obtain ⟨u1,u2,u3,e,r⟩:=k.ex
 injection e with e
 simp only [Array.mk.injEq,List.cons.injEq,and_true,true_and] at e
 obtain ⟨rfl,rfl,rfl⟩:=e
 exact r
theorem HN.down {B C:Nat} {w:World} {v:Value} {h:Hp} (k:HN B w v h) (hC:C<=B):HN C w v h:=by
 obtain ⟨u1,u2,u3,e,a,b,⟨c1,c2,c3⟩,d⟩:=k.ex
 exact ⟨u1,u2,u3,e,a,b,⟨fun x hx=>Nat.le_trans hC (c1 x hx),fun x hx=>Nat.le_trans hC (c2 x hx),fun x hx=>Nat.le_trans hC (c3 x hx)⟩,d⟩
theorem VN.vr {B:Nat} {w:World} {v:Value} {m:Mp} (k:VN B w v m):VR w v m:=by
 obtain ⟨v1,v2,v3,vp,vo,e,hh,⟨hp,_⟩,⟨ho,_⟩,_⟩:=k.ex
 obtain ⟨_,⟨a,b,c⟩,_⟩:=hh.irs
 exact ⟨v1,v2,v3,vp,vo,e,a,b,c,hp,ho⟩
theorem VN.later {B:Nat} {w w' : World} {v:Value} {m:Mp} (k:VN B w v m) (hb:Below w.heap.size w w'):VN B w' v m:=by
 obtain ⟨v1,v2,v3,vp,vo,e,hh,⟨hp,hp2⟩,⟨ho,ho2⟩,r⟩:=k.ex
 exact ⟨v1,v2,v3,vp,vo,e,hh.later hb,⟨hp.later hb,hp2.later hb⟩,⟨ho.later hb,ho2.later hb⟩,r⟩
theorem szHeapY_any (v1 v2 v3:Value) (h:Hp) (w:World) (i1:IR w v1 h.words) (i2:IR w v2 h.roots) (i3:IR w v3 h.kept) (h1:h.words.length<=1000000000000000) (h2:h.roots.length<=1000000000000000) (h3:h.kept.length<=1000000000000000) :
  Calls Tryz.prog 60 #[.agg #[v1,v2,.int .i64 h.old,.int .i64 h.eden,.int .i64 h.surv,.bool h.flip,.int .i64 h.hash,v3],.int .i64 1048576] w fun e w'=>(∃ y:Int,e=.returned (.int .i64 y)/\Hid (0<=y->y<=1048576/\h.words.length<=1048576/\h.roots.length<=1048576/\h.kept.length<=1048576))/\Below w.heap.size w w':=by
 have hb0:=bel_one w (.cells #[v1,v2,.int .i64 h.old,.int .i64 h.eden,.int .i64 h.surv,.bool h.flip,.int .i64 h.hash,v3] 47)
 have S1:=fun x=>szInt64S_any v1 h.words x _ (i1.later hb0) h1
 have S2:=fun x=>szInt64S_any v2 h.roots x _ (i2.later hb0) h2
 have S3:=fun x=>szInt64S_any v3 h.kept x _ (i3.later hb0) h3
 clear i1 i2 i3
 go_enter Tryz.func60,Tryz.ntmps60
 go_wp2_with fail
 refine (S1 _ (by omega) (by omega)).mono ?_
 rintro e wq ⟨⟨y,rfl,q1⟩,hq⟩
 obtain rfl:=hq.symm
 by_cases hy:y<0
 ·go_wp2
  go_ret
  exact ⟨⟨-1,rfl,(fun h=>by omega)⟩,hb0⟩
 obtain ⟨p1,p2⟩:=q1.out (by omega)
 go_wp2_with fail
 refine (S2 _ (by omega) (by omega)).mono ?_
 rintro e wq ⟨⟨y2,rfl,q2⟩,hq⟩
 obtain rfl:=hq.symm
 by_cases hy2:y2<0
 ·go_wp2
  go_ret
  exact ⟨⟨-1,rfl,(fun h=>by omega)⟩,hb0⟩
 obtain ⟨p3,p4⟩:=q2.out (by omega)
 go_wp2_with fail
 refine (S3 _ (by omega) (by omega)).mono ?_
 rintro e wq ⟨⟨y3,rfl,q3⟩,hq⟩
 obtain rfl:=hq.symm
 by_cases hy3:y3<0
 ·go_wp2
  go_ret
  exact ⟨⟨-1,rfl,(fun h=>by omega)⟩,hb0⟩
 obtain ⟨p5,p6⟩:=q3.out (by omega)
 go_wp2
 go_ret
 exact ⟨⟨y3,rfl,(fun _=>⟨by omega,by omega,by omega,by omega⟩)⟩,hb0⟩
def smM (m:Mp) (n:Nat):Prop:=m.h.words.length<=n/\m.h.roots.length<=n/\m.h.kept.length<=n/\m.prog.length<=n/\m.out.length<=n
set_option maxHeartbeats 800000 in
theorem szVm_any (v1 v2 v3 vp vo:Value) (m:Mp) (w:World) (i1:IR w v1 m.h.words) (i2:IR w v2 m.h.roots) (i3:IR w v3 m.h.kept) (ip:CR w vp m.prog) (io:IR w vo m.out) (hs:smM m 1000000000000000) :
  Calls Tryz.prog 19 #[.agg #[v1,v2,.int .i64 m.h.old,.int .i64 m.h.eden,.int .i64 m.h.surv,.bool m.h.flip,.int .i64 m.h.hash,v3,vp,.int .i64 m.pc,vo,.int .i64 m.st],.int .i64 1048576] w fun e w'=>(∃ y:Int,e=.returned (.int .i64 y)/\Hid (0<=y->smM m 1048576))/\Below w.heap.size w w':=by
 obtain ⟨s1,s2,s3,s4,s5⟩:=hs
 have hb0:=bel_one w (.cells #[v1,v2,.int .i64 m.h.old,.int .i64 m.h.eden,.int .i64 m.h.surv,.bool m.h.flip,.int .i64 m.h.hash,v3,vp,.int .i64 m.pc,vo,.int .i64 m.st] 50)
 have B0:Bk (w.alloc (.cells #[v1,v2,.int .i64 m.h.old,.int .i64 m.h.eden,.int .i64 m.h.surv,.bool m.h.flip,.int .i64 m.h.hash,v3,vp,.int .i64 m.pc,vo,.int .i64 m.st] 50)) w.heap.size #[v1,v2,.int .i64 m.h.old,.int .i64 m.h.eden,.int .i64 m.h.surv,.bool m.h.flip,.int .i64 m.h.hash,v3,vp,.int .i64 m.pc,vo,.int .i64 m.st] 50:=Bk.new w _ _
 have SH:=szHeapY_any v1 v2 v3 m.h _ (i1.later hb0) (i2.later hb0) (i3.later hb0) s1 s2 s3
 have x0:=B0.cell 0 (v1) rfl
 have x1:=B0.cell 1 (v2) rfl
 have x2:=B0.cell 2 (.int .i64 m.h.old) rfl
 have x3:=B0.cell 3 (.int .i64 m.h.eden) rfl
 have x4:=B0.cell 4 (.int .i64 m.h.surv) rfl
 have x5:=B0.cell 5 (.bool m.h.flip) rfl
 have x6:=B0.cell 6 (.int .i64 m.h.hash) rfl
 have x7:=B0.cell 7 (v3) rfl
 have x8:=B0.cell 8 (vp) rfl
 have x9:=B0.cell 9 (.int .i64 m.pc) rfl
 have Bg:=B0.cell 10 (vo) rfl
 have Bh:=B0.cell 11 (.int .i64 m.st) rfl
 unfold smM
 go_enter Tryz.func19,Tryz.ntmps19
 go_wp2_with fail
 refine SH.mono ?_
 rintro e w1 ⟨⟨y,rfl,q1⟩,hb1⟩
 have bw1:=bel_after hb0 hb1
 have B1:=B0.later hb1
 have x8:=B1.cell 8 vp rfl
 have Bg:=B1.cell 10 vo rfl
 clear x0 x1 x2 x3 x4 x5 x6 x7 x9 Bh SH
 by_cases hy:y<0
 ·go_wp2
  go_ret
  exact ⟨⟨-1,rfl,(fun h=>by omega)⟩,bw1⟩
 obtain ⟨p1,p2⟩:=q1.out (by omega)
 have SC:=fun x a b=>szCodeS_any vp m.prog x w1 (ip.later bw1) s4 a b
 go_wp2_with fail
 refine (SC _ (by omega) (by omega)).mono ?_
 rintro e w2 ⟨⟨y2,rfl,q2⟩,hb2⟩
 replace q2:Hid (0<=y2->y2=y - m.prog.length/\(m.prog.length:Int)<=y):=q2
 have bw2:=bel_after bw1 hb2
 have B2:=B1.later hb2
 have Bg:=B2.cell 10 vo rfl
 clear SC x8
 by_cases hy2:y2<0
 ·go_wp2
  go_ret
  exact ⟨⟨-1,rfl,(fun h=>by omega)⟩,bw2⟩
 obtain ⟨p3,p4⟩:=q2.out (by omega)
 have SI:=fun x a b=>szInt64S_any vo m.out x w2 (io.later bw2) s5 a b
 go_wp2_with fail
 refine (SI _ (by omega) (by omega)).mono ?_
 rintro e wq ⟨⟨y3,rfl,q3⟩,hq⟩
 obtain rfl:=hq.symm
 by_cases hy3:y3<0
 ·go_wp2
  go_ret
  exact ⟨⟨-1,rfl,(fun h=>by omega)⟩,bw2⟩
 obtain ⟨p5,p6⟩:=q3.out (by omega)
 clear SI
 go_wp2
 go_ret
 exact ⟨⟨y3,rfl,(fun _=>⟨p2.1,p2.2.1,p2.2.2,by omega,by omega⟩)⟩,bw2⟩
set_option maxRecDepth 100000 in
set_option maxHeartbeats 1600000 in
theorem toVm_any (v1 v2 v3 vp vo:Value) (m:Mp) (w:World) (i1:IR w v1 m.h.words) (i2:IR w v2 m.h.roots) (i3:IR w v3 m.h.kept) (ip:CR w vp m.prog) (io:IR w vo m.out) (hs:smM m 10000000) :
  Calls Tryz.prog 20 #[.agg #[v1,v2,.int .i64 m.h.old,.int .i64 m.h.eden,.int .i64 m.h.surv,.bool m.h.flip,.int .i64 m.h.hash,v3,vp,.int .i64 m.pc,vo,.int .i64 m.st]] w fun e w'=>(∃ v,e=.returned v/\VN w.heap.size w' v m)/\Below w.heap.size w w':=by
 obtain ⟨s1,s2,s3,s4,s5⟩:=hs
 have hb0:Below w.heap.size w (((w.alloc (.cells #[v1,v2,.int .i64 m.h.old,.int .i64 m.h.eden,.int .i64 m.h.surv,.bool m.h.flip,.int .i64 m.h.hash,v3,vp,.int .i64 m.pc,vo,.int .i64 m.st] 50)).alloc (.cells #[.slice none 0 0,.slice none 0 0,.int .i64 0,.int .i64 0,.int .i64 0,.bool false,.int .i64 0,.slice none 0 0,.slice none 0 0,.int .i64 0,.slice none 0 0,.int .i64 0] 29)).alloc (.cells #[.slice none 0 0,.slice none 0 0,.int .i64 0,.int .i64 0,.int .i64 0,.bool false,.int .i64 0,.slice none 0 0,.slice none 0 0,.int .i64 0,.slice none 0 0,.int .i64 0] 29)):=bel_after (bel_after (bel_one _ _) (bel_one _ _)) (bel_one _ _)
 have B0:Bk (((w.alloc (.cells #[v1,v2,.int .i64 m.h.old,.int .i64 m.h.eden,.int .i64 m.h.surv,.bool m.h.flip,.int .i64 m.h.hash,v3,vp,.int .i64 m.pc,vo,.int .i64 m.st] 50)).alloc (.cells #[.slice none 0 0,.slice none 0 0,.int .i64 0,.int .i64 0,.int .i64 0,.bool false,.int .i64 0,.slice none 0 0,.slice none 0 0,.int .i64 0,.slice none 0 0,.int .i64 0] 29)).alloc (.cells #[.slice none 0 0,.slice none 0 0,.int .i64 0,.int .i64 0,.int .i64 0,.bool false,.int .i64 0,.slice none 0 0,.slice none 0 0,.int .i64 0,.slice none 0 0,.int .i64 0] 29)) w.heap.size #[v1,v2,.int .i64 m.h.old,.int .i64 m.h.eden,.int .i64 m.h.surv,.bool m.h.flip,.int .i64 m.h.hash,v3,vp,.int .i64 m.pc,vo,.int .i64 m.st] 50:=((Bk.new w #[v1,v2,.int .i64 m.h.old,.int .i64 m.h.eden,.int .i64 m.h.surv,.bool m.h.flip,.int .i64 m.h.hash,v3,vp,.int .i64 m.pc,vo,.int .i64 m.st] 50).alloc _).alloc _
 have R0:Bk (((w.alloc (.cells #[v1,v2,.int .i64 m.h.old,.int .i64 m.h.eden,.int .i64 m.h.surv,.bool m.h.flip,.int .i64 m.h.hash,v3,vp,.int .i64 m.pc,vo,.int .i64 m.st] 50)).alloc (.cells #[.slice none 0 0,.slice none 0 0,.int .i64 0,.int .i64 0,.int .i64 0,.bool false,.int .i64 0,.slice none 0 0,.slice none 0 0,.int .i64 0,.slice none 0 0,.int .i64 0] 29)).alloc (.cells #[.slice none 0 0,.slice none 0 0,.int .i64 0,.int .i64 0,.int .i64 0,.bool false,.int .i64 0,.slice none 0 0,.slice none 0 0,.int .i64 0,.slice none 0 0,.int .i64 0] 29)) (w.heap.size+1) #[.slice none 0 0,.slice none 0 0,.int .i64 0,.int .i64 0,.int .i64 0,.bool false,.int .i64 0,.slice none 0 0,.slice none 0 0,.int .i64 0,.slice none 0 0,.int .i64 0] 29:=by
  have q:=(Bk.new (w.alloc (.cells #[v1,v2,.int .i64 m.h.old,.int .i64 m.h.eden,.int .i64 m.h.surv,.bool m.h.flip,.int .i64 m.h.hash,v3,vp,.int .i64 m.pc,vo,.int .i64 m.st] 50)) #[.slice none 0 0,.slice none 0 0,.int .i64 0,.int .i64 0,.int .i64 0,.bool false,.int .i64 0,.slice none 0 0,.slice none 0 0,.int .i64 0,.slice none 0 0,.int .i64 0] 29).alloc (.cells #[.slice none 0 0,.slice none 0 0,.int .i64 0,.int .i64 0,.int .i64 0,.bool false,.int .i64 0,.slice none 0 0,.slice none 0 0,.int .i64 0,.slice none 0 0,.int .i64 0] 29)
  rw [World.size_alloc] at q
  exact q
 have O0:Bk (((w.alloc (.cells #[v1,v2,.int .i64 m.h.old,.int .i64 m.h.eden,.int .i64 m.h.surv,.bool m.h.flip,.int .i64 m.h.hash,v3,vp,.int .i64 m.pc,vo,.int .i64 m.st] 50)).alloc (.cells #[.slice none 0 0,.slice none 0 0,.int .i64 0,.int .i64 0,.int .i64 0,.bool false,.int .i64 0,.slice none 0 0,.slice none 0 0,.int .i64 0,.slice none 0 0,.int .i64 0] 29)).alloc (.cells #[.slice none 0 0,.slice none 0 0,.int .i64 0,.int .i64 0,.int .i64 0,.bool false,.int .i64 0,.slice none 0 0,.slice none 0 0,.int .i64 0,.slice none 0 0,.int .i64 0] 29)) (w.heap.size+1+1) #[.slice none 0 0,.slice none 0 0,.int .i64 0,.int .i64 0,.int .i64 0,.bool false,.int .i64 0,.slice none 0 0,.slice none 0 0,.int .i64 0,.slice none 0 0,.int .i64 0] 29:=by
  have q:=Bk.new ((w.alloc (.cells #[v1,v2,.int .i64 m.h.old,.int .i64 m.h.eden,.int .i64 m.h.surv,.bool m.h.flip,.int .i64 m.h.hash,v3,vp,.int .i64 m.pc,vo,.int .i64 m.st] 50)).alloc (.cells #[.slice none 0 0,.slice none 0 0,.int .i64 0,.int .i64 0,.int .i64 0,.bool false,.int .i64 0,.slice none 0 0,.slice none 0 0,.int .i64 0,.slice none 0 0,.int .i64 0] 29)) #[.slice none 0 0,.slice none 0 0,.int .i64 0,.int .i64 0,.int .i64 0,.bool false,.int .i64 0,.slice none 0 0,.slice none 0 0,.int .i64 0,.slice none 0 0,.int .i64 0] 29
  rw [World.size_alloc,World.size_alloc] at q
  exact q
 have TOH:=toHeap_any v1 v2 v3 m.h _ (i1.later hb0) (i2.later hb0) (i3.later hb0) (by omega) (by omega) (by omega)
 have x0:=B0.cell 0 (v1) rfl
 have x1:=B0.cell 1 (v2) rfl
 have x2:=B0.cell 2 (.int .i64 m.h.old) rfl
 have x3:=B0.cell 3 (.int .i64 m.h.eden) rfl
 have x4:=B0.cell 4 (.int .i64 m.h.surv) rfl
 have x5:=B0.cell 5 (.bool m.h.flip) rfl
 have x6:=B0.cell 6 (.int .i64 m.h.hash) rfl
 have x7:=B0.cell 7 (v3) rfl
 have x8:=B0.cell 8 (vp) rfl
 have x9:=B0.cell 9 (.int .i64 m.pc) rfl
 have Bg:=B0.cell 10 (vo) rfl
 have Bh:=B0.cell 11 (.int .i64 m.st) rfl
 have ltO:=O0.lt
 go_enter Tryz.func20,Tryz.ntmps20
 go_wp2_with fail
 refine TOH.mono ?_
 clear x0 x1 x2 x3 x4 x5 x6 x7 x8 x9 Bg Bh TOH
 rintro e w1 ⟨⟨ph,rfl,hph⟩,hb1⟩
 have bw1:=bel_after hb0 hb1
 have B1:=B0.later hb1
 have R1:=R0.later hb1
 have O1:=O0.later hb1
 have lo1:w.heap.size+3<=(((w.alloc (.cells #[v1,v2,.int .i64 m.h.old,.int .i64 m.h.eden,.int .i64 m.h.surv,.bool m.h.flip,.int .i64 m.h.hash,v3,vp,.int .i64 m.pc,vo,.int .i64 m.st] 50)).alloc (.cells #[.slice none 0 0,.slice none 0 0,.int .i64 0,.int .i64 0,.int .i64 0,.bool false,.int .i64 0,.slice none 0 0,.slice none 0 0,.int .i64 0,.slice none 0 0,.int .i64 0] 29)).alloc (.cells #[.slice none 0 0,.slice none 0 0,.int .i64 0,.int .i64 0,.int .i64 0,.bool false,.int .i64 0,.slice none 0 0,.slice none 0 0,.int .i64 0,.slice none 0 0,.int .i64 0] 29)).heap.size:=by simp
 have le1:=hb1.size
 obtain ⟨p1,p2,p3,rfl,HNs⟩:=hph.ex
 clear B0 R0 O0 i1 i2 i3 HNs
 obtain ⟨po1,pc1,rfl,-⟩:=IRs hph.irs.2.1.1
 obtain ⟨po2,pc2,rfl,-⟩:=IRs hph.irs.2.1.2.1
 obtain ⟨po3,pc3,rfl,-⟩:=IRs hph.irs.2.1.2.2
 obtain ⟨p1,ep1⟩:∃ x,x=Value.slice po1 m.h.words.length pc1:=⟨_,rfl⟩
 obtain ⟨p2,ep2⟩:∃ x,x=Value.slice po2 m.h.roots.length pc2:=⟨_,rfl⟩
 obtain ⟨p3,ep3⟩:∃ x,x=Value.slice po3 m.h.kept.length pc3:=⟨_,rfl⟩
 have OKH:(#[p1,p2,.int .i64 m.h.old,.int .i64 m.h.eden,.int .i64 m.h.surv,.bool m.h.flip,.int .i64 m.h.hash,p3]:Array Value).all (·.oneCell')=true:=by rw [ep1,ep2,ep3];simp [Value.oneCell']
 have OKV:∀ gp go co,(#[p1,p2,.int .i64 m.h.old,.int .i64 m.h.eden,.int .i64 m.h.surv,.bool m.h.flip,.int .i64 m.h.hash,p3,.slice (some ⟨gp,0,none⟩) m.prog.length m.prog.length,.int .i64 m.pc,.slice (some ⟨go,0,none⟩) m.out.length co,.int .i64 m.st]:Array Value).all (·.oneCell')=true:=fun gp go co=>by rw [ep1,ep2,ep3];simp [Value.oneCell']
 rw [<- ep1,← ep2,← ep3] at hph ⊢
 clear ep1 ep2 ep3
 obtain ⟨w2,run2,O2,g2,z2⟩:=O1.part 26 0 #[p1,p2,.int .i64 m.h.old,.int .i64 m.h.eden,.int .i64 m.h.surv,.bool m.h.flip,.int .i64 m.h.hash,p3] #[p1,p2,.int .i64 m.h.old,.int .i64 m.h.eden,.int .i64 m.h.surv,.bool m.h.flip,.int .i64 m.h.hash,p3,.slice none 0 0,.int .i64 0,.slice none 0 0,.int .i64 0] (by simp) (by kernel_rfl) OKH rfl
 have B2:=B1.off g2 (by intro e;injection e with e;omega)
 have R2:=R1.off g2 (by intro e;injection e with e;omega)
 have bw2:Below w.heap.size w w2:=Below.grown bw1 g2 bw1.size (fun q hq=>by cases hq;omega)
 have hph2:HN (w.heap.size+3) w2 (.agg #[p1,p2,.int .i64 m.h.old,.int .i64 m.h.eden,.int .i64 m.h.surv,.bool m.h.flip,.int .i64 m.h.hash,p3]) m.h:=by
  exact (hph.keep (w':=w2) (fun b h1 h2=>g2.block b h2 (by intro e;injection e with e;omega))).down lo1
 have lo2:∀ b,(Disk.rowOf p1 m.h.words.length=some b ∨ Disk.rowOf p2 m.h.roots.length=some b ∨ Disk.rowOf p3 m.h.kept.length=some b)->b<w2.heap.size:=fun b hb=>by
  obtain ⟨⟨o1,o2,o3⟩,_⟩:=hph2.irs
  rcases hb with hb|hb|hb
  ·exact o1.row b hb
  ·exact o2.row b hb
  ·exact o3.row b hb
 have TOC:=toCodes_any vp m.prog w2 (ip.later bw2) (by omega)
 have x8:=B2.cell 8 vp rfl
 clear hph B1 R1 O1 hb1
 go_wp2_with (refine wp_storeK run2 rfl _ _ rfl rfl rfl rfl ?_)
 refine TOC.mono ?_
 clear TOC x8
 rintro e w3 ⟨⟨rfl,rc3⟩,hb3,lt3⟩
 obtain ⟨gp,egp⟩:∃ x,x=w2.heap.size:=⟨_,rfl⟩
 rw [<- egp] at rc3 lt3 ⊢
 have B3:=B2.later hb3
 have R3:=R2.later hb3
 have O3:=O2.later hb3
 have bw3:=bel_after bw2 hb3
 have hph3:=hph2.later hb3
 have HL3:∀ W,(∀ b,w.heap.size+3<=b->b<w3.heap.size->W.heap[b]?=w3.heap[b]?)->HN (w.heap.size+3) W (.agg #[p1,p2,.int .i64 m.h.old,.int .i64 m.h.eden,.int .i64 m.h.surv,.bool m.h.flip,.int .i64 m.h.hash,p3]) m.h:=fun W hk=>hph3.keep hk
 have hgp:w.heap.size+3<=gp:=by omega
 have lo2p:∀ b,(Disk.rowOf p1 m.h.words.length=some b ∨ Disk.rowOf p2 m.h.roots.length=some b ∨ Disk.rowOf p3 m.h.kept.length=some b)->b<gp:=fun b hb=>by have:=lo2 b hb;omega
 clear egp z2 lo2
 have cO3:=O3.cell 8 (.slice none 0 0) rfl
 have fO3:=O3.frozen 8
 have O4:=O3.setc 8 (.slice (some ⟨gp,0,none⟩) m.prog.length m.prog.length) #[p1,p2,.int .i64 m.h.old,.int .i64 m.h.eden,.int .i64 m.h.surv,.bool m.h.flip,.int .i64 m.h.hash,p3,.slice (some ⟨gp,0,none⟩) m.prog.length m.prog.length,.int .i64 0,.slice none 0 0,.int .i64 0] rfl
 have g4:=Disk.grown_set w3 (w.heap.size+1+1) 8 (.slice (some ⟨gp,0,none⟩) m.prog.length m.prog.length)
 have B4:=B3.off g4 (by intro e;injection e with e;omega)
 have R4:=R3.off g4 (by intro e;injection e with e;omega)
 have bw4:Below w.heap.size w (w3.setCell ⟨w.heap.size+1+1,8,none⟩ (.slice (some ⟨gp,0,none⟩) m.prog.length m.prog.length)):=Below.grown bw3 g4 bw3.size (fun q hq=>by cases hq;omega)
 have hph4:HN (w.heap.size+3) (w3.setCell ⟨w.heap.size+1+1,8,none⟩ (.slice (some ⟨gp,0,none⟩) m.prog.length m.prog.length)) (.agg #[p1,p2,.int .i64 m.h.old,.int .i64 m.h.eden,.int .i64 m.h.surv,.bool m.h.flip,.int .i64 m.h.hash,p3]) m.h:=HL3 _ (fun b h1 h2=>g4.block b h2 (by intro e;injection e with e;omega))
 have rc4:=rc3.block (g4.block gp rc3.lt (by intro e;injection e with e;omega))
 have cB4:=B4.cell 9 (.int .i64 m.pc) rfl
 have cO4:=O4.cell 9 (.int .i64 0) rfl
 have fO4:=O4.frozen 9
 have O5:=O4.setc 9 (.int .i64 m.pc) #[p1,p2,.int .i64 m.h.old,.int .i64 m.h.eden,.int .i64 m.h.surv,.bool m.h.flip,.int .i64 m.h.hash,p3,.slice (some ⟨gp,0,none⟩) m.prog.length m.prog.length,.int .i64 m.pc,.slice none 0 0,.int .i64 0] rfl
 have g5:=Disk.grown_set (w3.setCell ⟨w.heap.size+1+1,8,none⟩ (.slice (some ⟨gp,0,none⟩) m.prog.length m.prog.length)) (w.heap.size+1+1) 9 (.int .i64 m.pc)
 have sz4:(w3.setCell ⟨w.heap.size+1+1,8,none⟩ (.slice (some ⟨gp,0,none⟩) m.prog.length m.prog.length)).heap.size=w3.heap.size:=by simp
 obtain ⟨w5,e5⟩:∃ x,x=(w3.setCell ⟨w.heap.size+1+1,8,none⟩ (.slice (some ⟨gp,0,none⟩) m.prog.length m.prog.length)).setCell ⟨w.heap.size+1+1,9,none⟩ (.int .i64 m.pc):=⟨_,rfl⟩
 rw [<- e5] at g5 O5
 have sz5:w5.heap.size=w3.heap.size:=by rw [e5];simp
 have B5:=B4.off g5 (by intro e;injection e with e;omega)
 have R5:=R4.off g5 (by intro e;injection e with e;omega)
 have bw5:Below w.heap.size w w5:=Below.grown bw4 g5 bw4.size (fun q hq=>by cases hq;omega)
 have g45:=Disk.grown_trans g4 g5
 have hph5:HN (w.heap.size+3) w5 (.agg #[p1,p2,.int .i64 m.h.old,.int .i64 m.h.eden,.int .i64 m.h.surv,.bool m.h.flip,.int .i64 m.h.hash,p3]) m.h:=HL3 _ (fun b h1 h2=>g45.block b h2 (by intro e;injection e with e;omega))
 have rc5:=rc4.block (g5.block gp rc4.lt (by intro e;injection e with e;omega))
 have TOI:=toInts_any vo m.out w5 (io.later bw5) (by omega)
 have Bg:=B5.cell 10 vo rfl
 rw [e5] at TOI Bg
 clear O4 B4 R4 bw4 hph4 rc4 g4 g5 g45 hph3 rc3
 go_wp2_with fail
 refine TOI.mono ?_
 clear TOI Bg cO3 fO3 cB4 cO4 fO4
 rw [<- e5]
 clear e5
 rintro e w6 ⟨⟨co,rfl,io6,os6⟩,hb6,lt6⟩
 obtain ⟨go,ego⟩:∃ x,x=w5.heap.size:=⟨_,rfl⟩
 rw [<- ego] at io6 os6 lt6 ⊢
 have B6:=B5.later hb6
 have R6:=R5.later hb6
 have O6:=O5.later hb6
 have bw6:=bel_after bw5 hb6
 have hph6:=hph5.later hb6
 have rc6:=rc5.later hb6
 have lgg:gp<go:=by omega
 have lo6:∀ b,(Disk.rowOf p1 m.h.words.length=some b ∨ Disk.rowOf p2 m.h.roots.length=some b ∨ Disk.rowOf p3 m.h.kept.length=some b)->b<gp:=fun b hb=>by have:=lo2p b hb;omega
 clear lo2p ego
 have cO6:=O6.cell 10 (.slice none 0 0) rfl
 have fO6:=O6.frozen 10
 have O7:=O6.setc 10 (.slice (some ⟨go,0,none⟩) m.out.length co) #[p1,p2,.int .i64 m.h.old,.int .i64 m.h.eden,.int .i64 m.h.surv,.bool m.h.flip,.int .i64 m.h.hash,p3,.slice (some ⟨gp,0,none⟩) m.prog.length m.prog.length,.int .i64 m.pc,.slice (some ⟨go,0,none⟩) m.out.length co,.int .i64 0] rfl
 have g7:=Disk.grown_set w6 (w.heap.size+1+1) 10 (.slice (some ⟨go,0,none⟩) m.out.length co)
 have B7:=B6.off g7 (by intro e;injection e with e;omega)
 have cB7:=B7.cell 11 (.int .i64 m.st) rfl
 have cO7:=O7.cell 11 (.int .i64 0) rfl
 have fO7:=O7.frozen 11
 have O8:=O7.setc 11 (.int .i64 m.st) #[p1,p2,.int .i64 m.h.old,.int .i64 m.h.eden,.int .i64 m.h.surv,.bool m.h.flip,.int .i64 m.h.hash,p3,.slice (some ⟨gp,0,none⟩) m.prog.length m.prog.length,.int .i64 m.pc,.slice (some ⟨go,0,none⟩) m.out.length co,.int .i64 m.st] rfl
 have g8:=Disk.grown_set (w6.setCell ⟨w.heap.size+1+1,10,none⟩ (.slice (some ⟨go,0,none⟩) m.out.length co)) (w.heap.size+1+1) 11 (.int .i64 m.st)
 have g78:=Disk.grown_trans g7 g8
 obtain ⟨w8,e8⟩:∃ x,x=(w6.setCell ⟨w.heap.size+1+1,10,none⟩ (.slice (some ⟨go,0,none⟩) m.out.length co)).setCell ⟨w.heap.size+1+1,11,none⟩ (.int .i64 m.st):=⟨_,rfl⟩
 have sz8:w8.heap.size=w6.heap.size:=by rw [e8];simp
 rw [<- e8] at g78 O8
 have R8:=R6.off g78 (by intro e;injection e with e;omega)
 have bw8:Below w.heap.size w w8:=Below.grown bw6 g78 bw6.size (fun q hq=>by cases hq;omega)
 obtain ⟨w9,run9,R9,g9,z9⟩:=R8.store 29 #[p1,p2,.int .i64 m.h.old,.int .i64 m.h.eden,.int .i64 m.h.surv,.bool m.h.flip,.int .i64 m.h.hash,p3,.slice (some ⟨gp,0,none⟩) m.prog.length m.prog.length,.int .i64 m.pc,.slice (some ⟨go,0,none⟩) m.out.length co,.int .i64 m.st] (by simp) (by kernel_rfl) (OKV gp go co)
 have HG:∀ b,b<w6.heap.size->b ≠ w.heap.size+1->b ≠ w.heap.size+1+1->w9.heap[b]?=w6.heap[b]?:=fun b h1 h2 h3=>(g9.block b (by omega) (by intro e;cases e;exact h2 rfl)).trans (g78.block b h1 (by intro e;cases e;exact h3 rfl))
 have hph9:HN (w.heap.size+3) w9 (.agg #[p1,p2,.int .i64 m.h.old,.int .i64 m.h.eden,.int .i64 m.h.surv,.bool m.h.flip,.int .i64 m.h.hash,p3]) m.h:=hph6.keep (fun b h1 h2=>HG b h2 (by omega) (by omega))
 have rc9:=rc6.block (HG gp rc6.lt (by omega) (by omega))
 have io9:=io6.keepR (B:=go) (S:=go+1) (fun b h1 h2=>HG b (by omega) (by omega) (by omega)) (fun b hb=>by have:=rowof hb;omega)
 have os9:=OS.keepC os6 (B:=go) (S:=go+1) (fun b h1 h2=>HG b (by omega) (by omega) (by omega)) (fun b hb=>by have:=rowof hb;omega)
 have bw9:Below w.heap.size w w9:=Below.grown bw8 g9 bw8.size (fun q hq=>by cases hq;omega)
 have k:=fun i v h=>O8.cell i v h
 have k0:=k 0 (p1) rfl
 have k1:=k 1 (p2) rfl
 have k2:=k 2 (.int .i64 m.h.old) rfl
 have k3:=k 3 (.int .i64 m.h.eden) rfl
 have k4:=k 4 (.int .i64 m.h.surv) rfl
 have k5:=k 5 (.bool m.h.flip) rfl
 have k6:=k 6 (.int .i64 m.h.hash) rfl
 have k7:=k 7 (p3) rfl
 have k8:=k 8 (.slice (some ⟨gp,0,none⟩) m.prog.length m.prog.length) rfl
 have k9:=k 9 (.int .i64 m.pc) rfl
 have k10:=k 10 (.slice (some ⟨go,0,none⟩) m.out.length co) rfl
 have k11:=k 11 (.int .i64 m.st) rfl
 rw [e8] at k0 k1 k2 k3 k4 k5 k6 k7 k8 k9 k10 k11
 rw [e8] at run9
 have VNK:VN w.heap.size w9 (.agg #[p1,p2,.int .i64 m.h.old,.int .i64 m.h.eden,.int .i64 m.h.surv,.bool m.h.flip,.int .i64 m.h.hash,p3,.slice (some ⟨gp,0,none⟩) m.prog.length m.prog.length,.int .i64 m.pc,.slice (some ⟨go,0,none⟩) m.out.length co,.int .i64 m.st]) m:=by
  refine ⟨⟨p1,p2,p3,_,_,rfl,hph9.down (by omega),⟨rc9.cr (Nat.le_refl _),rc9.os⟩,⟨io9,os9⟩,fun b hb=>?_,fun b hb=>?_⟩⟩
  ·obtain rfl:=rowof hb
   exact ⟨by omega,fun e=>by have:=lo6 _ (.inl e);omega,fun e=>by have:=lo6 _ (.inr (.inl e));omega,fun e=>by have:=lo6 _ (.inr (.inr e));omega,fun e=>by have:=rowof e;omega⟩
  ·obtain rfl:=rowof hb
   exact ⟨by omega,fun e=>by have:=lo6 _ (.inl e);omega,fun e=>by have:=lo6 _ (.inr (.inl e));omega,fun e=>by have:=lo6 _ (.inr (.inr e));omega⟩
 clear O7 B7 R8 bw8 O8 k g7 g8 g78 HG hph9 rc9 io9 os9
 go_wp2_with (refine wp_storeK run9 rfl _ _ rfl rfl rfl rfl ?_)
 have r0:=R9.cell 0 (p1) rfl
 have r1:=R9.cell 1 (p2) rfl
 have r2:=R9.cell 2 (.int .i64 m.h.old) rfl
 have r3:=R9.cell 3 (.int .i64 m.h.eden) rfl
 have r4:=R9.cell 4 (.int .i64 m.h.surv) rfl
 have r5:=R9.cell 5 (.bool m.h.flip) rfl
 have r6:=R9.cell 6 (.int .i64 m.h.hash) rfl
 have r7:=R9.cell 7 (p3) rfl
 have r8:=R9.cell 8 (.slice (some ⟨gp,0,none⟩) m.prog.length m.prog.length) rfl
 have r9:=R9.cell 9 (.int .i64 m.pc) rfl
 have r10:=R9.cell 10 (.slice (some ⟨go,0,none⟩) m.out.length co) rfl
 have r11:=R9.cell 11 (.int .i64 m.st) rfl
 exact bodyPost_ret (v:=.agg #[p1,p2,.int .i64 m.h.old,.int .i64 m.h.eden,.int .i64 m.h.surv,.bool m.h.flip,.int .i64 m.h.hash,p3,.slice (some ⟨gp,0,none⟩) m.prog.length m.prog.length,.int .i64 m.pc,.slice (some ⟨go,0,none⟩) m.out.length co,.int .i64 m.st]) (by simp [results,Tryz.results20,go_sem,r0,r1,r2,r3,r4,r5,r6,r7,r8,r9,r10,r11]) rfl ⟨⟨_,rfl,VNK⟩,bw9⟩
end Go.Proofs.YtgnbibinclepcaaGreatDoor
