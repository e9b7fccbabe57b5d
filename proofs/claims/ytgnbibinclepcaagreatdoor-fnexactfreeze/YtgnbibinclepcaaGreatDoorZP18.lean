
import Derived.Test.YtgnbibinclepcaaGreatDoorZKRoot
import Derived.Test.YtgnbibinclepcaaGreatDoorZP12
/- isStack and hasParts of the program. -/
namespace Go.Proofs.YtgnbibinclepcaaGreatDoor
open Go.RowKit
set_option maxRecDepth 100000 in
set_option maxHeartbeats 1600000 in
theorem isStack_any (v:Value) (l:List Int) (w:World) (hv:IR w v l) (hl:l.length=40) :
  Calls Tryz.prog 154 #[v] w fun e w'=>e=.returned (.bool (stkB l))/\Below w.heap.size w w':=by
 obtain ⟨ao,cap,rfl,hle,hc⟩:=id hv
 have HL:Hid (l.length=40):=hl
 obtain ⟨b,o,rfl,c0⟩:=hc 0 (by omega)
 have IO:=fun W=>implIntOf_any (l.getD 0 0) W
 rw [Nat.add_zero] at c0
 rw [hl] at hle
 have DL:∀ m n q c,m<=40->n=40 - m->n<=c->(n=0 ∨ q=o+m)->IR w (.slice (some ⟨b,q,none⟩) n c) (l.drop m):=fun m n q c hm hn hc2 hq=>by
  subst hn
  refine ⟨_,_,by rw [List.length_drop,hl],by rw [List.length_drop,hl];exact hc2,fun i hi=>?_⟩
  rw [List.length_drop,hl] at hi
  obtain rfl:q=o+m:=hq.resolve_left (by omega)
  obtain ⟨b',o',e,hcell⟩:=hc (m+i) (by omega)
  simp only [Option.some.injEq,Addr.mk.injEq,and_true] at e
  obtain ⟨rfl,rfl⟩:=e
  refine ⟨b,o+m,rfl,?_⟩
  rw [Nat.add_assoc,hcell]
  simp [List.getD_eq_getElem?_getD,List.getElem?_drop]
 have AN:=fun (m n q c:Nat) (hm:m<=40) (hn:n=40 - m) (hc2:n<=c) (hq:n=0 ∨ q=o+m)=>areNoughts_any _ _ w (DL m n q c hm hn hc2 hq) (by rw [List.length_drop,hl];omega)
 unfold stkB
 have LD:Hid (∀ m,(l.drop m).length=40 - m):=fun m=>by rw [List.length_drop,hl]
 clear hc hv DL
 generalize valK 1 (l.getD 0 0)=d at *
 generalize isK 1 (l.getD 0 0)=is at *
 generalize l.getD 0 0=x0 at *
 rw [hl]
 clear hl
 cases is
 ·go_enter Tryz.func154,Tryz.ntmps154
  go_wp2_with (go_at_call 188;refine (IO _).mono ?_;rintro e wq ⟨rfl,hq⟩;obtain rfl:=hq.symm)
  go_ret
  exact ⟨rfl,Below.refl _ _⟩
 by_cases h1:0<=d
 case neg =>
  have d1:decide (0<=d)=false:=decide_eq_false h1
  rw [d1]
  go_enter Tryz.func154,Tryz.ntmps154
  go_wp2_with (go_at_call 188;refine (IO _).mono ?_;rintro e wq ⟨rfl,hq⟩;obtain rfl:=hq.symm)
  go_ret
  exact ⟨by first|rfl|simp,Below.refl _ _⟩
 by_cases h2:d<=39
 case neg =>
  have d1:decide (0<=d)=true:=decide_eq_true h1
  have d2:decide (d<=39)=false:=decide_eq_false h2
  rw [d1,d2]
  go_enter Tryz.func154,Tryz.ntmps154
  go_wp2_with (go_at_call 188;refine (IO _).mono ?_;rintro e wq ⟨rfl,hq⟩;obtain rfl:=hq.symm)
  go_ret
  exact ⟨by first|rfl|simp,Below.refl _ _⟩
 obtain ⟨m,rfl⟩:=Int.eq_ofNat_of_zero_le h1
 have d1:decide (0<=(m:Int))=true:=decide_eq_true h1
 have d2:decide ((m:Int)<=39)=true:=decide_eq_true h2
 rw [d1,d2,Bool.true_and,Bool.true_and,Bool.true_and,Int.toNat_natCast]
 have AM:=AN (m+1)
 generalize hal:(l.drop (m+1)).all (· == 0)=al at *
 clear AN LD hal
 have m40:m+1<=40:=by omega
 go_enter Tryz.func154,Tryz.ntmps154
 go_wp2_with (go_at_call 188;refine (IO _).mono ?_;rintro e wq ⟨rfl,hq⟩;obtain rfl:=hq.symm)
 ·have C:=AM (39 - m) o 0 (by omega) (by omega) (by omega) (by omega)
  clear AM
  refine C.mono ?_
  rintro e wq ⟨rfl,hq⟩
  obtain rfl:=hq.symm
  go_wp2
  go_ret
  exact ⟨by first|rfl|simp,Below.refl _ _⟩
 ·have C:=AM (39 - m) (o+(m+1)) (cap - (m+1)) (by omega) (by omega) (by omega) (by omega)
  clear AM
  refine C.mono ?_
  rintro e wq ⟨rfl,hq⟩
  obtain rfl:=hq.symm
  go_wp2
  go_ret
  exact ⟨by first|rfl|simp,Below.refl _ _⟩
set_option maxHeartbeats 1600000 in
theorem hasParts_any (N g1 g2:Nat) (oa:Option Addr) (oc:Nat) (h:Hp) (w:World) (K:KM w N g1 g2 oa oc h) (hk:okC h=true) (kl:h.roots.length<=20) :
  Calls Tryz.prog 116 #[.pointer (some ⟨N,0,none⟩)] w fun e w'=>e=.returned (.bool (partsB h))/\Below w.heap.size w w':=by
 unfold partsB
 obtain ⟨c0,c1,c2,_,_,_⟩:=id K
 by_cases hr:h.roots.length=2
 case neg =>
  have d1:((h.roots.length:Int) == 2)=false:=by rw [beq_eq_false_iff_ne];omega
  rw [decide_eq_false hr,Bool.false_and]
  go_enter Tryz.func116,Tryz.ntmps116
  go_wp2
  go_ret
  exact ⟨rfl,Below.refl _ _⟩
 have d1:((h.roots.length:Int) == 2)=true:=by rw [beq_iff_eq];omega
 have R0:=fun W Kq=>hasRoot_any N g1 g2 oa oc h W Kq hk 0 (by omega) kl 1 40 (by omega)
 have R1:=fun W Kq=>hasRoot_any N g1 g2 oa oc h W Kq hk 1 (by omega) kl 2 10 (by omega)
 have RF:=fun W Kq=>rootFields_any N g1 g2 oa oc h W Kq hk 0 (by omega) kl
 have R40:Hid (rootB h 0 1 40=true->refB h (h.roots.getD 0 0)=true/\(fldR h 0).length=40):=(fun q=>by
  unfold rootB at q
  simp only [Bool.and_eq_true,decide_eq_true_eq] at q
  exact ⟨q.1,by unfold fldR;rw [flds_len];exact q.2.2⟩:_)
 rw [decide_eq_true hr,Bool.true_and]
 generalize refB h (h.roots.getD 0 0)=rb at *
 generalize rootB h 0 1 40=b0 at *
 generalize rootB h 1 2 10=b1 at *
 generalize fldR h 0=fl at *
 rw [hr] at c2
 cases b0
 case false =>
  go_enter Tryz.func116,Tryz.ntmps116
  go_wp2_with fail
  refine (R0 _ K).mono ?_
  rintro e w1 ⟨rfl,hb1⟩
  go_wp2
  go_ret
  exact ⟨rfl,hb1⟩
 obtain ⟨rfl,h40⟩:=R40.out rfl
 replace h40:Hid (fl.length=40):=h40
 cases b1
 case false =>
  go_enter Tryz.func116,Tryz.ntmps116
  go_wp2_with fail
  refine (R0 _ K).mono ?_
  rintro e w1 ⟨rfl,hb1⟩
  go_wp2_with fail
  refine (R1 _ (K.later hb1)).mono ?_
  rintro e w2 ⟨rfl,hb2⟩
  go_wp2
  go_ret
  exact ⟨rfl,bel_after hb1 hb2⟩
 go_enter Tryz.func116,Tryz.ntmps116
 go_wp2_with fail
 refine (R0 _ K).mono ?_
 rintro e w1 ⟨rfl,hb1⟩
 go_wp2_with fail
 refine (R1 _ (K.later hb1)).mono ?_
 rintro e w2 ⟨rfl,hb2⟩
 have b2:=bel_after hb1 hb2
 go_wp2_with fail
 refine (RF _ (K.later b2)).mono ?_
 rintro e w3 ⟨⟨v,rfl,hv⟩,hb3⟩
 have b3:=bel_after b2 hb3
 have IS:=isStack_any v fl _ (hv (by simp)) h40.out
 go_wp2_with fail
 refine IS.mono ?_
 rintro e w4 ⟨rfl,hb4⟩
 have b4:=bel_after b3 hb4
 clear IS
 go_wp2
 go_ret
 exact ⟨by simp,b4⟩
noncomputable def okM (h:Hp) (pr:List Cd) (pc:Int) (ot:List Int) (st:Int):Bool:=okC h && (progB pr && (placeB pr.length pc && (outB ot && stateB st)))
end Go.Proofs.YtgnbibinclepcaaGreatDoor
/- One of two operations of a region comes up. -/
namespace Go.Proofs.YtgnbibinclepcaaGreatDoor
open Go.RowKit
section
variable {P : Program} {md : Region.Mode} {ops : Array Oper} {Q : Exit -> Act -> World -> Prop} {R : Act -> World -> Prop} {S : World -> Prop} {z : Nat}
theorem z_or {i j fuel:Nat} {listed:Array Bool} {a:Act} {w:World} (hr:Region.ready md ops listed=[i,j])
  (h1:wpOp P ops Q i (fun a' w'=>(i=z ∨ S w')/\Disk.wpAnyZ P md ops Q z S fuel (listed.setIfInBounds i true) a' w') a w)
  (h2:wpOp P ops Q j (fun a' w'=>(j=z ∨ S w')/\Disk.wpAnyZ P md ops Q z S fuel (listed.setIfInBounds j true) a' w') a w):Disk.wpAnyZ P md ops Q z S (fuel+1) listed a w:=by
 refine ⟨fun h0=>(by rw [hr] at h0;cases h0),fun k hk=>?_⟩
 rw [hr] at hk
 simp at hk
 rcases hk with rfl|rfl
 ·exact h1
 ·exact h2
theorem o_run (i d:Nat) {oi:Oper} {v:Value} {fuel:Nat} {listed:Array Bool} {T:Array Value} {D:List Deferred} {w w' : World} (hi:ops[i]?=some oi) (hd:oi.dst=some d)
  (hw:Region.wanted oi (yielded ops T)=true) (hy:(execOp (Act.eval ⟨T,D⟩) oi).run P w=.ok (.value v) w') (hS:i=z ∨ S w')
  (h:Disk.wpAnyZ P md ops (Disk.Ends R) z S fuel (listed.setIfInBounds i true) ⟨T.setIfInBounds d v,D⟩ w'):wpOp P ops (Disk.Ends R) i (fun a' w'=>(i=z ∨ S w')/\Disk.wpAnyZ P md ops (Disk.Ends R) z S fuel (listed.setIfInBounds i true) a' w') ⟨T,D⟩ w:=by
 refine Disk.wpOp_of hi hw ?_
 unfold Oper.wp
 rw [hy]
 refine ⟨hS,?_⟩
 rw [hd]
 exact h
theorem o_call (i d:Nat) {oi:Oper} {f:FuncId} {args:Array Value} {fuel:Nat} {listed:Array Bool} {T:Array Value} {D:List Deferred} {w w0:World} (hi:ops[i]?=some oi) (hd:oi.dst=some d)
  (hw:Region.wanted oi (yielded ops T)=true) (hy:(execOp (Act.eval ⟨T,D⟩) oi).run P w=.ok (.enter f args) w0)
  (h:Calls P f args w0 fun e w'=>∃ v,e=.returned v/\(i=z ∨ S w')/\Disk.wpAnyZ P md ops (Disk.Ends R) z S fuel (listed.setIfInBounds i true) ⟨T.setIfInBounds d v,D⟩ w'):wpOp P ops (Disk.Ends R) i (fun a' w'=>(i=z ∨ S w')/\Disk.wpAnyZ P md ops (Disk.Ends R) z S fuel (listed.setIfInBounds i true) a' w') ⟨T,D⟩ w:=by
 refine Disk.wpOp_of hi hw ?_
 unfold Oper.wp
 rw [hy]
 refine h.mono ?_
 rintro e w' ⟨v,rfl,hS,h⟩
 refine ⟨hS,?_⟩
 rw [hd]
 exact h
end
end Go.Proofs.YtgnbibinclepcaaGreatDoor
