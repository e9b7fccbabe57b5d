import Derived.Test.YtgnbibinclepcaaGreatDoorZP19
import Derived.Test.YtgnbibinclepcaaGreatDoorZP13
namespace Go.Proofs.YtgnbibinclepcaaGreatDoor
open Go.RowKit
section
variable {h : Hp} {pr : List Cd} {pc : Int} {ot : List Int} {st : Int}
theorem r_ok (k:okC h=false):(okM h pr pc ot st && partsB h)=false:=by unfold okM;rw [k];rfl
theorem r_pr (k:progB pr=false):(okM h pr pc ot st && partsB h)=false:=by unfold okM;rw [k];simp
theorem r_pl (k:placeB pr.length pc=false):(okM h pr pc ot st && partsB h)=false:=by unfold okM;rw [k];simp
theorem r_ou (k:outB ot=false):(okM h pr pc ot st && partsB h)=false:=by unfold okM;rw [k];simp
theorem r_st (k:stateB st=false):(okM h pr pc ot st && partsB h)=false:=by unfold okM;rw [k];simp
theorem r_pt (k:partsB h=false):(okM h pr pc ot st && partsB h)=false:=by rw [k];simp
theorem p_len (k:¬ h.roots.length=2):partsB h=false:=by unfold partsB;rw [decide_eq_false k];rfl
theorem p_r0 (k:rootB h 0 1 40=false):partsB h=false:=by unfold partsB;rw [k];simp
theorem p_r1 (k:rootB h 1 2 10=false):partsB h=false:=by unfold partsB;rw [k];simp
theorem p_sk (k:stkB (fldR h 0)=false):partsB h=false:=by unfold partsB;rw [k];simp
theorem root_no {k n:Nat} {c:Int} (r:refB h (h.roots.getD k 0)=false):rootB h k c n=false:=by unfold rootB;rw [r];rfl
theorem root_at {k n a:Nat} {c:Int} (r:refB h (h.roots.getD k 0)=true) (e:h.roots.getD k 0=2 * (a:Int)+1):rootB h k c n=(decide (gw h.words (a+1)=c) && decide ((gw h.words a).toNat=n)):=by
 unfold rootB
 rw [r,e,show (2 * (a:Int)+1) / 2=a from by omega,Int.toNat_natCast]
 rfl
theorem fldR_at {k a:Nat} (e:h.roots.getD k 0=2 * (a:Int)+1):fldR h k=flds h.words a:=by
 unfold fldR
 rw [e,show (2 * (a:Int)+1) / 2=a from by omega,Int.toNat_natCast]
end
theorem out_no {ot:List Int} {k:Nat} (hk:k<ot.length) (h:numB (ot.getD k 0)=false):outB ot=false:=by
 unfold outB
 refine and_f2 ?_
 rw [Bool.eq_false_iff]
 intro q
 have:=List.all_eq_true.1 q (ot.getD k 0) (by simp [hk])
 rw [this] at h
 cases h
theorem out_yes {ot:List Int} (hl:ot.length<=300) (h:∀ k,k<ot.length->numB (ot.getD k 0)=true):outB ot=true:=by
 unfold outB
 rw [decide_eq_true hl,Bool.true_and,List.all_eq_true]
 intro x hx
 obtain ⟨i,hi,e⟩:=List.getElem_of_mem hx
 have q:=h i hi
 rw [show ot.getD i 0=x from by simp [hi,e]] at q
 exact q
theorem in_num (x:Int):(decide (-1000000000<=x) && decide (x<=1000000000))=numB x:=by
 unfold numB
 rw [Bool.eq_iff_iff]
 simp
set_option maxRecDepth 100000 in
set_option maxHeartbeats 6400000 in
theorem specVmOk_any (v1 v2 v3 vp vo:Value) (h:Hp) (pr:List Cd) (pc:Int) (ot:List Int) (st:Int) (w:World) (i1:IR w v1 h.words) (i2:IR w v2 h.roots) (i3:IR w v3 h.kept) (ip:CR w vp pr) (io0:IR w vo ot)
  (hro:h.roots.length<=1000000000) (hke:h.kept.length<=1000000000) (hp2:pr.length<=1000000000) (ho2:ot.length<=1000000000) :
  Calls Tryz.prog 37 #[.agg #[v1,v2,.int .i64 h.old,.int .i64 h.eden,.int .i64 h.surv,.bool h.flip,.int .i64 h.hash,v3,vp,.int .i64 pc,vo,.int .i64 st]] w fun e w'=>e=.returned (.bool (okM h pr pc ot st && partsB h))/\Below w.heap.size w w':=by
 obtain ⟨r,hr0⟩:∃ r,r=(okM h pr pc ot st && partsB h):=⟨_,rfl⟩
 rw [<- hr0]
 replace hr0:Hid (r=(okM h pr pc ot st && partsB h)):=hr0
 obtain ⟨a1,c1,rfl,-⟩:=IRs i1
 obtain ⟨a2,c2,rfl,-⟩:=IRs i2
 obtain ⟨a3,c3,rfl,-⟩:=IRs i3
 obtain ⟨ap,cp,rfl,-⟩:=CRs ip
 obtain ⟨ao,co,rfl,-⟩:=IRs io0
 have hb0:Below w.heap.size w ((w.alloc (.cells #[.slice a1 h.words.length c1,.slice a2 h.roots.length c2,.int .i64 h.old,.int .i64 h.eden,.int .i64 h.surv,.bool h.flip,.int .i64 h.hash,.slice a3 h.kept.length c3,.slice ap pr.length cp,.int .i64 pc,.slice ao ot.length co,.int .i64 st] 29)).alloc (.cells #[.slice a1 h.words.length c1,.slice a2 h.roots.length c2,.int .i64 h.old,.int .i64 h.eden,.int .i64 h.surv,.bool h.flip,.int .i64 h.hash,.slice a3 h.kept.length c3] 26)):=bel_after (bel_one _ _) (bel_one _ _)
 have X0:((w.alloc (.cells #[.slice a1 h.words.length c1,.slice a2 h.roots.length c2,.int .i64 h.old,.int .i64 h.eden,.int .i64 h.surv,.bool h.flip,.int .i64 h.hash,.slice a3 h.kept.length c3,.slice ap pr.length cp,.int .i64 pc,.slice ao ot.length co,.int .i64 st] 29)).alloc (.cells #[.slice a1 h.words.length c1,.slice a2 h.roots.length c2,.int .i64 h.old,.int .i64 h.eden,.int .i64 h.surv,.bool h.flip,.int .i64 h.hash,.slice a3 h.kept.length c3] 26)).rowIs w.heap.size 29 12 (fun i=>(#[.slice a1 h.words.length c1,.slice a2 h.roots.length c2,.int .i64 h.old,.int .i64 h.eden,.int .i64 h.surv,.bool h.flip,.int .i64 h.hash,.slice a3 h.kept.length c3,.slice ap pr.length cp,.int .i64 pc,.slice ao ot.length co,.int .i64 st])[i]?.getD undef):=(row_any w #[.slice a1 h.words.length c1,.slice a2 h.roots.length c2,.int .i64 h.old,.int .i64 h.eden,.int .i64 h.surv,.bool h.flip,.int .i64 h.hash,.slice a3 h.kept.length c3,.slice ap pr.length cp,.int .i64 pc,.slice ao ot.length co,.int .i64 st] 29).of_block ((bel_one _ _).block _ (by simp))
 have Y0:((w.alloc (.cells #[.slice a1 h.words.length c1,.slice a2 h.roots.length c2,.int .i64 h.old,.int .i64 h.eden,.int .i64 h.surv,.bool h.flip,.int .i64 h.hash,.slice a3 h.kept.length c3,.slice ap pr.length cp,.int .i64 pc,.slice ao ot.length co,.int .i64 st] 29)).alloc (.cells #[.slice a1 h.words.length c1,.slice a2 h.roots.length c2,.int .i64 h.old,.int .i64 h.eden,.int .i64 h.surv,.bool h.flip,.int .i64 h.hash,.slice a3 h.kept.length c3] 26)).rowIs (w.heap.size+1) 26 8 (fun i=>(#[.slice a1 h.words.length c1,.slice a2 h.roots.length c2,.int .i64 h.old,.int .i64 h.eden,.int .i64 h.surv,.bool h.flip,.int .i64 h.hash,.slice a3 h.kept.length c3])[i]?.getD undef):=by
  have q:=row_any (w.alloc (.cells #[.slice a1 h.words.length c1,.slice a2 h.roots.length c2,.int .i64 h.old,.int .i64 h.eden,.int .i64 h.surv,.bool h.flip,.int .i64 h.hash,.slice a3 h.kept.length c3,.slice ap pr.length cp,.int .i64 pc,.slice ao ot.length co,.int .i64 st] 29)) #[.slice a1 h.words.length c1,.slice a2 h.roots.length c2,.int .i64 h.old,.int .i64 h.eden,.int .i64 h.surv,.bool h.flip,.int .i64 h.hash,.slice a3 h.kept.length c3] 26
  rw [World.size_alloc] at q
  exact q
 have HVH:HR ((w.alloc (.cells #[.slice a1 h.words.length c1,.slice a2 h.roots.length c2,.int .i64 h.old,.int .i64 h.eden,.int .i64 h.surv,.bool h.flip,.int .i64 h.hash,.slice a3 h.kept.length c3,.slice ap pr.length cp,.int .i64 pc,.slice ao ot.length co,.int .i64 st] 29)).alloc (.cells #[.slice a1 h.words.length c1,.slice a2 h.roots.length c2,.int .i64 h.old,.int .i64 h.eden,.int .i64 h.surv,.bool h.flip,.int .i64 h.hash,.slice a3 h.kept.length c3] 26)) (.agg #[.slice a1 h.words.length c1,.slice a2 h.roots.length c2,.int .i64 h.old,.int .i64 h.eden,.int .i64 h.surv,.bool h.flip,.int .i64 h.hash,.slice a3 h.kept.length c3]) h:=⟨_,_,_,rfl,i1.later hb0,i2.later hb0,i3.later hb0⟩
 have C0:=specHeapOk_c _ h _ HVH (by omega) (by omega)
 have xa0:(w.alloc (.cells #[.slice a1 h.words.length c1,.slice a2 h.roots.length c2,.int .i64 h.old,.int .i64 h.eden,.int .i64 h.surv,.bool h.flip,.int .i64 h.hash,.slice a3 h.kept.length c3,.slice ap pr.length cp,.int .i64 pc,.slice ao ot.length co,.int .i64 st] 29)).cell? ⟨w.heap.size,0,none⟩=some (.slice a1 h.words.length c1):=(row_any w #[.slice a1 h.words.length c1,.slice a2 h.roots.length c2,.int .i64 h.old,.int .i64 h.eden,.int .i64 h.surv,.bool h.flip,.int .i64 h.hash,.slice a3 h.kept.length c3,.slice ap pr.length cp,.int .i64 pc,.slice ao ot.length co,.int .i64 st] 29).cell (i:=0) (by simp)
 have xa1:(w.alloc (.cells #[.slice a1 h.words.length c1,.slice a2 h.roots.length c2,.int .i64 h.old,.int .i64 h.eden,.int .i64 h.surv,.bool h.flip,.int .i64 h.hash,.slice a3 h.kept.length c3,.slice ap pr.length cp,.int .i64 pc,.slice ao ot.length co,.int .i64 st] 29)).cell? ⟨w.heap.size,1,none⟩=some (.slice a2 h.roots.length c2):=(row_any w #[.slice a1 h.words.length c1,.slice a2 h.roots.length c2,.int .i64 h.old,.int .i64 h.eden,.int .i64 h.surv,.bool h.flip,.int .i64 h.hash,.slice a3 h.kept.length c3,.slice ap pr.length cp,.int .i64 pc,.slice ao ot.length co,.int .i64 st] 29).cell (i:=1) (by simp)
 have xa2:(w.alloc (.cells #[.slice a1 h.words.length c1,.slice a2 h.roots.length c2,.int .i64 h.old,.int .i64 h.eden,.int .i64 h.surv,.bool h.flip,.int .i64 h.hash,.slice a3 h.kept.length c3,.slice ap pr.length cp,.int .i64 pc,.slice ao ot.length co,.int .i64 st] 29)).cell? ⟨w.heap.size,2,none⟩=some (.int .i64 h.old):=(row_any w #[.slice a1 h.words.length c1,.slice a2 h.roots.length c2,.int .i64 h.old,.int .i64 h.eden,.int .i64 h.surv,.bool h.flip,.int .i64 h.hash,.slice a3 h.kept.length c3,.slice ap pr.length cp,.int .i64 pc,.slice ao ot.length co,.int .i64 st] 29).cell (i:=2) (by simp)
 have xa3:(w.alloc (.cells #[.slice a1 h.words.length c1,.slice a2 h.roots.length c2,.int .i64 h.old,.int .i64 h.eden,.int .i64 h.surv,.bool h.flip,.int .i64 h.hash,.slice a3 h.kept.length c3,.slice ap pr.length cp,.int .i64 pc,.slice ao ot.length co,.int .i64 st] 29)).cell? ⟨w.heap.size,3,none⟩=some (.int .i64 h.eden):=(row_any w #[.slice a1 h.words.length c1,.slice a2 h.roots.length c2,.int .i64 h.old,.int .i64 h.eden,.int .i64 h.surv,.bool h.flip,.int .i64 h.hash,.slice a3 h.kept.length c3,.slice ap pr.length cp,.int .i64 pc,.slice ao ot.length co,.int .i64 st] 29).cell (i:=3) (by simp)
 have xa4:(w.alloc (.cells #[.slice a1 h.words.length c1,.slice a2 h.roots.length c2,.int .i64 h.old,.int .i64 h.eden,.int .i64 h.surv,.bool h.flip,.int .i64 h.hash,.slice a3 h.kept.length c3,.slice ap pr.length cp,.int .i64 pc,.slice ao ot.length co,.int .i64 st] 29)).cell? ⟨w.heap.size,4,none⟩=some (.int .i64 h.surv):=(row_any w #[.slice a1 h.words.length c1,.slice a2 h.roots.length c2,.int .i64 h.old,.int .i64 h.eden,.int .i64 h.surv,.bool h.flip,.int .i64 h.hash,.slice a3 h.kept.length c3,.slice ap pr.length cp,.int .i64 pc,.slice ao ot.length co,.int .i64 st] 29).cell (i:=4) (by simp)
 have xa5:(w.alloc (.cells #[.slice a1 h.words.length c1,.slice a2 h.roots.length c2,.int .i64 h.old,.int .i64 h.eden,.int .i64 h.surv,.bool h.flip,.int .i64 h.hash,.slice a3 h.kept.length c3,.slice ap pr.length cp,.int .i64 pc,.slice ao ot.length co,.int .i64 st] 29)).cell? ⟨w.heap.size,5,none⟩=some (.bool h.flip):=(row_any w #[.slice a1 h.words.length c1,.slice a2 h.roots.length c2,.int .i64 h.old,.int .i64 h.eden,.int .i64 h.surv,.bool h.flip,.int .i64 h.hash,.slice a3 h.kept.length c3,.slice ap pr.length cp,.int .i64 pc,.slice ao ot.length co,.int .i64 st] 29).cell (i:=5) (by simp)
 have xa6:(w.alloc (.cells #[.slice a1 h.words.length c1,.slice a2 h.roots.length c2,.int .i64 h.old,.int .i64 h.eden,.int .i64 h.surv,.bool h.flip,.int .i64 h.hash,.slice a3 h.kept.length c3,.slice ap pr.length cp,.int .i64 pc,.slice ao ot.length co,.int .i64 st] 29)).cell? ⟨w.heap.size,6,none⟩=some (.int .i64 h.hash):=(row_any w #[.slice a1 h.words.length c1,.slice a2 h.roots.length c2,.int .i64 h.old,.int .i64 h.eden,.int .i64 h.surv,.bool h.flip,.int .i64 h.hash,.slice a3 h.kept.length c3,.slice ap pr.length cp,.int .i64 pc,.slice ao ot.length co,.int .i64 st] 29).cell (i:=6) (by simp)
 have xa7:(w.alloc (.cells #[.slice a1 h.words.length c1,.slice a2 h.roots.length c2,.int .i64 h.old,.int .i64 h.eden,.int .i64 h.surv,.bool h.flip,.int .i64 h.hash,.slice a3 h.kept.length c3,.slice ap pr.length cp,.int .i64 pc,.slice ao ot.length co,.int .i64 st] 29)).cell? ⟨w.heap.size,7,none⟩=some (.slice a3 h.kept.length c3):=(row_any w #[.slice a1 h.words.length c1,.slice a2 h.roots.length c2,.int .i64 h.old,.int .i64 h.eden,.int .i64 h.surv,.bool h.flip,.int .i64 h.hash,.slice a3 h.kept.length c3,.slice ap pr.length cp,.int .i64 pc,.slice ao ot.length co,.int .i64 st] 29).cell (i:=7) (by simp)
 have ya0:((w.alloc (.cells #[.slice a1 h.words.length c1,.slice a2 h.roots.length c2,.int .i64 h.old,.int .i64 h.eden,.int .i64 h.surv,.bool h.flip,.int .i64 h.hash,.slice a3 h.kept.length c3,.slice ap pr.length cp,.int .i64 pc,.slice ao ot.length co,.int .i64 st] 29)).alloc (.cells #[.slice a1 h.words.length c1,.slice a2 h.roots.length c2,.int .i64 h.old,.int .i64 h.eden,.int .i64 h.surv,.bool h.flip,.int .i64 h.hash,.slice a3 h.kept.length c3] 26)).cell? ⟨w.heap.size+1,0,none⟩=some (.slice a1 h.words.length c1):=Y0.cell (i:=0) (by omega)
 have ya1:((w.alloc (.cells #[.slice a1 h.words.length c1,.slice a2 h.roots.length c2,.int .i64 h.old,.int .i64 h.eden,.int .i64 h.surv,.bool h.flip,.int .i64 h.hash,.slice a3 h.kept.length c3,.slice ap pr.length cp,.int .i64 pc,.slice ao ot.length co,.int .i64 st] 29)).alloc (.cells #[.slice a1 h.words.length c1,.slice a2 h.roots.length c2,.int .i64 h.old,.int .i64 h.eden,.int .i64 h.surv,.bool h.flip,.int .i64 h.hash,.slice a3 h.kept.length c3] 26)).cell? ⟨w.heap.size+1,1,none⟩=some (.slice a2 h.roots.length c2):=Y0.cell (i:=1) (by omega)
 have ya2:((w.alloc (.cells #[.slice a1 h.words.length c1,.slice a2 h.roots.length c2,.int .i64 h.old,.int .i64 h.eden,.int .i64 h.surv,.bool h.flip,.int .i64 h.hash,.slice a3 h.kept.length c3,.slice ap pr.length cp,.int .i64 pc,.slice ao ot.length co,.int .i64 st] 29)).alloc (.cells #[.slice a1 h.words.length c1,.slice a2 h.roots.length c2,.int .i64 h.old,.int .i64 h.eden,.int .i64 h.surv,.bool h.flip,.int .i64 h.hash,.slice a3 h.kept.length c3] 26)).cell? ⟨w.heap.size+1,2,none⟩=some (.int .i64 h.old):=Y0.cell (i:=2) (by omega)
 have ya3:((w.alloc (.cells #[.slice a1 h.words.length c1,.slice a2 h.roots.length c2,.int .i64 h.old,.int .i64 h.eden,.int .i64 h.surv,.bool h.flip,.int .i64 h.hash,.slice a3 h.kept.length c3,.slice ap pr.length cp,.int .i64 pc,.slice ao ot.length co,.int .i64 st] 29)).alloc (.cells #[.slice a1 h.words.length c1,.slice a2 h.roots.length c2,.int .i64 h.old,.int .i64 h.eden,.int .i64 h.surv,.bool h.flip,.int .i64 h.hash,.slice a3 h.kept.length c3] 26)).cell? ⟨w.heap.size+1,3,none⟩=some (.int .i64 h.eden):=Y0.cell (i:=3) (by omega)
 have ya4:((w.alloc (.cells #[.slice a1 h.words.length c1,.slice a2 h.roots.length c2,.int .i64 h.old,.int .i64 h.eden,.int .i64 h.surv,.bool h.flip,.int .i64 h.hash,.slice a3 h.kept.length c3,.slice ap pr.length cp,.int .i64 pc,.slice ao ot.length co,.int .i64 st] 29)).alloc (.cells #[.slice a1 h.words.length c1,.slice a2 h.roots.length c2,.int .i64 h.old,.int .i64 h.eden,.int .i64 h.surv,.bool h.flip,.int .i64 h.hash,.slice a3 h.kept.length c3] 26)).cell? ⟨w.heap.size+1,4,none⟩=some (.int .i64 h.surv):=Y0.cell (i:=4) (by omega)
 have ya5:((w.alloc (.cells #[.slice a1 h.words.length c1,.slice a2 h.roots.length c2,.int .i64 h.old,.int .i64 h.eden,.int .i64 h.surv,.bool h.flip,.int .i64 h.hash,.slice a3 h.kept.length c3,.slice ap pr.length cp,.int .i64 pc,.slice ao ot.length co,.int .i64 st] 29)).alloc (.cells #[.slice a1 h.words.length c1,.slice a2 h.roots.length c2,.int .i64 h.old,.int .i64 h.eden,.int .i64 h.surv,.bool h.flip,.int .i64 h.hash,.slice a3 h.kept.length c3] 26)).cell? ⟨w.heap.size+1,5,none⟩=some (.bool h.flip):=Y0.cell (i:=5) (by omega)
 have ya6:((w.alloc (.cells #[.slice a1 h.words.length c1,.slice a2 h.roots.length c2,.int .i64 h.old,.int .i64 h.eden,.int .i64 h.surv,.bool h.flip,.int .i64 h.hash,.slice a3 h.kept.length c3,.slice ap pr.length cp,.int .i64 pc,.slice ao ot.length co,.int .i64 st] 29)).alloc (.cells #[.slice a1 h.words.length c1,.slice a2 h.roots.length c2,.int .i64 h.old,.int .i64 h.eden,.int .i64 h.surv,.bool h.flip,.int .i64 h.hash,.slice a3 h.kept.length c3] 26)).cell? ⟨w.heap.size+1,6,none⟩=some (.int .i64 h.hash):=Y0.cell (i:=6) (by omega)
 have ya7:((w.alloc (.cells #[.slice a1 h.words.length c1,.slice a2 h.roots.length c2,.int .i64 h.old,.int .i64 h.eden,.int .i64 h.surv,.bool h.flip,.int .i64 h.hash,.slice a3 h.kept.length c3,.slice ap pr.length cp,.int .i64 pc,.slice ao ot.length co,.int .i64 st] 29)).alloc (.cells #[.slice a1 h.words.length c1,.slice a2 h.roots.length c2,.int .i64 h.old,.int .i64 h.eden,.int .i64 h.surv,.bool h.flip,.int .i64 h.hash,.slice a3 h.kept.length c3] 26)).cell? ⟨w.heap.size+1,7,none⟩=some (.slice a3 h.kept.length c3):=Y0.cell (i:=7) (by omega)
 have xp:((w.alloc (.cells #[.slice a1 h.words.length c1,.slice a2 h.roots.length c2,.int .i64 h.old,.int .i64 h.eden,.int .i64 h.surv,.bool h.flip,.int .i64 h.hash,.slice a3 h.kept.length c3,.slice ap pr.length cp,.int .i64 pc,.slice ao ot.length co,.int .i64 st] 29)).alloc (.cells #[.slice a1 h.words.length c1,.slice a2 h.roots.length c2,.int .i64 h.old,.int .i64 h.eden,.int .i64 h.surv,.bool h.flip,.int .i64 h.hash,.slice a3 h.kept.length c3] 26)).cell? ⟨w.heap.size,8,none⟩=some (.slice ap pr.length cp):=X0.cell (i:=8) (by omega)
 have HPR:∀ W,Below w.heap.size w W->CR W (.slice ap pr.length cp) pr:=fun W hb=>ip.later hb
 clear HVH
 go_enter Tryz.func37,Tryz.ntmps37
 go_wp2_with fail
 refine C0.mono ?_
 clear C0 xa0 ya0 xa1 ya1 xa2 ya2 xa3 ya3 xa4 ya4 xa5 ya5 xa6 ya6 xa7 ya7 xp
 rintro e w1 ⟨rfl,hb1⟩
 have bw1:=bel_after hb0 hb1
 have X1:=X0.of_block (hb1.block _ X0.lt)
 have Y1:=Y0.of_block (hb1.block _ Y0.lt)
 clear X0 Y0 hb1 hb0
 cases hk:okC h
 case false =>
  have R:Hid (r=false):=hr0.out.trans (r_ok hk)
  clear hk hr0 X1 Y1 HPR
  go_wp2
  go_ret
  exact ⟨wret_bool R.out.symm,bw1⟩
 have xp:=X1.cell (i:=8) (by omega)
 have C1:=specProgB_any (.slice ap pr.length cp) pr w1 (HPR _ bw1) hp2
 go_wp2_with fail
 refine C1.mono ?_
 clear C1 xp
 rintro e w2 ⟨rfl,hb2⟩
 have bw2:=bel_after bw1 hb2
 have X2:=X1.of_block (hb2.block _ X1.lt)
 have Y2:=Y1.of_block (hb2.block _ Y1.lt)
 clear X1 Y1 hb2 bw1 HPR
 cases PRG:progB pr
 case false =>
  have R:Hid (r=false):=hr0.out.trans (r_pr PRG)
  clear hk PRG hr0 X2 Y2
  go_wp2
  go_ret
  exact ⟨wret_bool R.out.symm,bw2⟩
 have RG:=c_right hk
 have HL:h.words.length=3200:=RG.1.1
 have I1:=i1.later bw2
 have I2:=i2.later bw2
 have IO:=io0.later bw2
 obtain ⟨b1,o1,cc1,e1,hcc,WSa⟩:=I1.ws (by omega)
 simp only [Value.slice.injEq] at e1
 obtain ⟨rfl,-,rfl⟩:=e1
 have ya0:=Y2.cell (i:=0) (by omega)
 have ya1:=Y2.cell (i:=1) (by omega)
 rw [HL] at ya0
 by_cases hl2:h.roots.length=2
 case neg =>
  have R:Hid (r=false):=hr0.out.trans (r_pt (p_len hl2))
  have d:((h.roots.length:Int) != 2)=true:=by rw [bne_iff_ne];omega
  clear hk PRG hr0 X2 RG WSa I1 I2 IO
  go_wp2
  go_ret
  exact ⟨wret_bool R.out.symm,bw2⟩
 have PP:=parts_of hk hl2
 obtain ⟨ra,rc,re,rle,hrc⟩:=I2
 simp only [Value.slice.injEq,true_and] at re
 obtain ⟨rfl,rfl⟩:=re
 obtain ⟨b2,o2,rfl,r0⟩:=hrc 0 (by omega)
 obtain ⟨b2',o2',re2,r1⟩:=hrc 1 (by omega)
 simp only [Option.some.injEq,Addr.mk.injEq,and_true] at re2
 obtain ⟨rfl,rfl⟩:=re2
 rw [Nat.add_zero] at r0
 have P0:=PP 0 (by omega)
 have P1:=PP 1 (by omega)
 rw [hl2] at ya1
 clear PP hrc
 have d2:((2:Int) != 2)=false:=by decide
 rcases P0 with ⟨_,o0,rf0,a,ea,ha,ha1,ha2,ha3⟩|⟨_,ev,rf0⟩
 case inr =>
  have R:Hid (r=false):=hr0.out.trans (r_pt (p_r0 (root_no rf0)))
  have tm:((h.roots.getD 0 0).tmod 2 == 0)=true:=by rw [tmod_two,decide_eq_true ev]
  clear hk PRG hr0 X2 RG WSa I1 IO P1
  generalize h.roots.getD 0 0=x0 at *
  go_wp2
  go_ret
  exact ⟨wret_bool R.out.symm,bw2⟩
 have tm0:((h.roots.getD 0 0).tmod 2 == 0)=false:=by rw [tmod_two,decide_eq_false (by omega)]
 rcases P1 with ⟨_,o1',rf1,b,eb,hb,hb1,hb2,hb3⟩|⟨_,ev,rf1⟩
 case inr =>
  have R:Hid (r=false):=hr0.out.trans (r_pt (p_r1 (root_no rf1)))
  have tm1:((h.roots.getD 1 0).tmod 2 == 0)=true:=by rw [tmod_two,decide_eq_true ev]
  clear hk PRG hr0 X2 RG WSa I1 IO ea
  generalize h.roots.getD 0 0=x0 at *
  generalize h.roots.getD 1 0=x1 at *
  go_wp2
  go_ret
  exact ⟨wret_bool R.out.symm,bw2⟩
 have tm1:((h.roots.getD 1 0).tmod 2 == 0)=false:=by rw [tmod_two,decide_eq_false (by omega)]
 have td0:(h.roots.getD 0 0).tdiv 2=(a:Int):=by rw [tdiv_pos (by omega)];omega
 have td1:(h.roots.getD 1 0).tdiv 2=(b:Int):=by rw [tdiv_pos (by omega)];omega
 have w0a:IntKind.i64.wrap (a:Int)=a:=by rw [IntKind.wrap_i64];omega
 have w0b:IntKind.i64.wrap (b:Int)=b:=by rw [IntKind.wrap_i64];omega
 have RA:=root_at (n:=40) (c:=1) rf0 ea
 have RB:=root_at (n:=10) (c:=2) rf1 eb
 have FA:=fldR_at ea
 have RC0:Hid (¬ gw h.words (a+1)=1->r=false):=fun q=>hr0.out.trans (r_pt (p_r0 (by rw [RA,decide_eq_false q];rfl)))
 have RC1:Hid (¬ gw h.words a=40->r=false):=fun q=>hr0.out.trans (r_pt (p_r0 (by rw [RA,decide_eq_false (by omega:¬ (gw h.words a).toNat=40)];simp)))
 have RC2:Hid (¬ gw h.words (b+1)=2->r=false):=fun q=>hr0.out.trans (r_pt (p_r1 (by rw [RB,decide_eq_false q];rfl)))
 have RC3:Hid (¬ gw h.words b=10->r=false):=fun q=>hr0.out.trans (r_pt (p_r1 (by rw [RB,decide_eq_false (by omega:¬ (gw h.words b).toNat=10)];simp)))
 have SV:Hid (gw h.words a=40->_):=fun q=>stk_val hk ha q
 have FB:Hid (gw h.words a=40->_):=fun q=>fld_bnd hk ha q
 have YES:Hid (gw h.words (a+1)=1->gw h.words a=40->gw h.words (b+1)=2->gw h.words b=10->stkB (flds h.words a)=true->placeB pr.length pc=true->outB ot=true->stateB st=true->r=true):=fun q1 q2 q3 q4 q5 q6 q7 q8=>by
  rw [hr0.out]
  unfold okM partsB
  rw [hk,PRG,q6,q7,q8,RA,RB,FA,q5,q1,q2,q3,q4,hl2]
  rfl
 have NSK:Hid (stkB (flds h.words a)=false->r=false):=fun q=>hr0.out.trans (r_pt (p_sk (by rw [FA];exact q)))
 have NPL:Hid (placeB pr.length pc=false->r=false):=fun q=>hr0.out.trans (r_pl q)
 have NOU:Hid (outB ot=false->r=false):=fun q=>hr0.out.trans (r_ou q)
 have NST:Hid (stateB st=false->r=false):=fun q=>hr0.out.trans (r_st q)
 have ca1:=WSa (a+1) (by omega)
 have ca0:=WSa a (by omega)
 have cb1:=WSa (b+1) (by omega)
 have cb0:=WSa b (by omega)
 have CK:Hid (∀ k:Nat,gw h.words a=40->k<40->w2.cell? ⟨b1,o1+(a+4+k),none⟩=some (.int .i64 (gw h.words (a+4+k)))/\a+4+k<3200):=fun k q hk2=>by
  have:nx h.words a=a+4+40:=by unfold nx;rw [q];rfl
  exact ⟨WSa (a+4+k) (by omega),by omega⟩
 have xpc:=X2.cell (i:=9) (by omega)
 have xpr:=X2.cell (i:=8) (by omega)
 have xot:=X2.cell (i:=10) (by omega)
 have xst:=X2.cell (i:=11) (by omega)
 have STK:=(fun m:Nat=>gw h.words (a+4+m))
 replace ea:Hid (h.roots.getD 0 0=2 * (a:Int)+1):=ea
 replace eb:Hid (h.roots.getD 1 0=2 * (b:Int)+1):=eb
 clear hk PRG hr0 RG WSa I1 X2 Y2 o0 o1' rf0 rf1 RA RB FA ha hb STK
 generalize h.roots.getD 0 0=x0 at *
 generalize h.roots.getD 1 0=x1 at *
 clear ea eb
 have HB:=fun x lo hi W=>qIn_any x lo hi W
 by_cases q1:gw h.words (a+1)=1
 case neg =>
  have dq1:(gw h.words (a+1) != 1)=true:=by rw [bne_iff_ne];exact q1
  have R:Hid (r=false):=RC0.out q1
  replace q1:Hid (¬ gw h.words (a+1)=1):=q1
  clear FB RC0 RC1 RC2 RC3 SV YES NSK NPL NOU NST CK HB q1
  generalize gw h.words (a+1)=y1 at *
  generalize gw h.words (b+1)=z1 at *
  generalize gw h.words (a+4)=y4 at *
  generalize gw h.words a=y0 at *
  generalize gw h.words b=z0 at *
  go_wp2
  go_ret
  exact ⟨wret_bool R.out.symm,bw2⟩
 have dq1:(gw h.words (a+1) != 1)=false:=by rw [q1];decide
 by_cases q2:gw h.words a=40
 case neg =>
  have dq2:(gw h.words a != 40)=true:=by rw [bne_iff_ne];exact q2
  have R:Hid (r=false):=RC1.out q2
  replace q2:Hid (¬ gw h.words a=40):=q2
  clear FB RC0 RC1 RC2 RC3 SV YES NSK NPL NOU NST CK HB q2
  generalize gw h.words (a+1)=y1 at *
  generalize gw h.words (b+1)=z1 at *
  generalize gw h.words (a+4)=y4 at *
  generalize gw h.words a=y0 at *
  generalize gw h.words b=z0 at *
  go_wp2
  go_ret
  exact ⟨wret_bool R.out.symm,bw2⟩
 have dq2:(gw h.words a != 40)=false:=by rw [q2];decide
 by_cases q3:gw h.words (b+1)=2
 case neg =>
  have dq3:(gw h.words (b+1) != 2)=true:=by rw [bne_iff_ne];exact q3
  have R:Hid (r=false):=RC2.out q3
  replace q3:Hid (¬ gw h.words (b+1)=2):=q3
  clear FB RC0 RC1 RC2 RC3 SV YES NSK NPL NOU NST CK HB q3
  generalize gw h.words (a+1)=y1 at *
  generalize gw h.words (b+1)=z1 at *
  generalize gw h.words (a+4)=y4 at *
  generalize gw h.words a=y0 at *
  generalize gw h.words b=z0 at *
  go_wp2
  go_ret
  exact ⟨wret_bool R.out.symm,bw2⟩
 have dq3:(gw h.words (b+1) != 2)=false:=by rw [q3];decide
 by_cases q4:gw h.words b=10
 case neg =>
  have dq4:(gw h.words b != 10)=true:=by rw [bne_iff_ne];exact q4
  have R:Hid (r=false):=RC3.out q4
  replace q4:Hid (¬ gw h.words b=10):=q4
  clear FB RC0 RC1 RC2 RC3 SV YES NSK NPL NOU NST CK HB q4
  generalize gw h.words (a+1)=y1 at *
  generalize gw h.words (b+1)=z1 at *
  generalize gw h.words (a+4)=y4 at *
  generalize gw h.words a=y0 at *
  generalize gw h.words b=z0 at *
  go_wp2
  go_ret
  exact ⟨wret_bool R.out.symm,bw2⟩
 have dq4:(gw h.words b != 10)=false:=by rw [q4];decide
 obtain ⟨s1,s2,s3,s4⟩:=SV.out q2
 have fb:=FB.out q2
 have YES2:Hid (stkB (flds h.words a)=true->placeB pr.length pc=true->outB ot=true->stateB st=true->r=true):=fun u=>YES.out q1 q2 q3 q4 u
 have CK2:Hid (∀ k:Nat,k<40->w2.cell? ⟨b1,o1+(a+4+k),none⟩=some (.int .i64 (gw h.words (a+4+k)))/\a+4+k<3200):=fun k hk2=>CK.out k q2 hk2
 have ca4:=(CK2.out 0 (by omega)).1
 have ha44:a+4<3200:=by have:=(CK2.out 0 (by omega)).2;omega
 rw [Nat.add_zero] at ca4
 replace s1:Hid _:=s1
 replace s2:Hid _:=s2
 replace s3:Hid _:=s3
 replace s4:Hid _:=s4
 clear FB RC0 RC1 RC2 RC3 SV YES CK
 rw [q1] at ca1 dq1
 rw [q2] at ca0 dq2
 rw [q3] at cb1 dq3
 rw [q4] at cb0 dq4
 clear q1 q2 q3 q4 ha3 hb3
 generalize hsk:stkB (flds h.words a)=sk at *
 clear hsk
 replace ha2:Hid (nx h.words a<=3200):=ha2
 replace hb2:Hid (nx h.words b<=3200):=hb2
 by_cases hd:gw h.words (a+4) % 2=0
 case neg =>
  have tm:((gw h.words (a+4)).tmod 2 != 0)=true:=by rw [bne,tmod_two,decide_eq_false hd];rfl
  have R:Hid (r=false):=NSK.out (s1.out (by omega))
  clear s1 s2 s3 s4 YES2 NSK NPL NOU NST CK2 HB hd
  generalize gw h.words (a+4)=y4 at *
  go_wp2
  go_ret
  exact ⟨wret_bool R.out.symm,bw2⟩
 have tm:((gw h.words (a+4)).tmod 2 != 0)=false:=by rw [bne,tmod_two,decide_eq_true hd];rfl
 have td:=tdiv_even hd
 have wm:IntKind.i64.wrap (gw h.words (a+4) / 2)=gw h.words (a+4) / 2:=by rw [IntKind.wrap_i64];omega
 by_cases hr:0<=gw h.words (a+4) / 2/\gw h.words (a+4) / 2<=39
 case neg =>
  have R:Hid (r=false):=NSK.out (s2.out hd hr)
  have HI:=fun W=>HB (gw h.words (a+4) / 2) 0 39 W
  rw [show (decide (0<=gw h.words (a+4) / 2) && decide (gw h.words (a+4) / 2<=39))=false from by rw [<- Bool.decide_and];exact decide_eq_false hr] at HI
  clear s1 s2 s3 s4 YES2 NSK NPL NOU NST CK2 HB hd hr
  generalize gw h.words (a+4) / 2=m at *
  generalize gw h.words (a+4)=y4 at *
  go_wp2_with (go_at_call 80;refine (HI _).mono ?_;rintro e wq ⟨rfl,hq⟩;obtain rfl:=hq.symm)
  go_ret
  exact ⟨wret_bool R.out.symm,bw2⟩
 have HI:=fun W=>HB (gw h.words (a+4) / 2) 0 39 W
 rw [show (decide (0<=gw h.words (a+4) / 2) && decide (gw h.words (a+4) / 2<=39))=true from by rw [<- Bool.decide_and];exact decide_eq_true hr] at HI
 obtain ⟨m,hm⟩:=Int.eq_ofNat_of_zero_le hr.1
 have m39:m<=39:=by omega
 replace s3:Hid ((∀ k,m+1<=k->k<40->gw h.words (a+4+k)=0)->sk=true):=s3.out hd m hm m39
 replace s4:Hid (∀ k,m+1<=k->k<40->gw h.words (a+4+k) ≠ 0->sk=false):=s4.out hd m hm m39
 rw [hm] at HI td
 clear s1 s2 hd hr hm
 generalize gw h.words (a+4)=y4 at *
 have wm1:IntKind.i64.wrap (m:Int)=m:=by rw [IntKind.wrap_i64];omega
 go_wp2_with (go_at_call 80;refine (HI _).mono ?_;rintro e wq ⟨rfl,hq⟩;obtain rfl:=hq.symm)
 clear HI
 go_loopw [7] (fun kv wr=>∃ k:Nat,m+1<=k/\k<=40/\kv=.int .i64 k/\Hid (∀ j,m+1<=j->j<k->gw h.words (a+4+j)=0)/\wr=w2) (fun kv _=>40 - (intOf kv).toNat)
 case atStart=>exact ⟨m+1,Nat.le_refl _,by omega,by go_num,fun j h1 h2=>absurd h2 (by omega),rfl⟩
 case round =>
  obtain ⟨k,hk1,hk40,rfl,hd,hwr⟩:=hrel
  obtain rfl:=hwr.symm
  by_cases hlt:k<40
  ·obtain ⟨ck,hkb⟩:=CK2.out k hlt
   have NX:Hid (gw h.words (a+4+k)=0->∀ j,m+1<=j->j<k+1->gw h.words (a+4+j)=0):=fun e j h1 h2=>by
    rcases Nat.lt_or_ge j k with h3|h3
    ·exact hd.out j h1 h3
    ·rw [show j=k from by omega];exact e
   have BAD:Hid (gw h.words (a+4+k) ≠ 0->r=false):=fun e=>NSK.out (s4.out k hk1 hlt e)
   clear hd CK2 s3 s4 YES2 NSK NPL NOU NST HB
   generalize gw h.words (a+4+k)=yk at *
   by_cases hz:yk=0
   ·have N:=NX.out hz
    subst hz
    clear NX BAD
    go_wp2
    go_roundw
    case rel=>exact ⟨k+1,by omega,by omega,by go_num,N,(by first|rfl|trivial)⟩
    case measure=>simp [intOf];omega
   ·have R:Hid (r=false):=BAD.out hz
    have hz' : (yk != 0)=true:=by rw [bne_iff_ne];exact hz
    clear NX BAD hz
    go_wp2
    go_ret
    exact ⟨wret_bool R.out.symm,bw2⟩
  ·obtain rfl:k=40:=by omega
   have SK:Hid (sk=true):=s3.out (fun j h1 h2=>hd.out j h1 h2)
   have HP:=fun W=>HB pc 0 (pr.length:Int) W
   have HS:=fun W=>HB st 0 3 W
   rw [show (decide (0<=pc) && decide (pc<=(pr.length:Int)))=placeB pr.length pc from rfl] at HP
   rw [show (decide (0<=st) && decide (st<=3))=stateB st from rfl] at HS
   have YES3:Hid (placeB pr.length pc=true->outB ot=true->stateB st=true->r=true):=YES2.out SK.out
   have NUM:=fun x W=>HB x (-1000000000) 1000000000 W
   clear hd s3 s4 CK2 NSK YES2 SK HB
   cases PL:placeB pr.length pc
   ·have R:Hid (r=false):=NPL.out PL
    rw [PL] at HP
    clear YES3 NPL NOU NST NUM HS PL
    go_wp2_with (go_at_call 80;refine (HP _).mono ?_;rintro e wq ⟨rfl,hq⟩;obtain rfl:=hq.symm)
    go_ret
    exact ⟨wret_bool R.out.symm,bw2⟩
   rw [PL] at HP
   by_cases hol:ot.length<=300
   case neg =>
    have R:Hid (r=false):=NOU.out (by unfold outB;rw [decide_eq_false hol];rfl)
    have dol:decide ((ot.length:Int) > 300)=true:=decide_eq_true (by omega)
    clear YES3 NPL NOU NST NUM HS PL
    go_wp2_with (go_at_call 80;refine (HP _).mono ?_;rintro e wq ⟨rfl,hq⟩;obtain rfl:=hq.symm)
    go_ret
    exact ⟨wret_bool R.out.symm,bw2⟩
   have dol:decide ((ot.length:Int) > 300)=false:=decide_eq_false (by omega)
   cases SB:stateB st
   ·have R:Hid (r=false):=NST.out SB
    rw [SB] at HS
    clear YES3 NPL NOU NST NUM PL SB
    go_wp2_with fail
    refine (HP _).mono ?_
    rintro e wq ⟨rfl,hq⟩
    obtain rfl:=hq.symm
    go_wp2_with fail
    refine (HS _).mono ?_
    rintro e wq ⟨rfl,hq⟩
    obtain rfl:=hq.symm
    go_wp2
    go_ret
    exact ⟨wret_bool R.out.symm,bw2⟩
   rw [SB] at HS
   have YES4:Hid (outB ot=true->r=true):=fun q=>YES3.out PL q SB
   clear YES3 NPL NST PL SB
   go_wp2_with fail
   refine (HP _).mono ?_
   rintro e wq ⟨rfl,hq⟩
   obtain rfl:=hq.symm
   go_wp2_with fail
   refine (HS _).mono ?_
   rintro e wq ⟨rfl,hq⟩
   obtain rfl:=hq.symm
   go_wp2
   clear HP HS
   go_loopw [8] (fun kv wr=>∃ k:Nat,k<=ot.length/\kv=.int .i64 k/\Hid (∀ j,j<k->numB (ot.getD j 0)=true)/\wr=w2) (fun kv _=>ot.length - (intOf kv).toNat)
   case atStart=>exact ⟨0,Nat.zero_le _,rfl,fun j hj=>absurd hj (Nat.not_lt_zero j),rfl⟩
   case round =>
    obtain ⟨k,hk,rfl,hd,hwr⟩:=hrel
    obtain rfl:=hwr.symm
    by_cases hlt2:k<ot.length
    ·obtain ⟨oa,oc,eo,ole,ocl⟩:=IO
     simp only [Value.slice.injEq,true_and] at eo
     obtain ⟨rfl,rfl⟩:=eo
     obtain ⟨b3,o3,rfl,ck⟩:=ocl k hlt2
     have NX:Hid (numB (ot.getD k 0)=true->∀ j,j<k+1->numB (ot.getD j 0)=true):=fun e=>all_upto hd.out e
     have BAD:Hid (numB (ot.getD k 0)=false->r=false):=fun e=>NOU.out (out_no hlt2 e)
     have NM:=fun W=>NUM (ot.getD k 0) W
     rw [in_num] at NM
     clear hd NOU YES4 NUM ocl
     generalize ot.getD k 0=x at *
     cases hx:numB x
     ·have R:Hid (r=false):=BAD.out hx
      rw [hx] at NM
      clear NX BAD hx
      go_wp2_with (go_at_call 80;refine (NM _).mono ?_;rintro e wq ⟨rfl,hq⟩;obtain rfl:=hq.symm)
      go_ret
      exact ⟨wret_bool R.out.symm,bw2⟩
     ·have N:=NX.out hx
      rw [hx] at NM
      clear NX BAD hx
      go_wp2_with (go_at_call 80;refine (NM _).mono ?_;rintro e wq ⟨rfl,hq⟩;obtain rfl:=hq.symm)
      go_roundw
      case rel=>exact ⟨k+1,by omega,by go_num,N,(by first|rfl|trivial)⟩
      case measure=>simp [intOf];omega
    ·obtain rfl:k=ot.length:=by omega
     have R:Hid (r=true):=YES4.out (out_yes hol hd.out)
     clear hd NOU YES4 NUM
     go_wp2
     go_ret
     exact ⟨wret_bool R.out.symm,bw2⟩
end Go.Proofs.YtgnbibinclepcaaGreatDoor
