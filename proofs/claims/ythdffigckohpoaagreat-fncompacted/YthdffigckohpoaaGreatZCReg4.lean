/- A region of compactionOf: the tour, the sorted list, the map and the box, in any order. -/
import Derived.Test.YthdffigckohpoaaGreatZV15
import Derived.Test.YthdffigckohpoaaGreatZV10
import Derived.Test.YthdffigckohpoaaGreatZV7
import Derived.Test.YthdffigckohpoaaGreatZV17
import Derived.Test.YthdffigckohpoaaGreatZGTourO
namespace Go.Proofs.YthdffigckohpoaaGreat
open Go.RowKit
section
variable {P : Program} {md : Region.Mode} {ops : Array Oper} {Q : Exit -> Act -> World -> Prop} {S : World -> Prop} {z : Nat}
/-- One of three operations comes up. -/
theorem z_or3 {i j k fuel : Nat} {listed : Array Bool} {a : Act} {w : World} (hr : Region.ready md ops listed = [i, j, k])
  (h1 : wpOp P ops Q i (fun a' w' => (i = z ∨ S w') /\ Disk.wpAnyZ P md ops Q z S fuel (listed.setIfInBounds i true) a' w') a w)
  (h2 : wpOp P ops Q j (fun a' w' => (j = z ∨ S w') /\ Disk.wpAnyZ P md ops Q z S fuel (listed.setIfInBounds j true) a' w') a w)
  (h3 : wpOp P ops Q k (fun a' w' => (k = z ∨ S w') /\ Disk.wpAnyZ P md ops Q z S fuel (listed.setIfInBounds k true) a' w') a w) : Disk.wpAnyZ P md ops Q z S (fuel + 1) listed a w := by
 refine ⟨fun h0 => (by rw [hr] at h0; cases h0), fun m hm => ?_⟩
 rw [hr] at hm
 simp at hm
 rcases hm with rfl | rfl | rfl
 ·exact h1
 ·exact h2
 ·exact h3
end
theorem exec_storeQ {o : Oper} {T : Array Value} {D : List Deferred} {W W' : World} {p s : Operand} {t : TypeId} {a u : Value} (ho : o.op = .store t p s) (hp : Act.eval ⟨T, D⟩ p = a) (hs : Act.eval ⟨T, D⟩ s = u) (hrun : (Instr.storeAt t a u).run Tryz.prog W = .ok () W') :
  (execOp (Act.eval ⟨T, D⟩) o).run Tryz.prog W = .ok .skip W' := by
 simp [execOp, ho, hp, hs, hrun]
noncomputable def rq4 : Code := ((Tryz.f31.body.bind (regQ 4)).getD .skip)
set_option maxRecDepth 1000000 in
set_option maxHeartbeats 12800000 in
theorem creg4 {w2 : World} {h : Hp} {nh nd g1 n1 c1 n2 oc g2 n3 c3 g3 n4 c4 : Nat} {oa : Option Addr} {z1 z2 z3 z4 : Int} {bz : Bool} {x0 x1 x2 x3 x4 x5 x6 x7 : Value} (hk : okC h = true)
  (X : ∀ W, Below w2.heap.size w2 W -> W.cell? ⟨nh, 0, none⟩ = some x0 /\ W.cell? ⟨nh, 1, none⟩ = some x1 /\ W.cell? ⟨nh, 2, none⟩ = some x2 /\ W.cell? ⟨nh, 3, none⟩ = some x3 /\ W.cell? ⟨nh, 4, none⟩ = some x4 /\ W.cell? ⟨nh, 5, none⟩ = some x5 /\ W.cell? ⟨nh, 6, none⟩ = some x6 /\ W.cell? ⟨nh, 7, none⟩ = some x7)
  (Dd : ∀ W, Below w2.heap.size w2 W -> W.cell? ⟨nd, 0, none⟩ = some (.slice (some ⟨g1, 0, none⟩) n1 c1) /\ W.cell? ⟨nd, 1, none⟩ = some (.slice oa n2 oc) /\ W.cell? ⟨nd, 2, none⟩ = some (.slice (some ⟨g2, 0, none⟩) n3 c3) /\ W.cell? ⟨nd, 3, none⟩ = some (.int .i64 z1) /\ W.cell? ⟨nd, 4, none⟩ = some (.int .i64 z2) /\ W.cell? ⟨nd, 5, none⟩ = some (.int .i64 z3) /\ W.cell? ⟨nd, 6, none⟩ = some (.bool bz) /\ W.cell? ⟨nd, 7, none⟩ = some (.int .i64 z4) /\ W.cell? ⟨nd, 8, none⟩ = some (.slice (some ⟨g3, 0, none⟩) n4 c4))
  (TF : ∀ W, Below w2.heap.size w2 W -> Calls Tryz.prog 39 #[.agg #[x0, x1, x2, x3, x4, x5, x6, x7]] W fun e w' => TourOut h W e w') {Q : Exit -> Act -> World -> Prop} (u0 u2 u3 u5 u6 u7 u8 u9 Kb Jy Kc Jz Ka Kx Kd Kw Ke Kf Kg Kh Ki Kj Kk Kl Id Ie Ig Ih Jf Jg Jh Ii Ij Ik Il Im Io Ip Iq Ir Is It Iu Iv Iw Ix Iy Iz Jc Jd Je : Value)
  (hQ : ∀ (W : World) (M gr cr C : Nat) (a17 a18 a19 a20 a21 a22 a23 : Value), Below w2.heap.size w2 W -> MP W M 0 (fun _ => none) -> RI W gr (ints (rchL h)) cr -> W.rowIs C 52 12 (fun i => (#[.slice (some ⟨g1, 0, none⟩) n1 c1, .slice oa n2 oc, .slice (some ⟨g2, 0, none⟩) n3 c3, .int .i64 z1, .int .i64 z2, .int .i64 z3, .bool bz, .int .i64 z4, .slice (some ⟨g3, 0, none⟩) n4 c4, .slice (some ⟨gr, 0, none⟩) (rchL h).length cr, .map (some M), .int .i64 0] : Array Value)[i]?.getD undef) -> w2.heap.size <= M -> w2.heap.size <= gr -> w2.heap.size <= C -> M ≠ gr -> M ≠ C -> gr ≠ C -> Q .normal ⟨List.toArray (u0 :: .pointer (some ⟨nh, 0, none⟩) :: u2 :: u3 :: .pointer (some ⟨nd, 0, none⟩) :: u5 :: .pointer (some ⟨C, 0, none⟩) :: u7 :: u8 :: u9 :: Kb :: Jy :: Kc :: Jz :: Ka :: Kx :: Kd :: a17 :: a18 :: a19 :: a20 :: a21 :: a22 :: a23 :: Kk :: Kl :: Id :: Ie :: Ig :: Ih :: Jf :: Jg :: Jh :: Ii :: Ij :: Ik :: Il :: Im :: Io :: Ip :: Iq :: Ir :: Is :: It :: Iu :: Iv :: Iw :: Ix :: Iy :: Iz :: Jc :: Jd :: Je :: []), []⟩ W) :
  Code.wp Tryz.prog rq4 Q ⟨List.toArray (u0 :: .pointer (some ⟨nh, 0, none⟩) :: u2 :: u3 :: .pointer (some ⟨nd, 0, none⟩) :: u5 :: u6 :: u7 :: u8 :: u9 :: Kb :: Jy :: Kc :: Jz :: Ka :: Kx :: Kd :: Kw :: Ke :: Kf :: Kg :: Kh :: Ki :: Kj :: Kk :: Kl :: Id :: Ie :: Ig :: Ih :: Jf :: Jg :: Jh :: Ii :: Ij :: Ik :: Il :: Im :: Io :: Ip :: Iq :: Ir :: Is :: It :: Iu :: Iv :: Iw :: Ix :: Iy :: Iz :: Jc :: Jd :: Je :: []), []⟩ w2 := by
 conv => arg 2; whnf
 have hmx : Tryz.prog.follows .mixedOrders = true := by kernel_rfl
 have hmm := @run_makeMap Tryz.prog
 have ol : (ordF h.words h.roots).length <= 3200 := ord_len (c_right hk)
 have hs0 : Below w2.heap.size w2 w2.drew := (Below.refl _ _).drew
 refine Disk.z_plain 99 (fun W' => Below w2.heap.size w2 W') hmx hs0 (fun hs => ?_)
 clear hs0
 generalize w2.drew = wd at hs ⊢
 refine Disk.zt 0 17 (v := .agg #[.slice (some ⟨g1, 0, none⟩) n1 c1, .slice oa n2 oc, .slice (some ⟨g2, 0, none⟩) n3 c3, .int .i64 z1, .int .i64 z2, .int .i64 z3, .bool bz, .int .i64 z4, .slice (some ⟨g3, 0, none⟩) n4 c4]) rfl rfl hs (fun W' hSw => (by
  obtain ⟨s0, s1, s2, s3, s4, s5, s6, s7, s8⟩ := Dd _ hSw
  go_simp; first | done | with_reducible rfl)) ?_
 simp only [zA, zB, zC]
 refine Disk.zt 1 18 (v := .agg #[x0, x1, x2, x3, x4, x5, x6, x7]) rfl rfl hs (fun W' hSw => (by
  obtain ⟨s0, s1, s2, s3, s4, s5, s6, s7⟩ := X _ hSw
  go_simp; first | done | with_reducible rfl)) ?_
 simp only [zA, zB, zC]
 refine z_or3 (i := 2) (j := 5) (k := 7) (by kernel_rfl) ?_ ?_ ?_
 ·refine o_call 2 19 rfl rfl (by rfl) (f := 39) (args := #[.agg #[x0, x1, x2, x3, x4, x5, x6, x7]]) (w0 := wd) (by go_simp) ?_
  refine (TF wd hs).mono ?_
  rintro e wn1 ⟨ov, Mt, nt, rfl, hot, -, -, -, hbt⟩
  have hs1 := bel_after hs hbt
  clear hs hbt
  refine ⟨_, rfl, .inr hs1, ?_⟩
  simp only [zA, zB, zC]
  have IT := IR_of_owns' hot
  obtain ⟨ta, tc, rfl⟩ := own_shape hot
  clear hot
  refine Disk.zt 3 20 (v := .slice ta (ordF h.words h.roots).length tc) rfl rfl hs1 (fun W' _ => (by kernel_rfl)) ?_
  simp only [zA, zB, zC]
  refine z_or3 (i := 4) (j := 5) (k := 7) (by kernel_rfl) ?_ ?_ ?_
  ·refine o_call 4 21 rfl rfl (by rfl) (f := 59) (args := #[.slice ta (ordF h.words h.roots).length tc, .func (.func 60) #[] #[]]) (w0 := wn1) (by go_simp) ?_
   refine (sorted_any _ _ _ wn1 (Nat.le_refl _) IT (by rw [ints_length]; omega)).mono ?_
   rintro e wn2 ⟨⟨gr, cr, mm, rfl, Rm, lgr, pm, qm⟩, hbt⟩
   obtain rfl := srt_eq hk pm qm
   rw [ints_length, ← rch_len hk]
   have lgr' : w2.heap.size <= gr := Nat.le_trans hs1.size lgr
   have hs2 := bel_after hs1 hbt
   clear hs1 hbt IT pm qm lgr
   refine ⟨_, rfl, .inr hs2, ?_⟩
   simp only [zA, zB, zC]
   refine z_or (i := 5) (j := 7) (by kernel_rfl) ?_ ?_
   ·obtain ⟨wn3, M, ew, eM, hbt, MPm⟩ : ∃ wm M, wm = wn2.alloc (.map #[] 0) /\ M = wn2.heap.size /\ Below wn2.heap.size wn2 wm /\ MP wm M 0 (fun _ => none) := ⟨_, _, rfl, rfl, bel_one _ _, MP.made _⟩
    have nMg : M ≠ gr := by have := Rm.lt; omega
    have lM : w2.heap.size <= M := by rw [eM]; exact hs2.size
    have hs3 := bel_after hs2 hbt
    refine o_run 5 22 (v := .map (some M)) rfl rfl (by rfl) (w' := wn3) (by subst ew; subst eM; go_simp; first | done | with_reducible rfl) (.inr hs3) ?_
    simp only [zA, zB, zC]
    replace Rm := Rm.later hbt
    clear ew eM hs2 hbt
    refine Disk.zt 6 23 (v := .agg #[.slice (some ⟨g1, 0, none⟩) n1 c1, .slice oa n2 oc, .slice (some ⟨g2, 0, none⟩) n3 c3, .int .i64 z1, .int .i64 z2, .int .i64 z3, .bool bz, .int .i64 z4, .slice (some ⟨g3, 0, none⟩) n4 c4, .slice (some ⟨gr, 0, none⟩) (rchL h).length cr, .map (some M), .int .i64 0]) rfl rfl hs3 (fun W' _ => (by go_simp; first | done | with_reducible rfl)) ?_
    simp only [zA, zB, zC]
    obtain ⟨wn4, C, ew, eC, hbt, RC⟩ : ∃ wa C, wa = wn3.alloc (.cells #[.slice none 0 0, .slice none 0 0, .slice none 0 0, .int .i64 0, .int .i64 0, .int .i64 0, .bool false, .int .i64 0, .slice none 0 0, .slice none 0 0, .map none, .int .i64 0] 52) /\ C = wn3.heap.size /\ Below wn3.heap.size wn3 wa /\ wa.rowIs C 52 12 (fun i => (#[.slice none 0 0, .slice none 0 0, .slice none 0 0, .int .i64 0, .int .i64 0, .int .i64 0, .bool false, .int .i64 0, .slice none 0 0, .slice none 0 0, .map none, .int .i64 0] : Array Value)[i]?.getD undef) := ⟨_, _, rfl, rfl, bel_one _ _, row_any wn3 #[.slice none 0 0, .slice none 0 0, .slice none 0 0, .int .i64 0, .int .i64 0, .int .i64 0, .bool false, .int .i64 0, .slice none 0 0, .slice none 0 0, .map none, .int .i64 0] 52⟩
    have ngC : gr ≠ C := by have := Rm.lt; omega
    have nMC : M ≠ C := by have := MPm.lt; omega
    have lC : w2.heap.size <= C := by rw [eC]; exact hs3.size
    have hs4 := bel_after hs3 hbt
    refine Disk.z_run 7 6 (v := .pointer (some ⟨C, 0, none⟩)) rfl rfl (by kernel_rfl) (by rfl) (w' := wn4) (by subst ew; subst eC; go_simp; first | done | with_reducible rfl) (.inr hs4) ?_
    simp only [zA, zB, zC]
    replace MPm := MPm.later hbt
    replace Rm := Rm.later hbt
    clear ew eC hs3 hbt
    have run9 := run_store_box wn4 52 52 C 12 #[.slice (some ⟨g1, 0, none⟩) n1 c1, .slice oa n2 oc, .slice (some ⟨g2, 0, none⟩) n3 c3, .int .i64 z1, .int .i64 z2, .int .i64 z3, .bool bz, .int .i64 z4, .slice (some ⟨g3, 0, none⟩) n4 c4, .slice (some ⟨gr, 0, none⟩) (rchL h).length cr, .map (some M), .int .i64 0] _ RC rfl (by kernel_rfl) (by simp [Value.oneCell'])
    have F9 := row_set wn4 C 52 12 #[.slice (some ⟨g1, 0, none⟩) n1 c1, .slice oa n2 oc, .slice (some ⟨g2, 0, none⟩) n3 c3, .int .i64 z1, .int .i64 z2, .int .i64 z3, .bool bz, .int .i64 z4, .slice (some ⟨g3, 0, none⟩) n4 c4, .slice (some ⟨gr, 0, none⟩) (rchL h).length cr, .map (some M), .int .i64 0] _ RC rfl
    have G9 := grown_setRow wn4 C #[.slice (some ⟨g1, 0, none⟩) n1 c1, .slice oa n2 oc, .slice (some ⟨g2, 0, none⟩) n3 c3, .int .i64 z1, .int .i64 z2, .int .i64 z3, .bool bz, .int .i64 z4, .slice (some ⟨g3, 0, none⟩) n4 c4, .slice (some ⟨gr, 0, none⟩) (rchL h).length cr, .map (some M), .int .i64 0]
    have hs9 := Below.grown hs4 G9 hs4.size (fun k e => by cases e; exact lC)
    refine Disk.z_skip 8 (w' := wn4.setRow C #[.slice (some ⟨g1, 0, none⟩) n1 c1, .slice oa n2 oc, .slice (some ⟨g2, 0, none⟩) n3 c3, .int .i64 z1, .int .i64 z2, .int .i64 z3, .bool bz, .int .i64 z4, .slice (some ⟨g3, 0, none⟩) n4 c4, .slice (some ⟨gr, 0, none⟩) (rchL h).length cr, .map (some M), .int .i64 0]) rfl rfl (by kernel_rfl) (by rfl) (exec_storeQ rfl rfl rfl run9) (.inr hs9) ?_
    refine Disk.z_done (by kernel_rfl) ?_ _
    exact hQ _ M gr cr C _ _ _ _ _ _ _ hs9 ((Grew.grown G9).mp MPm (fun e => nMC (Option.some.inj e).symm)) (Rm.grown G9 (fun e => ngC (Option.some.inj e))) F9 lM lgr' lC nMg nMC ngC
   ·obtain ⟨wn5, C, ew, eC, hbt, RC⟩ : ∃ wa C, wa = wn2.alloc (.cells #[.slice none 0 0, .slice none 0 0, .slice none 0 0, .int .i64 0, .int .i64 0, .int .i64 0, .bool false, .int .i64 0, .slice none 0 0, .slice none 0 0, .map none, .int .i64 0] 52) /\ C = wn2.heap.size /\ Below wn2.heap.size wn2 wa /\ wa.rowIs C 52 12 (fun i => (#[.slice none 0 0, .slice none 0 0, .slice none 0 0, .int .i64 0, .int .i64 0, .int .i64 0, .bool false, .int .i64 0, .slice none 0 0, .slice none 0 0, .map none, .int .i64 0] : Array Value)[i]?.getD undef) := ⟨_, _, rfl, rfl, bel_one _ _, row_any wn2 #[.slice none 0 0, .slice none 0 0, .slice none 0 0, .int .i64 0, .int .i64 0, .int .i64 0, .bool false, .int .i64 0, .slice none 0 0, .slice none 0 0, .map none, .int .i64 0] 52⟩
    have ngC : gr ≠ C := by have := Rm.lt; omega
    have lC : w2.heap.size <= C := by rw [eC]; exact hs2.size
    have hs5 := bel_after hs2 hbt
    refine o_run 7 6 (v := .pointer (some ⟨C, 0, none⟩)) rfl rfl (by rfl) (w' := wn5) (by subst ew; subst eC; go_simp; first | done | with_reducible rfl) (.inr hs5) ?_
    simp only [zA, zB, zC]
    replace Rm := Rm.later hbt
    clear ew eC hs2 hbt
    obtain ⟨wn6, M, ew, eM, hbt, MPm⟩ : ∃ wm M, wm = wn5.alloc (.map #[] 0) /\ M = wn5.heap.size /\ Below wn5.heap.size wn5 wm /\ MP wm M 0 (fun _ => none) := ⟨_, _, rfl, rfl, bel_one _ _, MP.made _⟩
    have nMg : M ≠ gr := by have := Rm.lt; omega
    have nMC : M ≠ C := by have := RC.lt; omega
    have lM : w2.heap.size <= M := by rw [eM]; exact hs5.size
    have hs6 := bel_after hs5 hbt
    refine Disk.z_run 5 22 (v := .map (some M)) rfl rfl (by kernel_rfl) (by rfl) (w' := wn6) (by subst ew; subst eM; go_simp; first | done | with_reducible rfl) (.inr hs6) ?_
    simp only [zA, zB, zC]
    replace RC := RC.of_block (hbt.block _ RC.lt)
    replace Rm := Rm.later hbt
    clear ew eM hs5 hbt
    refine Disk.zt 6 23 (v := .agg #[.slice (some ⟨g1, 0, none⟩) n1 c1, .slice oa n2 oc, .slice (some ⟨g2, 0, none⟩) n3 c3, .int .i64 z1, .int .i64 z2, .int .i64 z3, .bool bz, .int .i64 z4, .slice (some ⟨g3, 0, none⟩) n4 c4, .slice (some ⟨gr, 0, none⟩) (rchL h).length cr, .map (some M), .int .i64 0]) rfl rfl hs6 (fun W' _ => (by go_simp; first | done | with_reducible rfl)) ?_
    simp only [zA, zB, zC]
    have run9 := run_store_box wn6 52 52 C 12 #[.slice (some ⟨g1, 0, none⟩) n1 c1, .slice oa n2 oc, .slice (some ⟨g2, 0, none⟩) n3 c3, .int .i64 z1, .int .i64 z2, .int .i64 z3, .bool bz, .int .i64 z4, .slice (some ⟨g3, 0, none⟩) n4 c4, .slice (some ⟨gr, 0, none⟩) (rchL h).length cr, .map (some M), .int .i64 0] _ RC rfl (by kernel_rfl) (by simp [Value.oneCell'])
    have F9 := row_set wn6 C 52 12 #[.slice (some ⟨g1, 0, none⟩) n1 c1, .slice oa n2 oc, .slice (some ⟨g2, 0, none⟩) n3 c3, .int .i64 z1, .int .i64 z2, .int .i64 z3, .bool bz, .int .i64 z4, .slice (some ⟨g3, 0, none⟩) n4 c4, .slice (some ⟨gr, 0, none⟩) (rchL h).length cr, .map (some M), .int .i64 0] _ RC rfl
    have G9 := grown_setRow wn6 C #[.slice (some ⟨g1, 0, none⟩) n1 c1, .slice oa n2 oc, .slice (some ⟨g2, 0, none⟩) n3 c3, .int .i64 z1, .int .i64 z2, .int .i64 z3, .bool bz, .int .i64 z4, .slice (some ⟨g3, 0, none⟩) n4 c4, .slice (some ⟨gr, 0, none⟩) (rchL h).length cr, .map (some M), .int .i64 0]
    have hs9 := Below.grown hs6 G9 hs6.size (fun k e => by cases e; exact lC)
    refine Disk.z_skip 8 (w' := wn6.setRow C #[.slice (some ⟨g1, 0, none⟩) n1 c1, .slice oa n2 oc, .slice (some ⟨g2, 0, none⟩) n3 c3, .int .i64 z1, .int .i64 z2, .int .i64 z3, .bool bz, .int .i64 z4, .slice (some ⟨g3, 0, none⟩) n4 c4, .slice (some ⟨gr, 0, none⟩) (rchL h).length cr, .map (some M), .int .i64 0]) rfl rfl (by kernel_rfl) (by rfl) (exec_storeQ rfl rfl rfl run9) (.inr hs9) ?_
    refine Disk.z_done (by kernel_rfl) ?_ _
    exact hQ _ M gr cr C _ _ _ _ _ _ _ hs9 ((Grew.grown G9).mp MPm (fun e => nMC (Option.some.inj e).symm)) (Rm.grown G9 (fun e => ngC (Option.some.inj e))) F9 lM lgr' lC nMg nMC ngC
  ·obtain ⟨wn7, M, ew, eM, hbt, MPm⟩ : ∃ wm M, wm = wn1.alloc (.map #[] 0) /\ M = wn1.heap.size /\ Below wn1.heap.size wn1 wm /\ MP wm M 0 (fun _ => none) := ⟨_, _, rfl, rfl, bel_one _ _, MP.made _⟩
   have lM : w2.heap.size <= M := by rw [eM]; exact hs1.size
   have hs7 := bel_after hs1 hbt
   refine o_run 5 22 (v := .map (some M)) rfl rfl (by rfl) (w' := wn7) (by subst ew; subst eM; go_simp; first | done | with_reducible rfl) (.inr hs7) ?_
   simp only [zA, zB, zC]
   replace IT := IT.later hbt
   clear ew eM hs1 hbt
   refine z_or (i := 4) (j := 7) (by kernel_rfl) ?_ ?_
   ·refine o_call 4 21 rfl rfl (by rfl) (f := 59) (args := #[.slice ta (ordF h.words h.roots).length tc, .func (.func 60) #[] #[]]) (w0 := wn7) (by go_simp) ?_
    refine (sorted_any _ _ _ wn7 (Nat.le_refl _) IT (by rw [ints_length]; omega)).mono ?_
    rintro e wn8 ⟨⟨gr, cr, mm, rfl, Rm, lgr, pm, qm⟩, hbt⟩
    obtain rfl := srt_eq hk pm qm
    rw [ints_length, ← rch_len hk]
    have nMg : M ≠ gr := by have := MPm.lt; omega
    replace MPm := MPm.later hbt
    have lgr' : w2.heap.size <= gr := Nat.le_trans hs7.size lgr
    have hs8 := bel_after hs7 hbt
    clear hs7 hbt IT pm qm lgr
    refine ⟨_, rfl, .inr hs8, ?_⟩
    simp only [zA, zB, zC]
    refine Disk.zt 6 23 (v := .agg #[.slice (some ⟨g1, 0, none⟩) n1 c1, .slice oa n2 oc, .slice (some ⟨g2, 0, none⟩) n3 c3, .int .i64 z1, .int .i64 z2, .int .i64 z3, .bool bz, .int .i64 z4, .slice (some ⟨g3, 0, none⟩) n4 c4, .slice (some ⟨gr, 0, none⟩) (rchL h).length cr, .map (some M), .int .i64 0]) rfl rfl hs8 (fun W' _ => (by go_simp; first | done | with_reducible rfl)) ?_
    simp only [zA, zB, zC]
    obtain ⟨wn9, C, ew, eC, hbt, RC⟩ : ∃ wa C, wa = wn8.alloc (.cells #[.slice none 0 0, .slice none 0 0, .slice none 0 0, .int .i64 0, .int .i64 0, .int .i64 0, .bool false, .int .i64 0, .slice none 0 0, .slice none 0 0, .map none, .int .i64 0] 52) /\ C = wn8.heap.size /\ Below wn8.heap.size wn8 wa /\ wa.rowIs C 52 12 (fun i => (#[.slice none 0 0, .slice none 0 0, .slice none 0 0, .int .i64 0, .int .i64 0, .int .i64 0, .bool false, .int .i64 0, .slice none 0 0, .slice none 0 0, .map none, .int .i64 0] : Array Value)[i]?.getD undef) := ⟨_, _, rfl, rfl, bel_one _ _, row_any wn8 #[.slice none 0 0, .slice none 0 0, .slice none 0 0, .int .i64 0, .int .i64 0, .int .i64 0, .bool false, .int .i64 0, .slice none 0 0, .slice none 0 0, .map none, .int .i64 0] 52⟩
    have ngC : gr ≠ C := by have := Rm.lt; omega
    have nMC : M ≠ C := by have := MPm.lt; omega
    have lC : w2.heap.size <= C := by rw [eC]; exact hs8.size
    have hs9 := bel_after hs8 hbt
    refine Disk.z_run 7 6 (v := .pointer (some ⟨C, 0, none⟩)) rfl rfl (by kernel_rfl) (by rfl) (w' := wn9) (by subst ew; subst eC; go_simp; first | done | with_reducible rfl) (.inr hs9) ?_
    simp only [zA, zB, zC]
    replace MPm := MPm.later hbt
    replace Rm := Rm.later hbt
    clear ew eC hs8 hbt
    have run9 := run_store_box wn9 52 52 C 12 #[.slice (some ⟨g1, 0, none⟩) n1 c1, .slice oa n2 oc, .slice (some ⟨g2, 0, none⟩) n3 c3, .int .i64 z1, .int .i64 z2, .int .i64 z3, .bool bz, .int .i64 z4, .slice (some ⟨g3, 0, none⟩) n4 c4, .slice (some ⟨gr, 0, none⟩) (rchL h).length cr, .map (some M), .int .i64 0] _ RC rfl (by kernel_rfl) (by simp [Value.oneCell'])
    have F9 := row_set wn9 C 52 12 #[.slice (some ⟨g1, 0, none⟩) n1 c1, .slice oa n2 oc, .slice (some ⟨g2, 0, none⟩) n3 c3, .int .i64 z1, .int .i64 z2, .int .i64 z3, .bool bz, .int .i64 z4, .slice (some ⟨g3, 0, none⟩) n4 c4, .slice (some ⟨gr, 0, none⟩) (rchL h).length cr, .map (some M), .int .i64 0] _ RC rfl
    have G9 := grown_setRow wn9 C #[.slice (some ⟨g1, 0, none⟩) n1 c1, .slice oa n2 oc, .slice (some ⟨g2, 0, none⟩) n3 c3, .int .i64 z1, .int .i64 z2, .int .i64 z3, .bool bz, .int .i64 z4, .slice (some ⟨g3, 0, none⟩) n4 c4, .slice (some ⟨gr, 0, none⟩) (rchL h).length cr, .map (some M), .int .i64 0]
    have hs9 := Below.grown hs9 G9 hs9.size (fun k e => by cases e; exact lC)
    refine Disk.z_skip 8 (w' := wn9.setRow C #[.slice (some ⟨g1, 0, none⟩) n1 c1, .slice oa n2 oc, .slice (some ⟨g2, 0, none⟩) n3 c3, .int .i64 z1, .int .i64 z2, .int .i64 z3, .bool bz, .int .i64 z4, .slice (some ⟨g3, 0, none⟩) n4 c4, .slice (some ⟨gr, 0, none⟩) (rchL h).length cr, .map (some M), .int .i64 0]) rfl rfl (by kernel_rfl) (by rfl) (exec_storeQ rfl rfl rfl run9) (.inr hs9) ?_
    refine Disk.z_done (by kernel_rfl) ?_ _
    exact hQ _ M gr cr C _ _ _ _ _ _ _ hs9 ((Grew.grown G9).mp MPm (fun e => nMC (Option.some.inj e).symm)) (Rm.grown G9 (fun e => ngC (Option.some.inj e))) F9 lM lgr' lC nMg nMC ngC
   ·obtain ⟨wn10, C, ew, eC, hbt, RC⟩ : ∃ wa C, wa = wn7.alloc (.cells #[.slice none 0 0, .slice none 0 0, .slice none 0 0, .int .i64 0, .int .i64 0, .int .i64 0, .bool false, .int .i64 0, .slice none 0 0, .slice none 0 0, .map none, .int .i64 0] 52) /\ C = wn7.heap.size /\ Below wn7.heap.size wn7 wa /\ wa.rowIs C 52 12 (fun i => (#[.slice none 0 0, .slice none 0 0, .slice none 0 0, .int .i64 0, .int .i64 0, .int .i64 0, .bool false, .int .i64 0, .slice none 0 0, .slice none 0 0, .map none, .int .i64 0] : Array Value)[i]?.getD undef) := ⟨_, _, rfl, rfl, bel_one _ _, row_any wn7 #[.slice none 0 0, .slice none 0 0, .slice none 0 0, .int .i64 0, .int .i64 0, .int .i64 0, .bool false, .int .i64 0, .slice none 0 0, .slice none 0 0, .map none, .int .i64 0] 52⟩
    have nMC : M ≠ C := by have := MPm.lt; omega
    have lC : w2.heap.size <= C := by rw [eC]; exact hs7.size
    have hs10 := bel_after hs7 hbt
    refine o_run 7 6 (v := .pointer (some ⟨C, 0, none⟩)) rfl rfl (by rfl) (w' := wn10) (by subst ew; subst eC; go_simp; first | done | with_reducible rfl) (.inr hs10) ?_
    simp only [zA, zB, zC]
    replace MPm := MPm.later hbt
    replace IT := IT.later hbt
    clear ew eC hs7 hbt
    refine Disk.zc 4 21 rfl rfl (f := 59) (args := #[.slice ta (ordF h.words h.roots).length tc, .func (.func 60) #[] #[]]) (w0 := wn10) ?_
    refine (sorted_any _ _ _ wn10 (Nat.le_refl _) IT (by rw [ints_length]; omega)).mono ?_
    rintro e wn11 ⟨⟨gr, cr, mm, rfl, Rm, lgr, pm, qm⟩, hbt⟩
    obtain rfl := srt_eq hk pm qm
    rw [ints_length, ← rch_len hk]
    have nMg : M ≠ gr := by have := MPm.lt; omega
    have ngC : gr ≠ C := by have := RC.lt; omega
    replace MPm := MPm.later hbt
    replace RC := RC.of_block (hbt.block _ RC.lt)
    have lgr' : w2.heap.size <= gr := Nat.le_trans hs10.size lgr
    have hs11 := bel_after hs10 hbt
    clear hs10 hbt IT pm qm lgr
    refine ⟨_, rfl, .inr hs11, ?_⟩
    simp only [zA, zB, zC]
    refine Disk.zt 6 23 (v := .agg #[.slice (some ⟨g1, 0, none⟩) n1 c1, .slice oa n2 oc, .slice (some ⟨g2, 0, none⟩) n3 c3, .int .i64 z1, .int .i64 z2, .int .i64 z3, .bool bz, .int .i64 z4, .slice (some ⟨g3, 0, none⟩) n4 c4, .slice (some ⟨gr, 0, none⟩) (rchL h).length cr, .map (some M), .int .i64 0]) rfl rfl hs11 (fun W' _ => (by go_simp; first | done | with_reducible rfl)) ?_
    simp only [zA, zB, zC]
    have run9 := run_store_box wn11 52 52 C 12 #[.slice (some ⟨g1, 0, none⟩) n1 c1, .slice oa n2 oc, .slice (some ⟨g2, 0, none⟩) n3 c3, .int .i64 z1, .int .i64 z2, .int .i64 z3, .bool bz, .int .i64 z4, .slice (some ⟨g3, 0, none⟩) n4 c4, .slice (some ⟨gr, 0, none⟩) (rchL h).length cr, .map (some M), .int .i64 0] _ RC rfl (by kernel_rfl) (by simp [Value.oneCell'])
    have F9 := row_set wn11 C 52 12 #[.slice (some ⟨g1, 0, none⟩) n1 c1, .slice oa n2 oc, .slice (some ⟨g2, 0, none⟩) n3 c3, .int .i64 z1, .int .i64 z2, .int .i64 z3, .bool bz, .int .i64 z4, .slice (some ⟨g3, 0, none⟩) n4 c4, .slice (some ⟨gr, 0, none⟩) (rchL h).length cr, .map (some M), .int .i64 0] _ RC rfl
    have G9 := grown_setRow wn11 C #[.slice (some ⟨g1, 0, none⟩) n1 c1, .slice oa n2 oc, .slice (some ⟨g2, 0, none⟩) n3 c3, .int .i64 z1, .int .i64 z2, .int .i64 z3, .bool bz, .int .i64 z4, .slice (some ⟨g3, 0, none⟩) n4 c4, .slice (some ⟨gr, 0, none⟩) (rchL h).length cr, .map (some M), .int .i64 0]
    have hs9 := Below.grown hs11 G9 hs11.size (fun k e => by cases e; exact lC)
    refine Disk.z_skip 8 (w' := wn11.setRow C #[.slice (some ⟨g1, 0, none⟩) n1 c1, .slice oa n2 oc, .slice (some ⟨g2, 0, none⟩) n3 c3, .int .i64 z1, .int .i64 z2, .int .i64 z3, .bool bz, .int .i64 z4, .slice (some ⟨g3, 0, none⟩) n4 c4, .slice (some ⟨gr, 0, none⟩) (rchL h).length cr, .map (some M), .int .i64 0]) rfl rfl (by kernel_rfl) (by rfl) (exec_storeQ rfl rfl rfl run9) (.inr hs9) ?_
    refine Disk.z_done (by kernel_rfl) ?_ _
    exact hQ _ M gr cr C _ _ _ _ _ _ _ hs9 ((Grew.grown G9).mp MPm (fun e => nMC (Option.some.inj e).symm)) (Rm.grown G9 (fun e => ngC (Option.some.inj e))) F9 lM lgr' lC nMg nMC ngC
  ·obtain ⟨wn12, C, ew, eC, hbt, RC⟩ : ∃ wa C, wa = wn1.alloc (.cells #[.slice none 0 0, .slice none 0 0, .slice none 0 0, .int .i64 0, .int .i64 0, .int .i64 0, .bool false, .int .i64 0, .slice none 0 0, .slice none 0 0, .map none, .int .i64 0] 52) /\ C = wn1.heap.size /\ Below wn1.heap.size wn1 wa /\ wa.rowIs C 52 12 (fun i => (#[.slice none 0 0, .slice none 0 0, .slice none 0 0, .int .i64 0, .int .i64 0, .int .i64 0, .bool false, .int .i64 0, .slice none 0 0, .slice none 0 0, .map none, .int .i64 0] : Array Value)[i]?.getD undef) := ⟨_, _, rfl, rfl, bel_one _ _, row_any wn1 #[.slice none 0 0, .slice none 0 0, .slice none 0 0, .int .i64 0, .int .i64 0, .int .i64 0, .bool false, .int .i64 0, .slice none 0 0, .slice none 0 0, .map none, .int .i64 0] 52⟩
   have lC : w2.heap.size <= C := by rw [eC]; exact hs1.size
   have hs12 := bel_after hs1 hbt
   refine o_run 7 6 (v := .pointer (some ⟨C, 0, none⟩)) rfl rfl (by rfl) (w' := wn12) (by subst ew; subst eC; go_simp; first | done | with_reducible rfl) (.inr hs12) ?_
   simp only [zA, zB, zC]
   replace IT := IT.later hbt
   clear ew eC hs1 hbt
   refine z_or (i := 4) (j := 5) (by kernel_rfl) ?_ ?_
   ·refine o_call 4 21 rfl rfl (by rfl) (f := 59) (args := #[.slice ta (ordF h.words h.roots).length tc, .func (.func 60) #[] #[]]) (w0 := wn12) (by go_simp) ?_
    refine (sorted_any _ _ _ wn12 (Nat.le_refl _) IT (by rw [ints_length]; omega)).mono ?_
    rintro e wn13 ⟨⟨gr, cr, mm, rfl, Rm, lgr, pm, qm⟩, hbt⟩
    obtain rfl := srt_eq hk pm qm
    rw [ints_length, ← rch_len hk]
    have ngC : gr ≠ C := by have := RC.lt; omega
    replace RC := RC.of_block (hbt.block _ RC.lt)
    have lgr' : w2.heap.size <= gr := Nat.le_trans hs12.size lgr
    have hs13 := bel_after hs12 hbt
    clear hs12 hbt IT pm qm lgr
    refine ⟨_, rfl, .inr hs13, ?_⟩
    simp only [zA, zB, zC]
    obtain ⟨wn14, M, ew, eM, hbt, MPm⟩ : ∃ wm M, wm = wn13.alloc (.map #[] 0) /\ M = wn13.heap.size /\ Below wn13.heap.size wn13 wm /\ MP wm M 0 (fun _ => none) := ⟨_, _, rfl, rfl, bel_one _ _, MP.made _⟩
    have nMg : M ≠ gr := by have := Rm.lt; omega
    have nMC : M ≠ C := by have := RC.lt; omega
    have lM : w2.heap.size <= M := by rw [eM]; exact hs13.size
    have hs14 := bel_after hs13 hbt
    refine Disk.z_run 5 22 (v := .map (some M)) rfl rfl (by kernel_rfl) (by rfl) (w' := wn14) (by subst ew; subst eM; go_simp; first | done | with_reducible rfl) (.inr hs14) ?_
    simp only [zA, zB, zC]
    replace RC := RC.of_block (hbt.block _ RC.lt)
    replace Rm := Rm.later hbt
    clear ew eM hs13 hbt
    refine Disk.zt 6 23 (v := .agg #[.slice (some ⟨g1, 0, none⟩) n1 c1, .slice oa n2 oc, .slice (some ⟨g2, 0, none⟩) n3 c3, .int .i64 z1, .int .i64 z2, .int .i64 z3, .bool bz, .int .i64 z4, .slice (some ⟨g3, 0, none⟩) n4 c4, .slice (some ⟨gr, 0, none⟩) (rchL h).length cr, .map (some M), .int .i64 0]) rfl rfl hs14 (fun W' _ => (by go_simp; first | done | with_reducible rfl)) ?_
    simp only [zA, zB, zC]
    have run9 := run_store_box wn14 52 52 C 12 #[.slice (some ⟨g1, 0, none⟩) n1 c1, .slice oa n2 oc, .slice (some ⟨g2, 0, none⟩) n3 c3, .int .i64 z1, .int .i64 z2, .int .i64 z3, .bool bz, .int .i64 z4, .slice (some ⟨g3, 0, none⟩) n4 c4, .slice (some ⟨gr, 0, none⟩) (rchL h).length cr, .map (some M), .int .i64 0] _ RC rfl (by kernel_rfl) (by simp [Value.oneCell'])
    have F9 := row_set wn14 C 52 12 #[.slice (some ⟨g1, 0, none⟩) n1 c1, .slice oa n2 oc, .slice (some ⟨g2, 0, none⟩) n3 c3, .int .i64 z1, .int .i64 z2, .int .i64 z3, .bool bz, .int .i64 z4, .slice (some ⟨g3, 0, none⟩) n4 c4, .slice (some ⟨gr, 0, none⟩) (rchL h).length cr, .map (some M), .int .i64 0] _ RC rfl
    have G9 := grown_setRow wn14 C #[.slice (some ⟨g1, 0, none⟩) n1 c1, .slice oa n2 oc, .slice (some ⟨g2, 0, none⟩) n3 c3, .int .i64 z1, .int .i64 z2, .int .i64 z3, .bool bz, .int .i64 z4, .slice (some ⟨g3, 0, none⟩) n4 c4, .slice (some ⟨gr, 0, none⟩) (rchL h).length cr, .map (some M), .int .i64 0]
    have hs9 := Below.grown hs14 G9 hs14.size (fun k e => by cases e; exact lC)
    refine Disk.z_skip 8 (w' := wn14.setRow C #[.slice (some ⟨g1, 0, none⟩) n1 c1, .slice oa n2 oc, .slice (some ⟨g2, 0, none⟩) n3 c3, .int .i64 z1, .int .i64 z2, .int .i64 z3, .bool bz, .int .i64 z4, .slice (some ⟨g3, 0, none⟩) n4 c4, .slice (some ⟨gr, 0, none⟩) (rchL h).length cr, .map (some M), .int .i64 0]) rfl rfl (by kernel_rfl) (by rfl) (exec_storeQ rfl rfl rfl run9) (.inr hs9) ?_
    refine Disk.z_done (by kernel_rfl) ?_ _
    exact hQ _ M gr cr C _ _ _ _ _ _ _ hs9 ((Grew.grown G9).mp MPm (fun e => nMC (Option.some.inj e).symm)) (Rm.grown G9 (fun e => ngC (Option.some.inj e))) F9 lM lgr' lC nMg nMC ngC
   ·obtain ⟨wn15, M, ew, eM, hbt, MPm⟩ : ∃ wm M, wm = wn12.alloc (.map #[] 0) /\ M = wn12.heap.size /\ Below wn12.heap.size wn12 wm /\ MP wm M 0 (fun _ => none) := ⟨_, _, rfl, rfl, bel_one _ _, MP.made _⟩
    have nMC : M ≠ C := by have := RC.lt; omega
    have lM : w2.heap.size <= M := by rw [eM]; exact hs12.size
    have hs15 := bel_after hs12 hbt
    refine o_run 5 22 (v := .map (some M)) rfl rfl (by rfl) (w' := wn15) (by subst ew; subst eM; go_simp; first | done | with_reducible rfl) (.inr hs15) ?_
    simp only [zA, zB, zC]
    replace RC := RC.of_block (hbt.block _ RC.lt)
    replace IT := IT.later hbt
    clear ew eM hs12 hbt
    refine Disk.zc 4 21 rfl rfl (f := 59) (args := #[.slice ta (ordF h.words h.roots).length tc, .func (.func 60) #[] #[]]) (w0 := wn15) ?_
    refine (sorted_any _ _ _ wn15 (Nat.le_refl _) IT (by rw [ints_length]; omega)).mono ?_
    rintro e wn16 ⟨⟨gr, cr, mm, rfl, Rm, lgr, pm, qm⟩, hbt⟩
    obtain rfl := srt_eq hk pm qm
    rw [ints_length, ← rch_len hk]
    have nMg : M ≠ gr := by have := MPm.lt; omega
    have ngC : gr ≠ C := by have := RC.lt; omega
    replace MPm := MPm.later hbt
    replace RC := RC.of_block (hbt.block _ RC.lt)
    have lgr' : w2.heap.size <= gr := Nat.le_trans hs15.size lgr
    have hs16 := bel_after hs15 hbt
    clear hs15 hbt IT pm qm lgr
    refine ⟨_, rfl, .inr hs16, ?_⟩
    simp only [zA, zB, zC]
    refine Disk.zt 6 23 (v := .agg #[.slice (some ⟨g1, 0, none⟩) n1 c1, .slice oa n2 oc, .slice (some ⟨g2, 0, none⟩) n3 c3, .int .i64 z1, .int .i64 z2, .int .i64 z3, .bool bz, .int .i64 z4, .slice (some ⟨g3, 0, none⟩) n4 c4, .slice (some ⟨gr, 0, none⟩) (rchL h).length cr, .map (some M), .int .i64 0]) rfl rfl hs16 (fun W' _ => (by go_simp; first | done | with_reducible rfl)) ?_
    simp only [zA, zB, zC]
    have run9 := run_store_box wn16 52 52 C 12 #[.slice (some ⟨g1, 0, none⟩) n1 c1, .slice oa n2 oc, .slice (some ⟨g2, 0, none⟩) n3 c3, .int .i64 z1, .int .i64 z2, .int .i64 z3, .bool bz, .int .i64 z4, .slice (some ⟨g3, 0, none⟩) n4 c4, .slice (some ⟨gr, 0, none⟩) (rchL h).length cr, .map (some M), .int .i64 0] _ RC rfl (by kernel_rfl) (by simp [Value.oneCell'])
    have F9 := row_set wn16 C 52 12 #[.slice (some ⟨g1, 0, none⟩) n1 c1, .slice oa n2 oc, .slice (some ⟨g2, 0, none⟩) n3 c3, .int .i64 z1, .int .i64 z2, .int .i64 z3, .bool bz, .int .i64 z4, .slice (some ⟨g3, 0, none⟩) n4 c4, .slice (some ⟨gr, 0, none⟩) (rchL h).length cr, .map (some M), .int .i64 0] _ RC rfl
    have G9 := grown_setRow wn16 C #[.slice (some ⟨g1, 0, none⟩) n1 c1, .slice oa n2 oc, .slice (some ⟨g2, 0, none⟩) n3 c3, .int .i64 z1, .int .i64 z2, .int .i64 z3, .bool bz, .int .i64 z4, .slice (some ⟨g3, 0, none⟩) n4 c4, .slice (some ⟨gr, 0, none⟩) (rchL h).length cr, .map (some M), .int .i64 0]
    have hs9 := Below.grown hs16 G9 hs16.size (fun k e => by cases e; exact lC)
    refine Disk.z_skip 8 (w' := wn16.setRow C #[.slice (some ⟨g1, 0, none⟩) n1 c1, .slice oa n2 oc, .slice (some ⟨g2, 0, none⟩) n3 c3, .int .i64 z1, .int .i64 z2, .int .i64 z3, .bool bz, .int .i64 z4, .slice (some ⟨g3, 0, none⟩) n4 c4, .slice (some ⟨gr, 0, none⟩) (rchL h).length cr, .map (some M), .int .i64 0]) rfl rfl (by kernel_rfl) (by rfl) (exec_storeQ rfl rfl rfl run9) (.inr hs9) ?_
    refine Disk.z_done (by kernel_rfl) ?_ _
    exact hQ _ M gr cr C _ _ _ _ _ _ _ hs9 ((Grew.grown G9).mp MPm (fun e => nMC (Option.some.inj e).symm)) (Rm.grown G9 (fun e => ngC (Option.some.inj e))) F9 lM lgr' lC nMg nMC ngC
 ·obtain ⟨wn17, M, ew, eM, hbt, MPm⟩ : ∃ wm M, wm = wd.alloc (.map #[] 0) /\ M = wd.heap.size /\ Below wd.heap.size wd wm /\ MP wm M 0 (fun _ => none) := ⟨_, _, rfl, rfl, bel_one _ _, MP.made _⟩
  have lM : w2.heap.size <= M := by rw [eM]; exact hs.size
  have hs17 := bel_after hs hbt
  refine o_run 5 22 (v := .map (some M)) rfl rfl (by rfl) (w' := wn17) (by subst ew; subst eM; go_simp; first | done | with_reducible rfl) (.inr hs17) ?_
  simp only [zA, zB, zC]
  clear ew eM hs hbt
  refine z_or (i := 2) (j := 7) (by kernel_rfl) ?_ ?_
  ·refine o_call 2 19 rfl rfl (by rfl) (f := 39) (args := #[.agg #[x0, x1, x2, x3, x4, x5, x6, x7]]) (w0 := wn17) (by go_simp) ?_
   refine (TF wn17 hs17).mono ?_
   rintro e wn18 ⟨ov, Mt, nt, rfl, hot, -, -, -, hbt⟩
   replace MPm := MPm.later hbt
   have hs18 := bel_after hs17 hbt
   clear hs17 hbt
   refine ⟨_, rfl, .inr hs18, ?_⟩
   simp only [zA, zB, zC]
   have IT := IR_of_owns' hot
   obtain ⟨ta, tc, rfl⟩ := own_shape hot
   clear hot
   refine Disk.zt 3 20 (v := .slice ta (ordF h.words h.roots).length tc) rfl rfl hs18 (fun W' _ => (by kernel_rfl)) ?_
   simp only [zA, zB, zC]
   refine z_or (i := 4) (j := 7) (by kernel_rfl) ?_ ?_
   ·refine o_call 4 21 rfl rfl (by rfl) (f := 59) (args := #[.slice ta (ordF h.words h.roots).length tc, .func (.func 60) #[] #[]]) (w0 := wn18) (by go_simp) ?_
    refine (sorted_any _ _ _ wn18 (Nat.le_refl _) IT (by rw [ints_length]; omega)).mono ?_
    rintro e wn19 ⟨⟨gr, cr, mm, rfl, Rm, lgr, pm, qm⟩, hbt⟩
    obtain rfl := srt_eq hk pm qm
    rw [ints_length, ← rch_len hk]
    have nMg : M ≠ gr := by have := MPm.lt; omega
    replace MPm := MPm.later hbt
    have lgr' : w2.heap.size <= gr := Nat.le_trans hs18.size lgr
    have hs19 := bel_after hs18 hbt
    clear hs18 hbt IT pm qm lgr
    refine ⟨_, rfl, .inr hs19, ?_⟩
    simp only [zA, zB, zC]
    refine Disk.zt 6 23 (v := .agg #[.slice (some ⟨g1, 0, none⟩) n1 c1, .slice oa n2 oc, .slice (some ⟨g2, 0, none⟩) n3 c3, .int .i64 z1, .int .i64 z2, .int .i64 z3, .bool bz, .int .i64 z4, .slice (some ⟨g3, 0, none⟩) n4 c4, .slice (some ⟨gr, 0, none⟩) (rchL h).length cr, .map (some M), .int .i64 0]) rfl rfl hs19 (fun W' _ => (by go_simp; first | done | with_reducible rfl)) ?_
    simp only [zA, zB, zC]
    obtain ⟨wn20, C, ew, eC, hbt, RC⟩ : ∃ wa C, wa = wn19.alloc (.cells #[.slice none 0 0, .slice none 0 0, .slice none 0 0, .int .i64 0, .int .i64 0, .int .i64 0, .bool false, .int .i64 0, .slice none 0 0, .slice none 0 0, .map none, .int .i64 0] 52) /\ C = wn19.heap.size /\ Below wn19.heap.size wn19 wa /\ wa.rowIs C 52 12 (fun i => (#[.slice none 0 0, .slice none 0 0, .slice none 0 0, .int .i64 0, .int .i64 0, .int .i64 0, .bool false, .int .i64 0, .slice none 0 0, .slice none 0 0, .map none, .int .i64 0] : Array Value)[i]?.getD undef) := ⟨_, _, rfl, rfl, bel_one _ _, row_any wn19 #[.slice none 0 0, .slice none 0 0, .slice none 0 0, .int .i64 0, .int .i64 0, .int .i64 0, .bool false, .int .i64 0, .slice none 0 0, .slice none 0 0, .map none, .int .i64 0] 52⟩
    have ngC : gr ≠ C := by have := Rm.lt; omega
    have nMC : M ≠ C := by have := MPm.lt; omega
    have lC : w2.heap.size <= C := by rw [eC]; exact hs19.size
    have hs20 := bel_after hs19 hbt
    refine Disk.z_run 7 6 (v := .pointer (some ⟨C, 0, none⟩)) rfl rfl (by kernel_rfl) (by rfl) (w' := wn20) (by subst ew; subst eC; go_simp; first | done | with_reducible rfl) (.inr hs20) ?_
    simp only [zA, zB, zC]
    replace MPm := MPm.later hbt
    replace Rm := Rm.later hbt
    clear ew eC hs19 hbt
    have run9 := run_store_box wn20 52 52 C 12 #[.slice (some ⟨g1, 0, none⟩) n1 c1, .slice oa n2 oc, .slice (some ⟨g2, 0, none⟩) n3 c3, .int .i64 z1, .int .i64 z2, .int .i64 z3, .bool bz, .int .i64 z4, .slice (some ⟨g3, 0, none⟩) n4 c4, .slice (some ⟨gr, 0, none⟩) (rchL h).length cr, .map (some M), .int .i64 0] _ RC rfl (by kernel_rfl) (by simp [Value.oneCell'])
    have F9 := row_set wn20 C 52 12 #[.slice (some ⟨g1, 0, none⟩) n1 c1, .slice oa n2 oc, .slice (some ⟨g2, 0, none⟩) n3 c3, .int .i64 z1, .int .i64 z2, .int .i64 z3, .bool bz, .int .i64 z4, .slice (some ⟨g3, 0, none⟩) n4 c4, .slice (some ⟨gr, 0, none⟩) (rchL h).length cr, .map (some M), .int .i64 0] _ RC rfl
    have G9 := grown_setRow wn20 C #[.slice (some ⟨g1, 0, none⟩) n1 c1, .slice oa n2 oc, .slice (some ⟨g2, 0, none⟩) n3 c3, .int .i64 z1, .int .i64 z2, .int .i64 z3, .bool bz, .int .i64 z4, .slice (some ⟨g3, 0, none⟩) n4 c4, .slice (some ⟨gr, 0, none⟩) (rchL h).length cr, .map (some M), .int .i64 0]
    have hs9 := Below.grown hs20 G9 hs20.size (fun k e => by cases e; exact lC)
    refine Disk.z_skip 8 (w' := wn20.setRow C #[.slice (some ⟨g1, 0, none⟩) n1 c1, .slice oa n2 oc, .slice (some ⟨g2, 0, none⟩) n3 c3, .int .i64 z1, .int .i64 z2, .int .i64 z3, .bool bz, .int .i64 z4, .slice (some ⟨g3, 0, none⟩) n4 c4, .slice (some ⟨gr, 0, none⟩) (rchL h).length cr, .map (some M), .int .i64 0]) rfl rfl (by kernel_rfl) (by rfl) (exec_storeQ rfl rfl rfl run9) (.inr hs9) ?_
    refine Disk.z_done (by kernel_rfl) ?_ _
    exact hQ _ M gr cr C _ _ _ _ _ _ _ hs9 ((Grew.grown G9).mp MPm (fun e => nMC (Option.some.inj e).symm)) (Rm.grown G9 (fun e => ngC (Option.some.inj e))) F9 lM lgr' lC nMg nMC ngC
   ·obtain ⟨wn21, C, ew, eC, hbt, RC⟩ : ∃ wa C, wa = wn18.alloc (.cells #[.slice none 0 0, .slice none 0 0, .slice none 0 0, .int .i64 0, .int .i64 0, .int .i64 0, .bool false, .int .i64 0, .slice none 0 0, .slice none 0 0, .map none, .int .i64 0] 52) /\ C = wn18.heap.size /\ Below wn18.heap.size wn18 wa /\ wa.rowIs C 52 12 (fun i => (#[.slice none 0 0, .slice none 0 0, .slice none 0 0, .int .i64 0, .int .i64 0, .int .i64 0, .bool false, .int .i64 0, .slice none 0 0, .slice none 0 0, .map none, .int .i64 0] : Array Value)[i]?.getD undef) := ⟨_, _, rfl, rfl, bel_one _ _, row_any wn18 #[.slice none 0 0, .slice none 0 0, .slice none 0 0, .int .i64 0, .int .i64 0, .int .i64 0, .bool false, .int .i64 0, .slice none 0 0, .slice none 0 0, .map none, .int .i64 0] 52⟩
    have nMC : M ≠ C := by have := MPm.lt; omega
    have lC : w2.heap.size <= C := by rw [eC]; exact hs18.size
    have hs21 := bel_after hs18 hbt
    refine o_run 7 6 (v := .pointer (some ⟨C, 0, none⟩)) rfl rfl (by rfl) (w' := wn21) (by subst ew; subst eC; go_simp; first | done | with_reducible rfl) (.inr hs21) ?_
    simp only [zA, zB, zC]
    replace MPm := MPm.later hbt
    replace IT := IT.later hbt
    clear ew eC hs18 hbt
    refine Disk.zc 4 21 rfl rfl (f := 59) (args := #[.slice ta (ordF h.words h.roots).length tc, .func (.func 60) #[] #[]]) (w0 := wn21) ?_
    refine (sorted_any _ _ _ wn21 (Nat.le_refl _) IT (by rw [ints_length]; omega)).mono ?_
    rintro e wn22 ⟨⟨gr, cr, mm, rfl, Rm, lgr, pm, qm⟩, hbt⟩
    obtain rfl := srt_eq hk pm qm
    rw [ints_length, ← rch_len hk]
    have nMg : M ≠ gr := by have := MPm.lt; omega
    have ngC : gr ≠ C := by have := RC.lt; omega
    replace MPm := MPm.later hbt
    replace RC := RC.of_block (hbt.block _ RC.lt)
    have lgr' : w2.heap.size <= gr := Nat.le_trans hs21.size lgr
    have hs22 := bel_after hs21 hbt
    clear hs21 hbt IT pm qm lgr
    refine ⟨_, rfl, .inr hs22, ?_⟩
    simp only [zA, zB, zC]
    refine Disk.zt 6 23 (v := .agg #[.slice (some ⟨g1, 0, none⟩) n1 c1, .slice oa n2 oc, .slice (some ⟨g2, 0, none⟩) n3 c3, .int .i64 z1, .int .i64 z2, .int .i64 z3, .bool bz, .int .i64 z4, .slice (some ⟨g3, 0, none⟩) n4 c4, .slice (some ⟨gr, 0, none⟩) (rchL h).length cr, .map (some M), .int .i64 0]) rfl rfl hs22 (fun W' _ => (by go_simp; first | done | with_reducible rfl)) ?_
    simp only [zA, zB, zC]
    have run9 := run_store_box wn22 52 52 C 12 #[.slice (some ⟨g1, 0, none⟩) n1 c1, .slice oa n2 oc, .slice (some ⟨g2, 0, none⟩) n3 c3, .int .i64 z1, .int .i64 z2, .int .i64 z3, .bool bz, .int .i64 z4, .slice (some ⟨g3, 0, none⟩) n4 c4, .slice (some ⟨gr, 0, none⟩) (rchL h).length cr, .map (some M), .int .i64 0] _ RC rfl (by kernel_rfl) (by simp [Value.oneCell'])
    have F9 := row_set wn22 C 52 12 #[.slice (some ⟨g1, 0, none⟩) n1 c1, .slice oa n2 oc, .slice (some ⟨g2, 0, none⟩) n3 c3, .int .i64 z1, .int .i64 z2, .int .i64 z3, .bool bz, .int .i64 z4, .slice (some ⟨g3, 0, none⟩) n4 c4, .slice (some ⟨gr, 0, none⟩) (rchL h).length cr, .map (some M), .int .i64 0] _ RC rfl
    have G9 := grown_setRow wn22 C #[.slice (some ⟨g1, 0, none⟩) n1 c1, .slice oa n2 oc, .slice (some ⟨g2, 0, none⟩) n3 c3, .int .i64 z1, .int .i64 z2, .int .i64 z3, .bool bz, .int .i64 z4, .slice (some ⟨g3, 0, none⟩) n4 c4, .slice (some ⟨gr, 0, none⟩) (rchL h).length cr, .map (some M), .int .i64 0]
    have hs9 := Below.grown hs22 G9 hs22.size (fun k e => by cases e; exact lC)
    refine Disk.z_skip 8 (w' := wn22.setRow C #[.slice (some ⟨g1, 0, none⟩) n1 c1, .slice oa n2 oc, .slice (some ⟨g2, 0, none⟩) n3 c3, .int .i64 z1, .int .i64 z2, .int .i64 z3, .bool bz, .int .i64 z4, .slice (some ⟨g3, 0, none⟩) n4 c4, .slice (some ⟨gr, 0, none⟩) (rchL h).length cr, .map (some M), .int .i64 0]) rfl rfl (by kernel_rfl) (by rfl) (exec_storeQ rfl rfl rfl run9) (.inr hs9) ?_
    refine Disk.z_done (by kernel_rfl) ?_ _
    exact hQ _ M gr cr C _ _ _ _ _ _ _ hs9 ((Grew.grown G9).mp MPm (fun e => nMC (Option.some.inj e).symm)) (Rm.grown G9 (fun e => ngC (Option.some.inj e))) F9 lM lgr' lC nMg nMC ngC
  ·obtain ⟨wn23, C, ew, eC, hbt, RC⟩ : ∃ wa C, wa = wn17.alloc (.cells #[.slice none 0 0, .slice none 0 0, .slice none 0 0, .int .i64 0, .int .i64 0, .int .i64 0, .bool false, .int .i64 0, .slice none 0 0, .slice none 0 0, .map none, .int .i64 0] 52) /\ C = wn17.heap.size /\ Below wn17.heap.size wn17 wa /\ wa.rowIs C 52 12 (fun i => (#[.slice none 0 0, .slice none 0 0, .slice none 0 0, .int .i64 0, .int .i64 0, .int .i64 0, .bool false, .int .i64 0, .slice none 0 0, .slice none 0 0, .map none, .int .i64 0] : Array Value)[i]?.getD undef) := ⟨_, _, rfl, rfl, bel_one _ _, row_any wn17 #[.slice none 0 0, .slice none 0 0, .slice none 0 0, .int .i64 0, .int .i64 0, .int .i64 0, .bool false, .int .i64 0, .slice none 0 0, .slice none 0 0, .map none, .int .i64 0] 52⟩
   have nMC : M ≠ C := by have := MPm.lt; omega
   have lC : w2.heap.size <= C := by rw [eC]; exact hs17.size
   have hs23 := bel_after hs17 hbt
   refine o_run 7 6 (v := .pointer (some ⟨C, 0, none⟩)) rfl rfl (by rfl) (w' := wn23) (by subst ew; subst eC; go_simp; first | done | with_reducible rfl) (.inr hs23) ?_
   simp only [zA, zB, zC]
   replace MPm := MPm.later hbt
   clear ew eC hs17 hbt
   refine Disk.zc 2 19 rfl rfl (f := 39) (args := #[.agg #[x0, x1, x2, x3, x4, x5, x6, x7]]) (w0 := wn23) ?_
   refine (TF wn23 hs23).mono ?_
   rintro e wn24 ⟨ov, Mt, nt, rfl, hot, -, -, -, hbt⟩
   replace MPm := MPm.later hbt
   replace RC := RC.of_block (hbt.block _ RC.lt)
   have hs24 := bel_after hs23 hbt
   clear hs23 hbt
   refine ⟨_, rfl, .inr hs24, ?_⟩
   simp only [zA, zB, zC]
   have IT := IR_of_owns' hot
   obtain ⟨ta, tc, rfl⟩ := own_shape hot
   clear hot
   refine Disk.zt 3 20 (v := .slice ta (ordF h.words h.roots).length tc) rfl rfl hs24 (fun W' _ => (by kernel_rfl)) ?_
   simp only [zA, zB, zC]
   refine Disk.zc 4 21 rfl rfl (f := 59) (args := #[.slice ta (ordF h.words h.roots).length tc, .func (.func 60) #[] #[]]) (w0 := wn24) ?_
   refine (sorted_any _ _ _ wn24 (Nat.le_refl _) IT (by rw [ints_length]; omega)).mono ?_
   rintro e wn25 ⟨⟨gr, cr, mm, rfl, Rm, lgr, pm, qm⟩, hbt⟩
   obtain rfl := srt_eq hk pm qm
   rw [ints_length, ← rch_len hk]
   have nMg : M ≠ gr := by have := MPm.lt; omega
   have ngC : gr ≠ C := by have := RC.lt; omega
   replace MPm := MPm.later hbt
   replace RC := RC.of_block (hbt.block _ RC.lt)
   have lgr' : w2.heap.size <= gr := Nat.le_trans hs24.size lgr
   have hs25 := bel_after hs24 hbt
   clear hs24 hbt IT pm qm lgr
   refine ⟨_, rfl, .inr hs25, ?_⟩
   simp only [zA, zB, zC]
   refine Disk.zt 6 23 (v := .agg #[.slice (some ⟨g1, 0, none⟩) n1 c1, .slice oa n2 oc, .slice (some ⟨g2, 0, none⟩) n3 c3, .int .i64 z1, .int .i64 z2, .int .i64 z3, .bool bz, .int .i64 z4, .slice (some ⟨g3, 0, none⟩) n4 c4, .slice (some ⟨gr, 0, none⟩) (rchL h).length cr, .map (some M), .int .i64 0]) rfl rfl hs25 (fun W' _ => (by go_simp; first | done | with_reducible rfl)) ?_
   simp only [zA, zB, zC]
   have run9 := run_store_box wn25 52 52 C 12 #[.slice (some ⟨g1, 0, none⟩) n1 c1, .slice oa n2 oc, .slice (some ⟨g2, 0, none⟩) n3 c3, .int .i64 z1, .int .i64 z2, .int .i64 z3, .bool bz, .int .i64 z4, .slice (some ⟨g3, 0, none⟩) n4 c4, .slice (some ⟨gr, 0, none⟩) (rchL h).length cr, .map (some M), .int .i64 0] _ RC rfl (by kernel_rfl) (by simp [Value.oneCell'])
   have F9 := row_set wn25 C 52 12 #[.slice (some ⟨g1, 0, none⟩) n1 c1, .slice oa n2 oc, .slice (some ⟨g2, 0, none⟩) n3 c3, .int .i64 z1, .int .i64 z2, .int .i64 z3, .bool bz, .int .i64 z4, .slice (some ⟨g3, 0, none⟩) n4 c4, .slice (some ⟨gr, 0, none⟩) (rchL h).length cr, .map (some M), .int .i64 0] _ RC rfl
   have G9 := grown_setRow wn25 C #[.slice (some ⟨g1, 0, none⟩) n1 c1, .slice oa n2 oc, .slice (some ⟨g2, 0, none⟩) n3 c3, .int .i64 z1, .int .i64 z2, .int .i64 z3, .bool bz, .int .i64 z4, .slice (some ⟨g3, 0, none⟩) n4 c4, .slice (some ⟨gr, 0, none⟩) (rchL h).length cr, .map (some M), .int .i64 0]
   have hs9 := Below.grown hs25 G9 hs25.size (fun k e => by cases e; exact lC)
   refine Disk.z_skip 8 (w' := wn25.setRow C #[.slice (some ⟨g1, 0, none⟩) n1 c1, .slice oa n2 oc, .slice (some ⟨g2, 0, none⟩) n3 c3, .int .i64 z1, .int .i64 z2, .int .i64 z3, .bool bz, .int .i64 z4, .slice (some ⟨g3, 0, none⟩) n4 c4, .slice (some ⟨gr, 0, none⟩) (rchL h).length cr, .map (some M), .int .i64 0]) rfl rfl (by kernel_rfl) (by rfl) (exec_storeQ rfl rfl rfl run9) (.inr hs9) ?_
   refine Disk.z_done (by kernel_rfl) ?_ _
   exact hQ _ M gr cr C _ _ _ _ _ _ _ hs9 ((Grew.grown G9).mp MPm (fun e => nMC (Option.some.inj e).symm)) (Rm.grown G9 (fun e => ngC (Option.some.inj e))) F9 lM lgr' lC nMg nMC ngC
 ·obtain ⟨wn26, C, ew, eC, hbt, RC⟩ : ∃ wa C, wa = wd.alloc (.cells #[.slice none 0 0, .slice none 0 0, .slice none 0 0, .int .i64 0, .int .i64 0, .int .i64 0, .bool false, .int .i64 0, .slice none 0 0, .slice none 0 0, .map none, .int .i64 0] 52) /\ C = wd.heap.size /\ Below wd.heap.size wd wa /\ wa.rowIs C 52 12 (fun i => (#[.slice none 0 0, .slice none 0 0, .slice none 0 0, .int .i64 0, .int .i64 0, .int .i64 0, .bool false, .int .i64 0, .slice none 0 0, .slice none 0 0, .map none, .int .i64 0] : Array Value)[i]?.getD undef) := ⟨_, _, rfl, rfl, bel_one _ _, row_any wd #[.slice none 0 0, .slice none 0 0, .slice none 0 0, .int .i64 0, .int .i64 0, .int .i64 0, .bool false, .int .i64 0, .slice none 0 0, .slice none 0 0, .map none, .int .i64 0] 52⟩
  have lC : w2.heap.size <= C := by rw [eC]; exact hs.size
  have hs26 := bel_after hs hbt
  refine o_run 7 6 (v := .pointer (some ⟨C, 0, none⟩)) rfl rfl (by rfl) (w' := wn26) (by subst ew; subst eC; go_simp; first | done | with_reducible rfl) (.inr hs26) ?_
  simp only [zA, zB, zC]
  clear ew eC hs hbt
  refine z_or (i := 2) (j := 5) (by kernel_rfl) ?_ ?_
  ·refine o_call 2 19 rfl rfl (by rfl) (f := 39) (args := #[.agg #[x0, x1, x2, x3, x4, x5, x6, x7]]) (w0 := wn26) (by go_simp) ?_
   refine (TF wn26 hs26).mono ?_
   rintro e wn27 ⟨ov, Mt, nt, rfl, hot, -, -, -, hbt⟩
   replace RC := RC.of_block (hbt.block _ RC.lt)
   have hs27 := bel_after hs26 hbt
   clear hs26 hbt
   refine ⟨_, rfl, .inr hs27, ?_⟩
   simp only [zA, zB, zC]
   have IT := IR_of_owns' hot
   obtain ⟨ta, tc, rfl⟩ := own_shape hot
   clear hot
   refine Disk.zt 3 20 (v := .slice ta (ordF h.words h.roots).length tc) rfl rfl hs27 (fun W' _ => (by kernel_rfl)) ?_
   simp only [zA, zB, zC]
   refine z_or (i := 4) (j := 5) (by kernel_rfl) ?_ ?_
   ·refine o_call 4 21 rfl rfl (by rfl) (f := 59) (args := #[.slice ta (ordF h.words h.roots).length tc, .func (.func 60) #[] #[]]) (w0 := wn27) (by go_simp) ?_
    refine (sorted_any _ _ _ wn27 (Nat.le_refl _) IT (by rw [ints_length]; omega)).mono ?_
    rintro e wn28 ⟨⟨gr, cr, mm, rfl, Rm, lgr, pm, qm⟩, hbt⟩
    obtain rfl := srt_eq hk pm qm
    rw [ints_length, ← rch_len hk]
    have ngC : gr ≠ C := by have := RC.lt; omega
    replace RC := RC.of_block (hbt.block _ RC.lt)
    have lgr' : w2.heap.size <= gr := Nat.le_trans hs27.size lgr
    have hs28 := bel_after hs27 hbt
    clear hs27 hbt IT pm qm lgr
    refine ⟨_, rfl, .inr hs28, ?_⟩
    simp only [zA, zB, zC]
    obtain ⟨wn29, M, ew, eM, hbt, MPm⟩ : ∃ wm M, wm = wn28.alloc (.map #[] 0) /\ M = wn28.heap.size /\ Below wn28.heap.size wn28 wm /\ MP wm M 0 (fun _ => none) := ⟨_, _, rfl, rfl, bel_one _ _, MP.made _⟩
    have nMg : M ≠ gr := by have := Rm.lt; omega
    have nMC : M ≠ C := by have := RC.lt; omega
    have lM : w2.heap.size <= M := by rw [eM]; exact hs28.size
    have hs29 := bel_after hs28 hbt
    refine Disk.z_run 5 22 (v := .map (some M)) rfl rfl (by kernel_rfl) (by rfl) (w' := wn29) (by subst ew; subst eM; go_simp; first | done | with_reducible rfl) (.inr hs29) ?_
    simp only [zA, zB, zC]
    replace RC := RC.of_block (hbt.block _ RC.lt)
    replace Rm := Rm.later hbt
    clear ew eM hs28 hbt
    refine Disk.zt 6 23 (v := .agg #[.slice (some ⟨g1, 0, none⟩) n1 c1, .slice oa n2 oc, .slice (some ⟨g2, 0, none⟩) n3 c3, .int .i64 z1, .int .i64 z2, .int .i64 z3, .bool bz, .int .i64 z4, .slice (some ⟨g3, 0, none⟩) n4 c4, .slice (some ⟨gr, 0, none⟩) (rchL h).length cr, .map (some M), .int .i64 0]) rfl rfl hs29 (fun W' _ => (by go_simp; first | done | with_reducible rfl)) ?_
    simp only [zA, zB, zC]
    have run9 := run_store_box wn29 52 52 C 12 #[.slice (some ⟨g1, 0, none⟩) n1 c1, .slice oa n2 oc, .slice (some ⟨g2, 0, none⟩) n3 c3, .int .i64 z1, .int .i64 z2, .int .i64 z3, .bool bz, .int .i64 z4, .slice (some ⟨g3, 0, none⟩) n4 c4, .slice (some ⟨gr, 0, none⟩) (rchL h).length cr, .map (some M), .int .i64 0] _ RC rfl (by kernel_rfl) (by simp [Value.oneCell'])
    have F9 := row_set wn29 C 52 12 #[.slice (some ⟨g1, 0, none⟩) n1 c1, .slice oa n2 oc, .slice (some ⟨g2, 0, none⟩) n3 c3, .int .i64 z1, .int .i64 z2, .int .i64 z3, .bool bz, .int .i64 z4, .slice (some ⟨g3, 0, none⟩) n4 c4, .slice (some ⟨gr, 0, none⟩) (rchL h).length cr, .map (some M), .int .i64 0] _ RC rfl
    have G9 := grown_setRow wn29 C #[.slice (some ⟨g1, 0, none⟩) n1 c1, .slice oa n2 oc, .slice (some ⟨g2, 0, none⟩) n3 c3, .int .i64 z1, .int .i64 z2, .int .i64 z3, .bool bz, .int .i64 z4, .slice (some ⟨g3, 0, none⟩) n4 c4, .slice (some ⟨gr, 0, none⟩) (rchL h).length cr, .map (some M), .int .i64 0]
    have hs9 := Below.grown hs29 G9 hs29.size (fun k e => by cases e; exact lC)
    refine Disk.z_skip 8 (w' := wn29.setRow C #[.slice (some ⟨g1, 0, none⟩) n1 c1, .slice oa n2 oc, .slice (some ⟨g2, 0, none⟩) n3 c3, .int .i64 z1, .int .i64 z2, .int .i64 z3, .bool bz, .int .i64 z4, .slice (some ⟨g3, 0, none⟩) n4 c4, .slice (some ⟨gr, 0, none⟩) (rchL h).length cr, .map (some M), .int .i64 0]) rfl rfl (by kernel_rfl) (by rfl) (exec_storeQ rfl rfl rfl run9) (.inr hs9) ?_
    refine Disk.z_done (by kernel_rfl) ?_ _
    exact hQ _ M gr cr C _ _ _ _ _ _ _ hs9 ((Grew.grown G9).mp MPm (fun e => nMC (Option.some.inj e).symm)) (Rm.grown G9 (fun e => ngC (Option.some.inj e))) F9 lM lgr' lC nMg nMC ngC
   ·obtain ⟨wn30, M, ew, eM, hbt, MPm⟩ : ∃ wm M, wm = wn27.alloc (.map #[] 0) /\ M = wn27.heap.size /\ Below wn27.heap.size wn27 wm /\ MP wm M 0 (fun _ => none) := ⟨_, _, rfl, rfl, bel_one _ _, MP.made _⟩
    have nMC : M ≠ C := by have := RC.lt; omega
    have lM : w2.heap.size <= M := by rw [eM]; exact hs27.size
    have hs30 := bel_after hs27 hbt
    refine o_run 5 22 (v := .map (some M)) rfl rfl (by rfl) (w' := wn30) (by subst ew; subst eM; go_simp; first | done | with_reducible rfl) (.inr hs30) ?_
    simp only [zA, zB, zC]
    replace RC := RC.of_block (hbt.block _ RC.lt)
    replace IT := IT.later hbt
    clear ew eM hs27 hbt
    refine Disk.zc 4 21 rfl rfl (f := 59) (args := #[.slice ta (ordF h.words h.roots).length tc, .func (.func 60) #[] #[]]) (w0 := wn30) ?_
    refine (sorted_any _ _ _ wn30 (Nat.le_refl _) IT (by rw [ints_length]; omega)).mono ?_
    rintro e wn31 ⟨⟨gr, cr, mm, rfl, Rm, lgr, pm, qm⟩, hbt⟩
    obtain rfl := srt_eq hk pm qm
    rw [ints_length, ← rch_len hk]
    have nMg : M ≠ gr := by have := MPm.lt; omega
    have ngC : gr ≠ C := by have := RC.lt; omega
    replace MPm := MPm.later hbt
    replace RC := RC.of_block (hbt.block _ RC.lt)
    have lgr' : w2.heap.size <= gr := Nat.le_trans hs30.size lgr
    have hs31 := bel_after hs30 hbt
    clear hs30 hbt IT pm qm lgr
    refine ⟨_, rfl, .inr hs31, ?_⟩
    simp only [zA, zB, zC]
    refine Disk.zt 6 23 (v := .agg #[.slice (some ⟨g1, 0, none⟩) n1 c1, .slice oa n2 oc, .slice (some ⟨g2, 0, none⟩) n3 c3, .int .i64 z1, .int .i64 z2, .int .i64 z3, .bool bz, .int .i64 z4, .slice (some ⟨g3, 0, none⟩) n4 c4, .slice (some ⟨gr, 0, none⟩) (rchL h).length cr, .map (some M), .int .i64 0]) rfl rfl hs31 (fun W' _ => (by go_simp; first | done | with_reducible rfl)) ?_
    simp only [zA, zB, zC]
    have run9 := run_store_box wn31 52 52 C 12 #[.slice (some ⟨g1, 0, none⟩) n1 c1, .slice oa n2 oc, .slice (some ⟨g2, 0, none⟩) n3 c3, .int .i64 z1, .int .i64 z2, .int .i64 z3, .bool bz, .int .i64 z4, .slice (some ⟨g3, 0, none⟩) n4 c4, .slice (some ⟨gr, 0, none⟩) (rchL h).length cr, .map (some M), .int .i64 0] _ RC rfl (by kernel_rfl) (by simp [Value.oneCell'])
    have F9 := row_set wn31 C 52 12 #[.slice (some ⟨g1, 0, none⟩) n1 c1, .slice oa n2 oc, .slice (some ⟨g2, 0, none⟩) n3 c3, .int .i64 z1, .int .i64 z2, .int .i64 z3, .bool bz, .int .i64 z4, .slice (some ⟨g3, 0, none⟩) n4 c4, .slice (some ⟨gr, 0, none⟩) (rchL h).length cr, .map (some M), .int .i64 0] _ RC rfl
    have G9 := grown_setRow wn31 C #[.slice (some ⟨g1, 0, none⟩) n1 c1, .slice oa n2 oc, .slice (some ⟨g2, 0, none⟩) n3 c3, .int .i64 z1, .int .i64 z2, .int .i64 z3, .bool bz, .int .i64 z4, .slice (some ⟨g3, 0, none⟩) n4 c4, .slice (some ⟨gr, 0, none⟩) (rchL h).length cr, .map (some M), .int .i64 0]
    have hs9 := Below.grown hs31 G9 hs31.size (fun k e => by cases e; exact lC)
    refine Disk.z_skip 8 (w' := wn31.setRow C #[.slice (some ⟨g1, 0, none⟩) n1 c1, .slice oa n2 oc, .slice (some ⟨g2, 0, none⟩) n3 c3, .int .i64 z1, .int .i64 z2, .int .i64 z3, .bool bz, .int .i64 z4, .slice (some ⟨g3, 0, none⟩) n4 c4, .slice (some ⟨gr, 0, none⟩) (rchL h).length cr, .map (some M), .int .i64 0]) rfl rfl (by kernel_rfl) (by rfl) (exec_storeQ rfl rfl rfl run9) (.inr hs9) ?_
    refine Disk.z_done (by kernel_rfl) ?_ _
    exact hQ _ M gr cr C _ _ _ _ _ _ _ hs9 ((Grew.grown G9).mp MPm (fun e => nMC (Option.some.inj e).symm)) (Rm.grown G9 (fun e => ngC (Option.some.inj e))) F9 lM lgr' lC nMg nMC ngC
  ·obtain ⟨wn32, M, ew, eM, hbt, MPm⟩ : ∃ wm M, wm = wn26.alloc (.map #[] 0) /\ M = wn26.heap.size /\ Below wn26.heap.size wn26 wm /\ MP wm M 0 (fun _ => none) := ⟨_, _, rfl, rfl, bel_one _ _, MP.made _⟩
   have nMC : M ≠ C := by have := RC.lt; omega
   have lM : w2.heap.size <= M := by rw [eM]; exact hs26.size
   have hs32 := bel_after hs26 hbt
   refine o_run 5 22 (v := .map (some M)) rfl rfl (by rfl) (w' := wn32) (by subst ew; subst eM; go_simp; first | done | with_reducible rfl) (.inr hs32) ?_
   simp only [zA, zB, zC]
   replace RC := RC.of_block (hbt.block _ RC.lt)
   clear ew eM hs26 hbt
   refine Disk.zc 2 19 rfl rfl (f := 39) (args := #[.agg #[x0, x1, x2, x3, x4, x5, x6, x7]]) (w0 := wn32) ?_
   refine (TF wn32 hs32).mono ?_
   rintro e wn33 ⟨ov, Mt, nt, rfl, hot, -, -, -, hbt⟩
   replace MPm := MPm.later hbt
   replace RC := RC.of_block (hbt.block _ RC.lt)
   have hs33 := bel_after hs32 hbt
   clear hs32 hbt
   refine ⟨_, rfl, .inr hs33, ?_⟩
   simp only [zA, zB, zC]
   have IT := IR_of_owns' hot
   obtain ⟨ta, tc, rfl⟩ := own_shape hot
   clear hot
   refine Disk.zt 3 20 (v := .slice ta (ordF h.words h.roots).length tc) rfl rfl hs33 (fun W' _ => (by kernel_rfl)) ?_
   simp only [zA, zB, zC]
   refine Disk.zc 4 21 rfl rfl (f := 59) (args := #[.slice ta (ordF h.words h.roots).length tc, .func (.func 60) #[] #[]]) (w0 := wn33) ?_
   refine (sorted_any _ _ _ wn33 (Nat.le_refl _) IT (by rw [ints_length]; omega)).mono ?_
   rintro e wn34 ⟨⟨gr, cr, mm, rfl, Rm, lgr, pm, qm⟩, hbt⟩
   obtain rfl := srt_eq hk pm qm
   rw [ints_length, ← rch_len hk]
   have nMg : M ≠ gr := by have := MPm.lt; omega
   have ngC : gr ≠ C := by have := RC.lt; omega
   replace MPm := MPm.later hbt
   replace RC := RC.of_block (hbt.block _ RC.lt)
   have lgr' : w2.heap.size <= gr := Nat.le_trans hs33.size lgr
   have hs34 := bel_after hs33 hbt
   clear hs33 hbt IT pm qm lgr
   refine ⟨_, rfl, .inr hs34, ?_⟩
   simp only [zA, zB, zC]
   refine Disk.zt 6 23 (v := .agg #[.slice (some ⟨g1, 0, none⟩) n1 c1, .slice oa n2 oc, .slice (some ⟨g2, 0, none⟩) n3 c3, .int .i64 z1, .int .i64 z2, .int .i64 z3, .bool bz, .int .i64 z4, .slice (some ⟨g3, 0, none⟩) n4 c4, .slice (some ⟨gr, 0, none⟩) (rchL h).length cr, .map (some M), .int .i64 0]) rfl rfl hs34 (fun W' _ => (by go_simp; first | done | with_reducible rfl)) ?_
   simp only [zA, zB, zC]
   have run9 := run_store_box wn34 52 52 C 12 #[.slice (some ⟨g1, 0, none⟩) n1 c1, .slice oa n2 oc, .slice (some ⟨g2, 0, none⟩) n3 c3, .int .i64 z1, .int .i64 z2, .int .i64 z3, .bool bz, .int .i64 z4, .slice (some ⟨g3, 0, none⟩) n4 c4, .slice (some ⟨gr, 0, none⟩) (rchL h).length cr, .map (some M), .int .i64 0] _ RC rfl (by kernel_rfl) (by simp [Value.oneCell'])
   have F9 := row_set wn34 C 52 12 #[.slice (some ⟨g1, 0, none⟩) n1 c1, .slice oa n2 oc, .slice (some ⟨g2, 0, none⟩) n3 c3, .int .i64 z1, .int .i64 z2, .int .i64 z3, .bool bz, .int .i64 z4, .slice (some ⟨g3, 0, none⟩) n4 c4, .slice (some ⟨gr, 0, none⟩) (rchL h).length cr, .map (some M), .int .i64 0] _ RC rfl
   have G9 := grown_setRow wn34 C #[.slice (some ⟨g1, 0, none⟩) n1 c1, .slice oa n2 oc, .slice (some ⟨g2, 0, none⟩) n3 c3, .int .i64 z1, .int .i64 z2, .int .i64 z3, .bool bz, .int .i64 z4, .slice (some ⟨g3, 0, none⟩) n4 c4, .slice (some ⟨gr, 0, none⟩) (rchL h).length cr, .map (some M), .int .i64 0]
   have hs9 := Below.grown hs34 G9 hs34.size (fun k e => by cases e; exact lC)
   refine Disk.z_skip 8 (w' := wn34.setRow C #[.slice (some ⟨g1, 0, none⟩) n1 c1, .slice oa n2 oc, .slice (some ⟨g2, 0, none⟩) n3 c3, .int .i64 z1, .int .i64 z2, .int .i64 z3, .bool bz, .int .i64 z4, .slice (some ⟨g3, 0, none⟩) n4 c4, .slice (some ⟨gr, 0, none⟩) (rchL h).length cr, .map (some M), .int .i64 0]) rfl rfl (by kernel_rfl) (by rfl) (exec_storeQ rfl rfl rfl run9) (.inr hs9) ?_
   refine Disk.z_done (by kernel_rfl) ?_ _
   exact hQ _ M gr cr C _ _ _ _ _ _ _ hs9 ((Grew.grown G9).mp MPm (fun e => nMC (Option.some.inj e).symm)) (Rm.grown G9 (fun e => ngC (Option.some.inj e))) F9 lM lgr' lC nMg nMC ngC
end Go.Proofs.YthdffigckohpoaaGreat
