import Derived.Test.YtgacacbncefeaaaGreatZV5
import Derived.Test.YtgacacbncefeaaaGreatZV2
import Derived.Test.YtgacacbncefeaaaGreatZMApp
import Derived.Test.YtgacacbncefeaaaGreatZV3
/- VmOk of the model. -/
namespace Go.Proofs.YtgacacbncefeaaaGreat
open Go.RowKit

theorem and_f1 {a b : Bool} (h : a = false) : (a && b) = false := by rw [h]; rfl
theorem and_f2 {a b : Bool} (h : b = false) : (a && b) = false := by rw [h]; cases a <;> rfl
/-- Whether the fields of the object at a are a stack, in plain numbers. -/
theorem stk_val {h : Hp} (hk : okC h = true) {a : Nat} (ha : a ∈ obC h) (g : gw h.words a = 40) :
    (gw h.words (a + 4) % 2 = 1 → stkB (flds h.words a) = false) ∧
    (gw h.words (a + 4) % 2 = 0 → ¬ (0 ≤ gw h.words (a + 4) / 2 ∧ gw h.words (a + 4) / 2 ≤ 39) → stkB (flds h.words a) = false) ∧
    (gw h.words (a + 4) % 2 = 0 → ∀ m : Nat, gw h.words (a + 4) / 2 = m → m ≤ 39 → (∀ k, m + 1 ≤ k → k < 40 → gw h.words (a + 4 + k) = 0) → stkB (flds h.words a) = true) ∧
    (gw h.words (a + 4) % 2 = 0 → ∀ m : Nat, gw h.words (a + 4) / 2 = m → m ≤ 39 → ∀ k, m + 1 ≤ k → k < 40 → gw h.words (a + 4 + k) ≠ 0 → stkB (flds h.words a) = false) := by
  have RG := c_right hk
  have F := RG.2.2.2.2.2.2.2.1 a ha (a + 4) (Nat.le_refl _) (by unfold nx; rw [g]; show a + 4 < a + 4 + 40; omega)
  have L : (flds h.words a).length = 40 := by rw [flds_len, g]; rfl
  have G : ∀ i, i < 40 → (flds h.words a).getD i 0 = gw h.words (a + 4 + i) := fun i hi => flds_get _ _ _ (by rw [g]; exact hi)
  have G0 : (flds h.words a).getD 0 0 = gw h.words (a + 4) := by rw [G 0 (by omega)]
  have KE : gw h.words (a + 4) % 2 = 0 → isK 1 (gw h.words (a + 4)) = true ∧ valK 1 (gw h.words (a + 4)) = gw h.words (a + 4) / 2 := fun e => by
    have k1 : kindW (gw h.words (a + 4)) = 1 := by
      unfold fitB at F
      have n2 : ¬ kindW (gw h.words (a + 4)) = 2 := by
        unfold kindW
        rw [if_neg (by omega)]
        split <;> omega
      rw [decide_eq_false n2] at F
      simpa using F
    exact ⟨by unfold isK; exact decide_eq_true k1, by unfold valK; rw [if_pos k1]⟩
  refine ⟨fun e => ?_, fun e n => ?_, fun e m hm m39 hz => ?_, fun e m hm m39 k k1 k2 hz => ?_⟩
  · unfold stkB
    rw [G0, show isK 1 (gw h.words (a + 4)) = false from by
      unfold isK kindW
      rw [if_pos e]
      split <;> decide]
    rfl
  · unfold stkB
    rw [G0, (KE e).2]
    by_cases h0 : 0 ≤ gw h.words (a + 4) / 2
    · rw [decide_eq_false (by omega : ¬ gw h.words (a + 4) / 2 ≤ 39)]
      simp
    · rw [decide_eq_false h0]
      simp
  · unfold stkB
    rw [G0, (KE e).1, (KE e).2, hm, decide_eq_true (by omega : (0 : Int) ≤ (m : Int)), decide_eq_true (by omega : (m : Int) ≤ 39), Int.toNat_natCast]
    simp only [Bool.true_and]
    rw [List.all_eq_true]
    intro x hx
    obtain ⟨i, hi, rfl⟩ := List.getElem_of_mem hx
    rw [List.length_drop, L] at hi
    have q := G (m + 1 + i) (by omega)
    rw [hz (m + 1 + i) (by omega) (by omega)] at q
    rw [List.getElem_drop]
    have q2 : (flds h.words a)[m + 1 + i]'(by rw [L]; omega) = 0 := by
      rw [← q, List.getD_eq_getElem?_getD, List.getElem?_eq_getElem]
      rfl
    rw [q2]
    rfl
  · unfold stkB
    refine and_f2 (and_f2 (and_f2 ?_))
    rw [G0, (KE e).2, hm, Int.toNat_natCast, Bool.eq_false_iff]
    intro hall
    have q := G k k2
    have hx := List.all_eq_true.1 hall ((flds h.words a).getD k 0) (by
      have : (flds h.words a).getD k 0 = ((flds h.words a).drop (m + 1))[k - (m + 1)]'(by rw [List.length_drop, L]; omega) := by
        rw [List.getElem_drop, List.getD_eq_getElem?_getD, List.getElem?_eq_getElem (by rw [L]; exact k2)]
        show (flds h.words a)[k] = _
        congr 1
        omega
      rw [this]
      exact List.getElem_mem _)
    rw [q] at hx
    exact hz (by simpa using hx)
theorem fld_bnd {h : Hp} (hk : okC h = true) {a : Nat} (ha : a ∈ obC h) (g : gw h.words a = 40) : -3000000000 ≤ gw h.words (a + 4) ∧ gw h.words (a + 4) ≤ 3000000000 := by
  have RG := c_right hk
  have F := RG.2.2.2.2.2.2.2.1 a ha (a + 4) (Nat.le_refl _) (by unfold nx; rw [g]; show a + 4 < a + 4 + 40; omega)
  generalize gw h.words (a + 4) = x at *
  unfold fitB kindW adrB numB at F
  by_cases o : x % 2 = 1
  · rw [if_pos o] at F
    by_cases q : 0 ≤ x / 2 ∧ x / 2 ≤ 3199
    · omega
    · rw [if_neg (by simpa using q)] at F
      simp at F
  · rw [if_neg o] at F
    by_cases q : -1000000000 ≤ x / 2 ∧ x / 2 ≤ 1000000000
    · omega
    · rw [if_neg (by simpa using q)] at F
      simp at F

end Go.Proofs.YtgacacbncefeaaaGreat

/- VmOk of the model. -/
namespace Go.Proofs.YtgacacbncefeaaaGreat
open Go.RowKit

section
variable {h : Hp} {pr : List Cd} {pc : Int} {ot : List Int} {st : Int}
theorem r_ok (k : okC h = false) : (okM h pr pc ot st && partsB h) = false := by unfold okM; rw [k]; rfl
theorem r_pr (k : progB pr = false) : (okM h pr pc ot st && partsB h) = false := by unfold okM; rw [k]; simp
theorem r_pl (k : placeB pr.length pc = false) : (okM h pr pc ot st && partsB h) = false := by unfold okM; rw [k]; simp
theorem r_ou (k : outB ot = false) : (okM h pr pc ot st && partsB h) = false := by unfold okM; rw [k]; simp
theorem r_st (k : stateB st = false) : (okM h pr pc ot st && partsB h) = false := by unfold okM; rw [k]; simp
theorem r_pt (k : partsB h = false) : (okM h pr pc ot st && partsB h) = false := by rw [k]; simp
theorem p_len (k : ¬ h.roots.length = 2) : partsB h = false := by unfold partsB; rw [decide_eq_false k]; rfl
theorem p_r0 (k : rootB h 0 1 40 = false) : partsB h = false := by unfold partsB; rw [k]; simp
theorem p_r1 (k : rootB h 1 2 10 = false) : partsB h = false := by unfold partsB; rw [k]; simp
theorem p_sk (k : stkB (fldR h 0) = false) : partsB h = false := by unfold partsB; rw [k]; simp
theorem root_no {k n : Nat} {c : Int} (r : refB h (h.roots.getD k 0) = false) : rootB h k c n = false := by unfold rootB; rw [r]; rfl
theorem root_at {k n a : Nat} {c : Int} (r : refB h (h.roots.getD k 0) = true) (e : h.roots.getD k 0 = 2 * (a : Int) + 1) : rootB h k c n = (decide (gw h.words (a + 1) = c) && decide ((gw h.words a).toNat = n)) := by
  unfold rootB
  rw [r, e, show (2 * (a : Int) + 1) / 2 = a from by omega, Int.toNat_natCast]
  rfl
theorem fldR_at {k a : Nat} (e : h.roots.getD k 0 = 2 * (a : Int) + 1) : fldR h k = flds h.words a := by
  unfold fldR
  rw [e, show (2 * (a : Int) + 1) / 2 = a from by omega, Int.toNat_natCast]
end
theorem out_no {ot : List Int} {k : Nat} (hk : k < ot.length) (h : numB (ot.getD k 0) = false) : outB ot = false := by
  unfold outB
  refine and_f2 ?_
  rw [Bool.eq_false_iff]
  intro q
  have := List.all_eq_true.1 q (ot.getD k 0) (by simp [hk])
  rw [this] at h
  cases h
theorem out_yes {ot : List Int} (hl : ot.length ≤ 300) (h : ∀ k, k < ot.length → numB (ot.getD k 0) = true) : outB ot = true := by
  unfold outB
  rw [decide_eq_true hl, Bool.true_and, List.all_eq_true]
  intro x hx
  obtain ⟨i, hi, e⟩ := List.getElem_of_mem hx
  have q := h i hi
  rw [show ot.getD i 0 = x from by simp [hi, e]] at q
  exact q
theorem in_num (x : Int) : (decide (-1000000000 ≤ x) && decide (x ≤ 1000000000)) = numB x := by
  unfold numB
  rw [Bool.eq_iff_iff]
  simp

set_option maxRecDepth 100000 in
set_option maxHeartbeats 6400000 in
theorem specVmOk_any (v1 v2 v3 vp vo : Value) (h : Hp) (pr : List Cd) (pc : Int) (ot : List Int) (st : Int) (w : World) (i1 : IR w v1 h.words) (i2 : IR w v2 h.roots) (i3 : IR w v3 h.kept) (ip : CR w vp pr) (io0 : IR w vo ot)
    (hro : h.roots.length ≤ 1000000000) (hke : h.kept.length ≤ 1000000000) (hp2 : pr.length ≤ 1000000000) (ho2 : ot.length ≤ 1000000000) :
    Calls Tryz.prog 22 #[.agg #[v1, v2, .int .i64 h.old, .int .i64 h.eden, .int .i64 h.surv, .bool h.flip, .int .i64 h.hash, v3, vp, .int .i64 pc, vo, .int .i64 st]] w fun e w' => e = .returned (.bool (okM h pr pc ot st && partsB h)) ∧ Below w.heap.size w w' := by
  obtain ⟨r, hr0⟩ : ∃ r, r = (okM h pr pc ot st && partsB h) := ⟨_, rfl⟩
  rw [← hr0]
  replace hr0 : Hid (r = (okM h pr pc ot st && partsB h)) := hr0
  obtain ⟨a1, c1, rfl, -⟩ := IRs i1
  obtain ⟨a2, c2, rfl, -⟩ := IRs i2
  obtain ⟨a3, c3, rfl, -⟩ := IRs i3
  obtain ⟨ap, cp, rfl, -⟩ := CRs ip
  obtain ⟨ao, co, rfl, -⟩ := IRs io0
  have hb0 : Below w.heap.size w ((w.alloc (.cells #[.slice a1 h.words.length c1, .slice a2 h.roots.length c2, .int .i64 h.old, .int .i64 h.eden, .int .i64 h.surv, .bool h.flip, .int .i64 h.hash, .slice a3 h.kept.length c3, .slice ap pr.length cp, .int .i64 pc, .slice ao ot.length co, .int .i64 st] 30)).alloc (.cells #[.slice a1 h.words.length c1, .slice a2 h.roots.length c2, .int .i64 h.old, .int .i64 h.eden, .int .i64 h.surv, .bool h.flip, .int .i64 h.hash, .slice a3 h.kept.length c3] 28)) := bel_after (bel_one _ _) (bel_one _ _)
  have X0 : ((w.alloc (.cells #[.slice a1 h.words.length c1, .slice a2 h.roots.length c2, .int .i64 h.old, .int .i64 h.eden, .int .i64 h.surv, .bool h.flip, .int .i64 h.hash, .slice a3 h.kept.length c3, .slice ap pr.length cp, .int .i64 pc, .slice ao ot.length co, .int .i64 st] 30)).alloc (.cells #[.slice a1 h.words.length c1, .slice a2 h.roots.length c2, .int .i64 h.old, .int .i64 h.eden, .int .i64 h.surv, .bool h.flip, .int .i64 h.hash, .slice a3 h.kept.length c3] 28)).rowIs w.heap.size 30 12 (fun i => (#[.slice a1 h.words.length c1, .slice a2 h.roots.length c2, .int .i64 h.old, .int .i64 h.eden, .int .i64 h.surv, .bool h.flip, .int .i64 h.hash, .slice a3 h.kept.length c3, .slice ap pr.length cp, .int .i64 pc, .slice ao ot.length co, .int .i64 st])[i]?.getD undef) := (row_any w #[.slice a1 h.words.length c1, .slice a2 h.roots.length c2, .int .i64 h.old, .int .i64 h.eden, .int .i64 h.surv, .bool h.flip, .int .i64 h.hash, .slice a3 h.kept.length c3, .slice ap pr.length cp, .int .i64 pc, .slice ao ot.length co, .int .i64 st] 30).of_block ((bel_one _ _).block _ (by simp))
  have Y0 : ((w.alloc (.cells #[.slice a1 h.words.length c1, .slice a2 h.roots.length c2, .int .i64 h.old, .int .i64 h.eden, .int .i64 h.surv, .bool h.flip, .int .i64 h.hash, .slice a3 h.kept.length c3, .slice ap pr.length cp, .int .i64 pc, .slice ao ot.length co, .int .i64 st] 30)).alloc (.cells #[.slice a1 h.words.length c1, .slice a2 h.roots.length c2, .int .i64 h.old, .int .i64 h.eden, .int .i64 h.surv, .bool h.flip, .int .i64 h.hash, .slice a3 h.kept.length c3] 28)).rowIs (w.heap.size + 1) 28 8 (fun i => (#[.slice a1 h.words.length c1, .slice a2 h.roots.length c2, .int .i64 h.old, .int .i64 h.eden, .int .i64 h.surv, .bool h.flip, .int .i64 h.hash, .slice a3 h.kept.length c3])[i]?.getD undef) := by
    have q := row_any (w.alloc (.cells #[.slice a1 h.words.length c1, .slice a2 h.roots.length c2, .int .i64 h.old, .int .i64 h.eden, .int .i64 h.surv, .bool h.flip, .int .i64 h.hash, .slice a3 h.kept.length c3, .slice ap pr.length cp, .int .i64 pc, .slice ao ot.length co, .int .i64 st] 30)) #[.slice a1 h.words.length c1, .slice a2 h.roots.length c2, .int .i64 h.old, .int .i64 h.eden, .int .i64 h.surv, .bool h.flip, .int .i64 h.hash, .slice a3 h.kept.length c3] 28
    rw [World.size_alloc] at q
    exact q
  have HVH : HR ((w.alloc (.cells #[.slice a1 h.words.length c1, .slice a2 h.roots.length c2, .int .i64 h.old, .int .i64 h.eden, .int .i64 h.surv, .bool h.flip, .int .i64 h.hash, .slice a3 h.kept.length c3, .slice ap pr.length cp, .int .i64 pc, .slice ao ot.length co, .int .i64 st] 30)).alloc (.cells #[.slice a1 h.words.length c1, .slice a2 h.roots.length c2, .int .i64 h.old, .int .i64 h.eden, .int .i64 h.surv, .bool h.flip, .int .i64 h.hash, .slice a3 h.kept.length c3] 28)) (.agg #[.slice a1 h.words.length c1, .slice a2 h.roots.length c2, .int .i64 h.old, .int .i64 h.eden, .int .i64 h.surv, .bool h.flip, .int .i64 h.hash, .slice a3 h.kept.length c3]) h := ⟨_, _, _, rfl, i1.later hb0, i2.later hb0, i3.later hb0⟩
  have C0 := specHeapOk_c _ h _ HVH (by omega) (by omega)
  have xa0 : (w.alloc (.cells #[.slice a1 h.words.length c1, .slice a2 h.roots.length c2, .int .i64 h.old, .int .i64 h.eden, .int .i64 h.surv, .bool h.flip, .int .i64 h.hash, .slice a3 h.kept.length c3, .slice ap pr.length cp, .int .i64 pc, .slice ao ot.length co, .int .i64 st] 30)).cell? ⟨w.heap.size, 0, none⟩ = some (.slice a1 h.words.length c1) := (row_any w #[.slice a1 h.words.length c1, .slice a2 h.roots.length c2, .int .i64 h.old, .int .i64 h.eden, .int .i64 h.surv, .bool h.flip, .int .i64 h.hash, .slice a3 h.kept.length c3, .slice ap pr.length cp, .int .i64 pc, .slice ao ot.length co, .int .i64 st] 30).cell (i := 0) (by simp)
  have xa1 : (w.alloc (.cells #[.slice a1 h.words.length c1, .slice a2 h.roots.length c2, .int .i64 h.old, .int .i64 h.eden, .int .i64 h.surv, .bool h.flip, .int .i64 h.hash, .slice a3 h.kept.length c3, .slice ap pr.length cp, .int .i64 pc, .slice ao ot.length co, .int .i64 st] 30)).cell? ⟨w.heap.size, 1, none⟩ = some (.slice a2 h.roots.length c2) := (row_any w #[.slice a1 h.words.length c1, .slice a2 h.roots.length c2, .int .i64 h.old, .int .i64 h.eden, .int .i64 h.surv, .bool h.flip, .int .i64 h.hash, .slice a3 h.kept.length c3, .slice ap pr.length cp, .int .i64 pc, .slice ao ot.length co, .int .i64 st] 30).cell (i := 1) (by simp)
  have xa2 : (w.alloc (.cells #[.slice a1 h.words.length c1, .slice a2 h.roots.length c2, .int .i64 h.old, .int .i64 h.eden, .int .i64 h.surv, .bool h.flip, .int .i64 h.hash, .slice a3 h.kept.length c3, .slice ap pr.length cp, .int .i64 pc, .slice ao ot.length co, .int .i64 st] 30)).cell? ⟨w.heap.size, 2, none⟩ = some (.int .i64 h.old) := (row_any w #[.slice a1 h.words.length c1, .slice a2 h.roots.length c2, .int .i64 h.old, .int .i64 h.eden, .int .i64 h.surv, .bool h.flip, .int .i64 h.hash, .slice a3 h.kept.length c3, .slice ap pr.length cp, .int .i64 pc, .slice ao ot.length co, .int .i64 st] 30).cell (i := 2) (by simp)
  have xa3 : (w.alloc (.cells #[.slice a1 h.words.length c1, .slice a2 h.roots.length c2, .int .i64 h.old, .int .i64 h.eden, .int .i64 h.surv, .bool h.flip, .int .i64 h.hash, .slice a3 h.kept.length c3, .slice ap pr.length cp, .int .i64 pc, .slice ao ot.length co, .int .i64 st] 30)).cell? ⟨w.heap.size, 3, none⟩ = some (.int .i64 h.eden) := (row_any w #[.slice a1 h.words.length c1, .slice a2 h.roots.length c2, .int .i64 h.old, .int .i64 h.eden, .int .i64 h.surv, .bool h.flip, .int .i64 h.hash, .slice a3 h.kept.length c3, .slice ap pr.length cp, .int .i64 pc, .slice ao ot.length co, .int .i64 st] 30).cell (i := 3) (by simp)
  have xa4 : (w.alloc (.cells #[.slice a1 h.words.length c1, .slice a2 h.roots.length c2, .int .i64 h.old, .int .i64 h.eden, .int .i64 h.surv, .bool h.flip, .int .i64 h.hash, .slice a3 h.kept.length c3, .slice ap pr.length cp, .int .i64 pc, .slice ao ot.length co, .int .i64 st] 30)).cell? ⟨w.heap.size, 4, none⟩ = some (.int .i64 h.surv) := (row_any w #[.slice a1 h.words.length c1, .slice a2 h.roots.length c2, .int .i64 h.old, .int .i64 h.eden, .int .i64 h.surv, .bool h.flip, .int .i64 h.hash, .slice a3 h.kept.length c3, .slice ap pr.length cp, .int .i64 pc, .slice ao ot.length co, .int .i64 st] 30).cell (i := 4) (by simp)
  have xa5 : (w.alloc (.cells #[.slice a1 h.words.length c1, .slice a2 h.roots.length c2, .int .i64 h.old, .int .i64 h.eden, .int .i64 h.surv, .bool h.flip, .int .i64 h.hash, .slice a3 h.kept.length c3, .slice ap pr.length cp, .int .i64 pc, .slice ao ot.length co, .int .i64 st] 30)).cell? ⟨w.heap.size, 5, none⟩ = some (.bool h.flip) := (row_any w #[.slice a1 h.words.length c1, .slice a2 h.roots.length c2, .int .i64 h.old, .int .i64 h.eden, .int .i64 h.surv, .bool h.flip, .int .i64 h.hash, .slice a3 h.kept.length c3, .slice ap pr.length cp, .int .i64 pc, .slice ao ot.length co, .int .i64 st] 30).cell (i := 5) (by simp)
  have xa6 : (w.alloc (.cells #[.slice a1 h.words.length c1, .slice a2 h.roots.length c2, .int .i64 h.old, .int .i64 h.eden, .int .i64 h.surv, .bool h.flip, .int .i64 h.hash, .slice a3 h.kept.length c3, .slice ap pr.length cp, .int .i64 pc, .slice ao ot.length co, .int .i64 st] 30)).cell? ⟨w.heap.size, 6, none⟩ = some (.int .i64 h.hash) := (row_any w #[.slice a1 h.words.length c1, .slice a2 h.roots.length c2, .int .i64 h.old, .int .i64 h.eden, .int .i64 h.surv, .bool h.flip, .int .i64 h.hash, .slice a3 h.kept.length c3, .slice ap pr.length cp, .int .i64 pc, .slice ao ot.length co, .int .i64 st] 30).cell (i := 6) (by simp)
  have xa7 : (w.alloc (.cells #[.slice a1 h.words.length c1, .slice a2 h.roots.length c2, .int .i64 h.old, .int .i64 h.eden, .int .i64 h.surv, .bool h.flip, .int .i64 h.hash, .slice a3 h.kept.length c3, .slice ap pr.length cp, .int .i64 pc, .slice ao ot.length co, .int .i64 st] 30)).cell? ⟨w.heap.size, 7, none⟩ = some (.slice a3 h.kept.length c3) := (row_any w #[.slice a1 h.words.length c1, .slice a2 h.roots.length c2, .int .i64 h.old, .int .i64 h.eden, .int .i64 h.surv, .bool h.flip, .int .i64 h.hash, .slice a3 h.kept.length c3, .slice ap pr.length cp, .int .i64 pc, .slice ao ot.length co, .int .i64 st] 30).cell (i := 7) (by simp)
  have ya0 : ((w.alloc (.cells #[.slice a1 h.words.length c1, .slice a2 h.roots.length c2, .int .i64 h.old, .int .i64 h.eden, .int .i64 h.surv, .bool h.flip, .int .i64 h.hash, .slice a3 h.kept.length c3, .slice ap pr.length cp, .int .i64 pc, .slice ao ot.length co, .int .i64 st] 30)).alloc (.cells #[.slice a1 h.words.length c1, .slice a2 h.roots.length c2, .int .i64 h.old, .int .i64 h.eden, .int .i64 h.surv, .bool h.flip, .int .i64 h.hash, .slice a3 h.kept.length c3] 28)).cell? ⟨w.heap.size + 1, 0, none⟩ = some (.slice a1 h.words.length c1) := Y0.cell (i := 0) (by omega)
  have ya1 : ((w.alloc (.cells #[.slice a1 h.words.length c1, .slice a2 h.roots.length c2, .int .i64 h.old, .int .i64 h.eden, .int .i64 h.surv, .bool h.flip, .int .i64 h.hash, .slice a3 h.kept.length c3, .slice ap pr.length cp, .int .i64 pc, .slice ao ot.length co, .int .i64 st] 30)).alloc (.cells #[.slice a1 h.words.length c1, .slice a2 h.roots.length c2, .int .i64 h.old, .int .i64 h.eden, .int .i64 h.surv, .bool h.flip, .int .i64 h.hash, .slice a3 h.kept.length c3] 28)).cell? ⟨w.heap.size + 1, 1, none⟩ = some (.slice a2 h.roots.length c2) := Y0.cell (i := 1) (by omega)
  have ya2 : ((w.alloc (.cells #[.slice a1 h.words.length c1, .slice a2 h.roots.length c2, .int .i64 h.old, .int .i64 h.eden, .int .i64 h.surv, .bool h.flip, .int .i64 h.hash, .slice a3 h.kept.length c3, .slice ap pr.length cp, .int .i64 pc, .slice ao ot.length co, .int .i64 st] 30)).alloc (.cells #[.slice a1 h.words.length c1, .slice a2 h.roots.length c2, .int .i64 h.old, .int .i64 h.eden, .int .i64 h.surv, .bool h.flip, .int .i64 h.hash, .slice a3 h.kept.length c3] 28)).cell? ⟨w.heap.size + 1, 2, none⟩ = some (.int .i64 h.old) := Y0.cell (i := 2) (by omega)
  have ya3 : ((w.alloc (.cells #[.slice a1 h.words.length c1, .slice a2 h.roots.length c2, .int .i64 h.old, .int .i64 h.eden, .int .i64 h.surv, .bool h.flip, .int .i64 h.hash, .slice a3 h.kept.length c3, .slice ap pr.length cp, .int .i64 pc, .slice ao ot.length co, .int .i64 st] 30)).alloc (.cells #[.slice a1 h.words.length c1, .slice a2 h.roots.length c2, .int .i64 h.old, .int .i64 h.eden, .int .i64 h.surv, .bool h.flip, .int .i64 h.hash, .slice a3 h.kept.length c3] 28)).cell? ⟨w.heap.size + 1, 3, none⟩ = some (.int .i64 h.eden) := Y0.cell (i := 3) (by omega)
  have ya4 : ((w.alloc (.cells #[.slice a1 h.words.length c1, .slice a2 h.roots.length c2, .int .i64 h.old, .int .i64 h.eden, .int .i64 h.surv, .bool h.flip, .int .i64 h.hash, .slice a3 h.kept.length c3, .slice ap pr.length cp, .int .i64 pc, .slice ao ot.length co, .int .i64 st] 30)).alloc (.cells #[.slice a1 h.words.length c1, .slice a2 h.roots.length c2, .int .i64 h.old, .int .i64 h.eden, .int .i64 h.surv, .bool h.flip, .int .i64 h.hash, .slice a3 h.kept.length c3] 28)).cell? ⟨w.heap.size + 1, 4, none⟩ = some (.int .i64 h.surv) := Y0.cell (i := 4) (by omega)
  have ya5 : ((w.alloc (.cells #[.slice a1 h.words.length c1, .slice a2 h.roots.length c2, .int .i64 h.old, .int .i64 h.eden, .int .i64 h.surv, .bool h.flip, .int .i64 h.hash, .slice a3 h.kept.length c3, .slice ap pr.length cp, .int .i64 pc, .slice ao ot.length co, .int .i64 st] 30)).alloc (.cells #[.slice a1 h.words.length c1, .slice a2 h.roots.length c2, .int .i64 h.old, .int .i64 h.eden, .int .i64 h.surv, .bool h.flip, .int .i64 h.hash, .slice a3 h.kept.length c3] 28)).cell? ⟨w.heap.size + 1, 5, none⟩ = some (.bool h.flip) := Y0.cell (i := 5) (by omega)
  have ya6 : ((w.alloc (.cells #[.slice a1 h.words.length c1, .slice a2 h.roots.length c2, .int .i64 h.old, .int .i64 h.eden, .int .i64 h.surv, .bool h.flip, .int .i64 h.hash, .slice a3 h.kept.length c3, .slice ap pr.length cp, .int .i64 pc, .slice ao ot.length co, .int .i64 st] 30)).alloc (.cells #[.slice a1 h.words.length c1, .slice a2 h.roots.length c2, .int .i64 h.old, .int .i64 h.eden, .int .i64 h.surv, .bool h.flip, .int .i64 h.hash, .slice a3 h.kept.length c3] 28)).cell? ⟨w.heap.size + 1, 6, none⟩ = some (.int .i64 h.hash) := Y0.cell (i := 6) (by omega)
  have ya7 : ((w.alloc (.cells #[.slice a1 h.words.length c1, .slice a2 h.roots.length c2, .int .i64 h.old, .int .i64 h.eden, .int .i64 h.surv, .bool h.flip, .int .i64 h.hash, .slice a3 h.kept.length c3, .slice ap pr.length cp, .int .i64 pc, .slice ao ot.length co, .int .i64 st] 30)).alloc (.cells #[.slice a1 h.words.length c1, .slice a2 h.roots.length c2, .int .i64 h.old, .int .i64 h.eden, .int .i64 h.surv, .bool h.flip, .int .i64 h.hash, .slice a3 h.kept.length c3] 28)).cell? ⟨w.heap.size + 1, 7, none⟩ = some (.slice a3 h.kept.length c3) := Y0.cell (i := 7) (by omega)
  have xp : ((w.alloc (.cells #[.slice a1 h.words.length c1, .slice a2 h.roots.length c2, .int .i64 h.old, .int .i64 h.eden, .int .i64 h.surv, .bool h.flip, .int .i64 h.hash, .slice a3 h.kept.length c3, .slice ap pr.length cp, .int .i64 pc, .slice ao ot.length co, .int .i64 st] 30)).alloc (.cells #[.slice a1 h.words.length c1, .slice a2 h.roots.length c2, .int .i64 h.old, .int .i64 h.eden, .int .i64 h.surv, .bool h.flip, .int .i64 h.hash, .slice a3 h.kept.length c3] 28)).cell? ⟨w.heap.size, 8, none⟩ = some (.slice ap pr.length cp) := X0.cell (i := 8) (by omega)
  have HPR : ∀ W, Below w.heap.size w W → CR W (.slice ap pr.length cp) pr := fun W hb => ip.later hb
  clear HVH
  go_enter Tryz.func22, Tryz.ntmps22
  go_wp2_with fail
  refine C0.mono ?_
  clear C0 xa0 ya0 xa1 ya1 xa2 ya2 xa3 ya3 xa4 ya4 xa5 ya5 xa6 ya6 xa7 ya7 xp
  rintro e w1 ⟨rfl, hb1⟩
  have bw1 := bel_after hb0 hb1
  have X1 := X0.of_block (hb1.block _ X0.lt)
  have Y1 := Y0.of_block (hb1.block _ Y0.lt)
  clear X0 Y0 hb1 hb0
  cases hk : okC h
  case false =>
    have R : Hid (r = false) := hr0.out.trans (r_ok hk)
    clear hk hr0 X1 Y1 HPR
    go_wp2
    go_ret
    exact ⟨wret_bool R.out.symm, bw1⟩
  have xp := X1.cell (i := 8) (by omega)
  have C1 := specProgB_any (.slice ap pr.length cp) pr w1 (HPR _ bw1) hp2
  go_wp2_with fail
  refine C1.mono ?_
  clear C1 xp
  rintro e w2 ⟨rfl, hb2⟩
  have bw2 := bel_after bw1 hb2
  have X2 := X1.of_block (hb2.block _ X1.lt)
  have Y2 := Y1.of_block (hb2.block _ Y1.lt)
  clear X1 Y1 hb2 bw1 HPR
  cases PRG : progB pr
  case false =>
    have R : Hid (r = false) := hr0.out.trans (r_pr PRG)
    clear hk PRG hr0 X2 Y2
    go_wp2
    go_ret
    exact ⟨wret_bool R.out.symm, bw2⟩
  have RG := c_right hk
  have HL : h.words.length = 3200 := RG.1.1
  have I1 := i1.later bw2
  have I2 := i2.later bw2
  have IO := io0.later bw2
  obtain ⟨b1, o1, cc1, e1, hcc, WSa⟩ := I1.ws (by omega)
  simp only [Value.slice.injEq] at e1
  obtain ⟨rfl, -, rfl⟩ := e1
  have ya0 := Y2.cell (i := 0) (by omega)
  have ya1 := Y2.cell (i := 1) (by omega)
  rw [HL] at ya0
  by_cases hl2 : h.roots.length = 2
  case neg =>
    have R : Hid (r = false) := hr0.out.trans (r_pt (p_len hl2))
    have d : ((h.roots.length : Int) != 2) = true := by rw [bne_iff_ne]; omega
    clear hk PRG hr0 X2 RG WSa I1 I2 IO
    go_wp2
    go_ret
    exact ⟨wret_bool R.out.symm, bw2⟩
  have PP := parts_of hk hl2
  obtain ⟨ra, rc, re, rle, hrc⟩ := I2
  simp only [Value.slice.injEq, true_and] at re
  obtain ⟨rfl, rfl⟩ := re
  obtain ⟨b2, o2, rfl, r0⟩ := hrc 0 (by omega)
  obtain ⟨b2', o2', re2, r1⟩ := hrc 1 (by omega)
  simp only [Option.some.injEq, Addr.mk.injEq, and_true] at re2
  obtain ⟨rfl, rfl⟩ := re2
  rw [Nat.add_zero] at r0
  have P0 := PP 0 (by omega)
  have P1 := PP 1 (by omega)
  rw [hl2] at ya1
  clear PP hrc
  have d2 : ((2 : Int) != 2) = false := by decide
  rcases P0 with ⟨_, o0, rf0, a, ea, ha, ha1, ha2, ha3⟩ | ⟨_, ev, rf0⟩
  case inr =>
    have R : Hid (r = false) := hr0.out.trans (r_pt (p_r0 (root_no rf0)))
    have tm : ((h.roots.getD 0 0).tmod 2 == 0) = true := by rw [tmod_two, decide_eq_true ev]
    clear hk PRG hr0 X2 RG WSa I1 IO P1
    generalize h.roots.getD 0 0 = x0 at *
    go_wp2
    go_ret
    exact ⟨wret_bool R.out.symm, bw2⟩
  have tm0 : ((h.roots.getD 0 0).tmod 2 == 0) = false := by rw [tmod_two, decide_eq_false (by omega)]
  rcases P1 with ⟨_, o1', rf1, b, eb, hb, hb1, hb2, hb3⟩ | ⟨_, ev, rf1⟩
  case inr =>
    have R : Hid (r = false) := hr0.out.trans (r_pt (p_r1 (root_no rf1)))
    have tm1 : ((h.roots.getD 1 0).tmod 2 == 0) = true := by rw [tmod_two, decide_eq_true ev]
    clear hk PRG hr0 X2 RG WSa I1 IO ea
    generalize h.roots.getD 0 0 = x0 at *
    generalize h.roots.getD 1 0 = x1 at *
    go_wp2
    go_ret
    exact ⟨wret_bool R.out.symm, bw2⟩
  have tm1 : ((h.roots.getD 1 0).tmod 2 == 0) = false := by rw [tmod_two, decide_eq_false (by omega)]
  have td0 : (h.roots.getD 0 0).tdiv 2 = (a : Int) := by rw [tdiv_pos (by omega)]; omega
  have td1 : (h.roots.getD 1 0).tdiv 2 = (b : Int) := by rw [tdiv_pos (by omega)]; omega
  have w0a : IntKind.i64.wrap (a : Int) = a := by rw [IntKind.wrap_i64]; omega
  have w0b : IntKind.i64.wrap (b : Int) = b := by rw [IntKind.wrap_i64]; omega
  have RA := root_at (n := 40) (c := 1) rf0 ea
  have RB := root_at (n := 10) (c := 2) rf1 eb
  have FA := fldR_at ea
  have RC0 : Hid (¬ gw h.words (a + 1) = 1 → r = false) := fun q => hr0.out.trans (r_pt (p_r0 (by rw [RA, decide_eq_false q]; rfl)))
  have RC1 : Hid (¬ gw h.words a = 40 → r = false) := fun q => hr0.out.trans (r_pt (p_r0 (by rw [RA, decide_eq_false (by omega : ¬ (gw h.words a).toNat = 40)]; simp)))
  have RC2 : Hid (¬ gw h.words (b + 1) = 2 → r = false) := fun q => hr0.out.trans (r_pt (p_r1 (by rw [RB, decide_eq_false q]; rfl)))
  have RC3 : Hid (¬ gw h.words b = 10 → r = false) := fun q => hr0.out.trans (r_pt (p_r1 (by rw [RB, decide_eq_false (by omega : ¬ (gw h.words b).toNat = 10)]; simp)))
  have SV : Hid (gw h.words a = 40 → _) := fun q => stk_val hk ha q
  have FB : Hid (gw h.words a = 40 → _) := fun q => fld_bnd hk ha q
  have YES : Hid (gw h.words (a + 1) = 1 → gw h.words a = 40 → gw h.words (b + 1) = 2 → gw h.words b = 10 → stkB (flds h.words a) = true → placeB pr.length pc = true → outB ot = true → stateB st = true → r = true) := fun q1 q2 q3 q4 q5 q6 q7 q8 => by
    rw [hr0.out]
    unfold okM partsB
    rw [hk, PRG, q6, q7, q8, RA, RB, FA, q5, q1, q2, q3, q4, hl2]
    rfl
  have NSK : Hid (stkB (flds h.words a) = false → r = false) := fun q => hr0.out.trans (r_pt (p_sk (by rw [FA]; exact q)))
  have NPL : Hid (placeB pr.length pc = false → r = false) := fun q => hr0.out.trans (r_pl q)
  have NOU : Hid (outB ot = false → r = false) := fun q => hr0.out.trans (r_ou q)
  have NST : Hid (stateB st = false → r = false) := fun q => hr0.out.trans (r_st q)
  have ca1 := WSa (a + 1) (by omega)
  have ca0 := WSa a (by omega)
  have cb1 := WSa (b + 1) (by omega)
  have cb0 := WSa b (by omega)
  have CK : Hid (∀ k : Nat, gw h.words a = 40 → k < 40 → w2.cell? ⟨b1, o1 + (a + 4 + k), none⟩ = some (.int .i64 (gw h.words (a + 4 + k))) ∧ a + 4 + k < 3200) := fun k q hk2 => by
    have : nx h.words a = a + 4 + 40 := by unfold nx; rw [q]; rfl
    exact ⟨WSa (a + 4 + k) (by omega), by omega⟩
  have xpc := X2.cell (i := 9) (by omega)
  have xpr := X2.cell (i := 8) (by omega)
  have xot := X2.cell (i := 10) (by omega)
  have xst := X2.cell (i := 11) (by omega)
  have STK := (fun m : Nat => gw h.words (a + 4 + m))
  replace ea : Hid (h.roots.getD 0 0 = 2 * (a : Int) + 1) := ea
  replace eb : Hid (h.roots.getD 1 0 = 2 * (b : Int) + 1) := eb
  clear hk PRG hr0 RG WSa I1 X2 Y2 o0 o1' rf0 rf1 RA RB FA ha hb STK
  generalize h.roots.getD 0 0 = x0 at *
  generalize h.roots.getD 1 0 = x1 at *
  clear ea eb
  have HB := fun x lo hi W => qIn_any x lo hi W
  by_cases q1 : gw h.words (a + 1) = 1
  case neg =>
    have dq1 : (gw h.words (a + 1) != 1) = true := by rw [bne_iff_ne]; exact q1
    have R : Hid (r = false) := RC0.out q1
    replace q1 : Hid (¬ gw h.words (a + 1) = 1) := q1
    clear FB RC0 RC1 RC2 RC3 SV YES NSK NPL NOU NST CK HB q1
    generalize gw h.words (a + 1) = y1 at *
    generalize gw h.words (b + 1) = z1 at *
    generalize gw h.words (a + 4) = y4 at *
    generalize gw h.words a = y0 at *
    generalize gw h.words b = z0 at *
    go_wp2
    go_ret
    exact ⟨wret_bool R.out.symm, bw2⟩
  have dq1 : (gw h.words (a + 1) != 1) = false := by rw [q1]; decide
  by_cases q2 : gw h.words a = 40
  case neg =>
    have dq2 : (gw h.words a != 40) = true := by rw [bne_iff_ne]; exact q2
    have R : Hid (r = false) := RC1.out q2
    replace q2 : Hid (¬ gw h.words a = 40) := q2
    clear FB RC0 RC1 RC2 RC3 SV YES NSK NPL NOU NST CK HB q2
    generalize gw h.words (a + 1) = y1 at *
    generalize gw h.words (b + 1) = z1 at *
    generalize gw h.words (a + 4) = y4 at *
    generalize gw h.words a = y0 at *
    generalize gw h.words b = z0 at *
    go_wp2
    go_ret
    exact ⟨wret_bool R.out.symm, bw2⟩
  have dq2 : (gw h.words a != 40) = false := by rw [q2]; decide
  by_cases q3 : gw h.words (b + 1) = 2
  case neg =>
    have dq3 : (gw h.words (b + 1) != 2) = true := by rw [bne_iff_ne]; exact q3
    have R : Hid (r = false) := RC2.out q3
    replace q3 : Hid (¬ gw h.words (b + 1) = 2) := q3
    clear FB RC0 RC1 RC2 RC3 SV YES NSK NPL NOU NST CK HB q3
    generalize gw h.words (a + 1) = y1 at *
    generalize gw h.words (b + 1) = z1 at *
    generalize gw h.words (a + 4) = y4 at *
    generalize gw h.words a = y0 at *
    generalize gw h.words b = z0 at *
    go_wp2
    go_ret
    exact ⟨wret_bool R.out.symm, bw2⟩
  have dq3 : (gw h.words (b + 1) != 2) = false := by rw [q3]; decide
  by_cases q4 : gw h.words b = 10
  case neg =>
    have dq4 : (gw h.words b != 10) = true := by rw [bne_iff_ne]; exact q4
    have R : Hid (r = false) := RC3.out q4
    replace q4 : Hid (¬ gw h.words b = 10) := q4
    clear FB RC0 RC1 RC2 RC3 SV YES NSK NPL NOU NST CK HB q4
    generalize gw h.words (a + 1) = y1 at *
    generalize gw h.words (b + 1) = z1 at *
    generalize gw h.words (a + 4) = y4 at *
    generalize gw h.words a = y0 at *
    generalize gw h.words b = z0 at *
    go_wp2
    go_ret
    exact ⟨wret_bool R.out.symm, bw2⟩
  have dq4 : (gw h.words b != 10) = false := by rw [q4]; decide
  obtain ⟨s1, s2, s3, s4⟩ := SV.out q2
  have fb := FB.out q2
  have YES2 : Hid (stkB (flds h.words a) = true → placeB pr.length pc = true → outB ot = true → stateB st = true → r = true) := fun u => YES.out q1 q2 q3 q4 u
  have CK2 : Hid (∀ k : Nat, k < 40 → w2.cell? ⟨b1, o1 + (a + 4 + k), none⟩ = some (.int .i64 (gw h.words (a + 4 + k))) ∧ a + 4 + k < 3200) := fun k hk2 => CK.out k q2 hk2
  have ca4 := (CK2.out 0 (by omega)).1
  have ha44 : a + 4 < 3200 := by have := (CK2.out 0 (by omega)).2; omega
  rw [Nat.add_zero] at ca4
  replace s1 : Hid _ := s1
  replace s2 : Hid _ := s2
  replace s3 : Hid _ := s3
  replace s4 : Hid _ := s4
  clear FB RC0 RC1 RC2 RC3 SV YES CK
  rw [q1] at ca1 dq1
  rw [q2] at ca0 dq2
  rw [q3] at cb1 dq3
  rw [q4] at cb0 dq4
  clear q1 q2 q3 q4 ha3 hb3
  generalize hsk : stkB (flds h.words a) = sk at *
  clear hsk
  replace ha2 : Hid (nx h.words a ≤ 3200) := ha2
  replace hb2 : Hid (nx h.words b ≤ 3200) := hb2
  by_cases hd : gw h.words (a + 4) % 2 = 0
  case neg =>
    have tm : ((gw h.words (a + 4)).tmod 2 != 0) = true := by rw [bne, tmod_two, decide_eq_false hd]; rfl
    have R : Hid (r = false) := NSK.out (s1.out (by omega))
    clear s1 s2 s3 s4 YES2 NSK NPL NOU NST CK2 HB hd
    generalize gw h.words (a + 4) = y4 at *
    go_wp2
    go_ret
    exact ⟨wret_bool R.out.symm, bw2⟩
  have tm : ((gw h.words (a + 4)).tmod 2 != 0) = false := by rw [bne, tmod_two, decide_eq_true hd]; rfl
  have td := tdiv_even hd
  have wm : IntKind.i64.wrap (gw h.words (a + 4) / 2) = gw h.words (a + 4) / 2 := by rw [IntKind.wrap_i64]; omega
  by_cases hr : 0 ≤ gw h.words (a + 4) / 2 ∧ gw h.words (a + 4) / 2 ≤ 39
  case neg =>
    have R : Hid (r = false) := NSK.out (s2.out hd hr)
    have HI := fun W => HB (gw h.words (a + 4) / 2) 0 39 W
    rw [show (decide (0 ≤ gw h.words (a + 4) / 2) && decide (gw h.words (a + 4) / 2 ≤ 39)) = false from by rw [← Bool.decide_and]; exact decide_eq_false hr] at HI
    clear s1 s2 s3 s4 YES2 NSK NPL NOU NST CK2 HB hd hr
    generalize gw h.words (a + 4) / 2 = m at *
    generalize gw h.words (a + 4) = y4 at *
    go_wp2_with (go_at_call 55; refine (HI _).mono ?_; rintro e wq ⟨rfl, hq⟩; obtain rfl := hq.symm)
    go_ret
    exact ⟨wret_bool R.out.symm, bw2⟩
  have HI := fun W => HB (gw h.words (a + 4) / 2) 0 39 W
  rw [show (decide (0 ≤ gw h.words (a + 4) / 2) && decide (gw h.words (a + 4) / 2 ≤ 39)) = true from by rw [← Bool.decide_and]; exact decide_eq_true hr] at HI
  obtain ⟨m, hm⟩ := Int.eq_ofNat_of_zero_le hr.1
  have m39 : m ≤ 39 := by omega
  replace s3 : Hid ((∀ k, m + 1 ≤ k → k < 40 → gw h.words (a + 4 + k) = 0) → sk = true) := s3.out hd m hm m39
  replace s4 : Hid (∀ k, m + 1 ≤ k → k < 40 → gw h.words (a + 4 + k) ≠ 0 → sk = false) := s4.out hd m hm m39
  rw [hm] at HI td
  clear s1 s2 hd hr hm
  generalize gw h.words (a + 4) = y4 at *
  have wm1 : IntKind.i64.wrap (m : Int) = m := by rw [IntKind.wrap_i64]; omega
  go_wp2_with (go_at_call 55; refine (HI _).mono ?_; rintro e wq ⟨rfl, hq⟩; obtain rfl := hq.symm)
  clear HI
  go_loopw [7] (fun kv wr => ∃ k : Nat, m + 1 ≤ k ∧ k ≤ 40 ∧ kv = .int .i64 k ∧ Hid (∀ j, m + 1 ≤ j → j < k → gw h.words (a + 4 + j) = 0) ∧ wr = w2) (fun kv _ => 40 - (intOf kv).toNat)
  case atStart => exact ⟨m + 1, Nat.le_refl _, by omega, by go_num, fun j h1 h2 => absurd h2 (by omega), rfl⟩
  case round =>
    obtain ⟨k, hk1, hk40, rfl, hd, hwr⟩ := hrel
    obtain rfl := hwr.symm
    by_cases hlt : k < 40
    · obtain ⟨ck, hkb⟩ := CK2.out k hlt
      have NX : Hid (gw h.words (a + 4 + k) = 0 → ∀ j, m + 1 ≤ j → j < k + 1 → gw h.words (a + 4 + j) = 0) := fun e j h1 h2 => by
        rcases Nat.lt_or_ge j k with h3 | h3
        · exact hd.out j h1 h3
        · rw [show j = k from by omega]; exact e
      have BAD : Hid (gw h.words (a + 4 + k) ≠ 0 → r = false) := fun e => NSK.out (s4.out k hk1 hlt e)
      clear hd CK2 s3 s4 YES2 NSK NPL NOU NST HB
      generalize gw h.words (a + 4 + k) = yk at *
      by_cases hz : yk = 0
      · have N := NX.out hz
        subst hz
        clear NX BAD
        go_wp2
        go_roundw
        case rel => exact ⟨k + 1, by omega, by omega, by go_num, N, (by first | rfl | trivial)⟩
        case measure => simp [intOf]; omega
      · have R : Hid (r = false) := BAD.out hz
        have hz' : (yk != 0) = true := by rw [bne_iff_ne]; exact hz
        clear NX BAD hz
        go_wp2
        go_ret
        exact ⟨wret_bool R.out.symm, bw2⟩
    · obtain rfl : k = 40 := by omega
      have SK : Hid (sk = true) := s3.out (fun j h1 h2 => hd.out j h1 h2)
      have HP := fun W => HB pc 0 (pr.length : Int) W
      have HS := fun W => HB st 0 3 W
      rw [show (decide (0 ≤ pc) && decide (pc ≤ (pr.length : Int))) = placeB pr.length pc from rfl] at HP
      rw [show (decide (0 ≤ st) && decide (st ≤ 3)) = stateB st from rfl] at HS
      have YES3 : Hid (placeB pr.length pc = true → outB ot = true → stateB st = true → r = true) := YES2.out SK.out
      have NUM := fun x W => HB x (-1000000000) 1000000000 W
      clear hd s3 s4 CK2 NSK YES2 SK HB
      cases PL : placeB pr.length pc
      · have R : Hid (r = false) := NPL.out PL
        rw [PL] at HP
        clear YES3 NPL NOU NST NUM HS PL
        go_wp2_with (go_at_call 55; refine (HP _).mono ?_; rintro e wq ⟨rfl, hq⟩; obtain rfl := hq.symm)
        go_ret
        exact ⟨wret_bool R.out.symm, bw2⟩
      rw [PL] at HP
      by_cases hol : ot.length ≤ 300
      case neg =>
        have R : Hid (r = false) := NOU.out (by unfold outB; rw [decide_eq_false hol]; rfl)
        have dol : decide ((ot.length : Int) > 300) = true := decide_eq_true (by omega)
        clear YES3 NPL NOU NST NUM HS PL
        go_wp2_with (go_at_call 55; refine (HP _).mono ?_; rintro e wq ⟨rfl, hq⟩; obtain rfl := hq.symm)
        go_ret
        exact ⟨wret_bool R.out.symm, bw2⟩
      have dol : decide ((ot.length : Int) > 300) = false := decide_eq_false (by omega)
      cases SB : stateB st
      · have R : Hid (r = false) := NST.out SB
        rw [SB] at HS
        clear YES3 NPL NOU NST NUM PL SB
        go_wp2_with fail
        refine (HP _).mono ?_
        rintro e wq ⟨rfl, hq⟩
        obtain rfl := hq.symm
        go_wp2_with fail
        refine (HS _).mono ?_
        rintro e wq ⟨rfl, hq⟩
        obtain rfl := hq.symm
        go_wp2
        go_ret
        exact ⟨wret_bool R.out.symm, bw2⟩
      rw [SB] at HS
      have YES4 : Hid (outB ot = true → r = true) := fun q => YES3.out PL q SB
      clear YES3 NPL NST PL SB
      go_wp2_with fail
      refine (HP _).mono ?_
      rintro e wq ⟨rfl, hq⟩
      obtain rfl := hq.symm
      go_wp2_with fail
      refine (HS _).mono ?_
      rintro e wq ⟨rfl, hq⟩
      obtain rfl := hq.symm
      go_wp2
      clear HP HS
      go_loopw [8] (fun kv wr => ∃ k : Nat, k ≤ ot.length ∧ kv = .int .i64 k ∧ Hid (∀ j, j < k → numB (ot.getD j 0) = true) ∧ wr = w2) (fun kv _ => ot.length - (intOf kv).toNat)
      case atStart => exact ⟨0, Nat.zero_le _, rfl, fun j hj => absurd hj (Nat.not_lt_zero j), rfl⟩
      case round =>
        obtain ⟨k, hk, rfl, hd, hwr⟩ := hrel
        obtain rfl := hwr.symm
        by_cases hlt2 : k < ot.length
        · obtain ⟨oa, oc, eo, ole, ocl⟩ := IO
          simp only [Value.slice.injEq, true_and] at eo
          obtain ⟨rfl, rfl⟩ := eo
          obtain ⟨b3, o3, rfl, ck⟩ := ocl k hlt2
          have NX : Hid (numB (ot.getD k 0) = true → ∀ j, j < k + 1 → numB (ot.getD j 0) = true) := fun e => all_upto hd.out e
          have BAD : Hid (numB (ot.getD k 0) = false → r = false) := fun e => NOU.out (out_no hlt2 e)
          have NM := fun W => NUM (ot.getD k 0) W
          rw [in_num] at NM
          clear hd NOU YES4 NUM ocl
          generalize ot.getD k 0 = x at *
          cases hx : numB x
          · have R : Hid (r = false) := BAD.out hx
            rw [hx] at NM
            clear NX BAD hx
            go_wp2_with (go_at_call 55; refine (NM _).mono ?_; rintro e wq ⟨rfl, hq⟩; obtain rfl := hq.symm)
            go_ret
            exact ⟨wret_bool R.out.symm, bw2⟩
          · have N := NX.out hx
            rw [hx] at NM
            clear NX BAD hx
            go_wp2_with (go_at_call 55; refine (NM _).mono ?_; rintro e wq ⟨rfl, hq⟩; obtain rfl := hq.symm)
            go_roundw
            case rel => exact ⟨k + 1, by omega, by go_num, N, (by first | rfl | trivial)⟩
            case measure => simp [intOf]; omega
        · obtain rfl : k = ot.length := by omega
          have R : Hid (r = true) := YES4.out (out_yes hol hd.out)
          clear hd NOU YES4 NUM
          go_wp2
          go_ret
          exact ⟨wret_bool R.out.symm, bw2⟩

end Go.Proofs.YtgacacbncefeaaaGreat

/- The law of VmOk. -/
namespace Go.Proofs.YtgacacbncefeaaaGreat
open Go.RowKit

theorem specVmOk_c (v : Value) (m : Mp) (w : World) (hv : VR w v m) (hs : smM m 1000000000) :
    Calls Tryz.prog 22 #[v] w fun e w' => e = .returned (.bool (okM m.h m.prog m.pc m.out m.st && partsB m.h)) ∧ Below w.heap.size w w' := by
  obtain ⟨v1, v2, v3, vp, vo, rfl, i1, i2, i3, ip, io⟩ := hv
  obtain ⟨s1, s2, s3, s4, s5⟩ := hs
  exact specVmOk_any v1 v2 v3 vp vo m.h m.prog m.pc m.out m.st w i1 i2 i3 ip io s2 s3 s4 s5

set_option maxRecDepth 100000 in
set_option maxHeartbeats 3200000 in
theorem lawVmOk_any (v1 v2 v3 vp vo : Value) (m : Mp) (w : World) (i1 : IR w v1 m.h.words) (i2 : IR w v2 m.h.roots) (i3 : IR w v3 m.h.kept) (ip : CR w vp m.prog) (io : IR w vo m.out) (hs : smM m 1000000000000000) :
    Calls Tryz.prog 5 #[.agg #[v1, v2, .int .i64 m.h.old, .int .i64 m.h.eden, .int .i64 m.h.surv, .bool m.h.flip, .int .i64 m.h.hash, v3, vp, .int .i64 m.pc, vo, .int .i64 m.st]] w fun e w' => e = .returned (.bool true) ∧ Below w.heap.size w w' := by
  have hb0 := bel_one w (.cells #[v1, v2, .int .i64 m.h.old, .int .i64 m.h.eden, .int .i64 m.h.surv, .bool m.h.flip, .int .i64 m.h.hash, v3, vp, .int .i64 m.pc, vo, .int .i64 m.st] 45)
  have B0 : Bk (w.alloc (.cells #[v1, v2, .int .i64 m.h.old, .int .i64 m.h.eden, .int .i64 m.h.surv, .bool m.h.flip, .int .i64 m.h.hash, v3, vp, .int .i64 m.pc, vo, .int .i64 m.st] 45)) w.heap.size #[v1, v2, .int .i64 m.h.old, .int .i64 m.h.eden, .int .i64 m.h.surv, .bool m.h.flip, .int .i64 m.h.hash, v3, vp, .int .i64 m.pc, vo, .int .i64 m.st] 45 := Bk.new w _ _
  have SZ := szVm_any v1 v2 v3 vp vo m _ (i1.later hb0) (i2.later hb0) (i3.later hb0) (ip.later hb0) (io.later hb0) hs
  have x0 := B0.cell 0 (v1) rfl
  have x1 := B0.cell 1 (v2) rfl
  have x2 := B0.cell 2 (.int .i64 m.h.old) rfl
  have x3 := B0.cell 3 (.int .i64 m.h.eden) rfl
  have x4 := B0.cell 4 (.int .i64 m.h.surv) rfl
  have x5 := B0.cell 5 (.bool m.h.flip) rfl
  have x6 := B0.cell 6 (.int .i64 m.h.hash) rfl
  have x7 := B0.cell 7 (v3) rfl
  have x8 := B0.cell 8 (vp) rfl
  have x9 := B0.cell 9 (.int .i64 m.pc) rfl
  have x10 := B0.cell 10 (vo) rfl
  have x11 := B0.cell 11 (.int .i64 m.st) rfl
  go_enter Tryz.func5, Tryz.ntmps5
  go_wp2_with fail
  refine SZ.mono ?_
  clear SZ x0 x1 x2 x3 x4 x5 x6 x7 x8 x9 x10 x11
  rintro e w1 ⟨⟨y, rfl, hy⟩, hb1⟩
  have bw1 := bel_after hb0 hb1
  have B1 := B0.later hb1
  by_cases hn : y < 0
  · clear hy
    go_wp2
    go_ret
    exact ⟨rfl, bw1⟩
  have sm := hy.out (by omega)
  have sm9 : smM m 1000000000 := by unfold smM at *; omega
  have TV := fun W (hb : Below w.heap.size w W) => toVm_any v1 v2 v3 vp vo m W (i1.later hb) (i2.later hb) (i3.later hb) (ip.later hb) (io.later hb) (by unfold smM at *; omega)
  replace sm9 : Hid (smM m 1000000000) := sm9
  clear hy sm hs i1 i2 i3 ip io B0
  have x0 := B1.cell 0 (v1) rfl
  have x1 := B1.cell 1 (v2) rfl
  have x2 := B1.cell 2 (.int .i64 m.h.old) rfl
  have x3 := B1.cell 3 (.int .i64 m.h.eden) rfl
  have x4 := B1.cell 4 (.int .i64 m.h.surv) rfl
  have x5 := B1.cell 5 (.bool m.h.flip) rfl
  have x6 := B1.cell 6 (.int .i64 m.h.hash) rfl
  have x7 := B1.cell 7 (v3) rfl
  have x8 := B1.cell 8 (vp) rfl
  have x9 := B1.cell 9 (.int .i64 m.pc) rfl
  have x10 := B1.cell 10 (vo) rfl
  have x11 := B1.cell 11 (.int .i64 m.st) rfl
  go_wp2_with fail
  refine (TV _ bw1).mono ?_
  clear x0 x1 x2 x3 x4 x5 x6 x7 x8 x9 x10 x11
  rintro e w2 ⟨⟨p, rfl, hp⟩, hb2⟩
  have bw2 := bel_after bw1 hb2
  have B2 := B1.later hb2
  have SP := specVmOk_c p m w2 hp.vr sm9.out
  clear hp
  go_wp2_with fail
  refine SP.mono ?_
  clear SP
  rintro e w3 ⟨rfl, hb3⟩
  have bw3 := bel_after bw2 hb3
  have B3 := B2.later hb3
  have x0 := B3.cell 0 (v1) rfl
  have x1 := B3.cell 1 (v2) rfl
  have x2 := B3.cell 2 (.int .i64 m.h.old) rfl
  have x3 := B3.cell 3 (.int .i64 m.h.eden) rfl
  have x4 := B3.cell 4 (.int .i64 m.h.surv) rfl
  have x5 := B3.cell 5 (.bool m.h.flip) rfl
  have x6 := B3.cell 6 (.int .i64 m.h.hash) rfl
  have x7 := B3.cell 7 (v3) rfl
  have x8 := B3.cell 8 (vp) rfl
  have x9 := B3.cell 9 (.int .i64 m.pc) rfl
  have x10 := B3.cell 10 (vo) rfl
  have x11 := B3.cell 11 (.int .i64 m.st) rfl
  go_wp2_with fail
  refine (TV _ bw3).mono ?_
  clear x0 x1 x2 x3 x4 x5 x6 x7 x8 x9 x10 x11 B1 B2
  rintro e w4 ⟨⟨q, rfl, hq⟩, hb4⟩
  have bw4 := bel_after bw3 hb4
  have B4 := B3.later hb4
  obtain ⟨u1, u2, u3, up, uo, rfl, k1, k2, k3, kp, ko⟩ := hq.vr
  obtain ⟨ua1, uc1, rfl, -⟩ := IRs k1
  obtain ⟨ua2, uc2, rfl, -⟩ := IRs k2
  obtain ⟨ua3, uc3, rfl, -⟩ := IRs k3
  obtain ⟨uap, ucp, rfl, -⟩ := CRs kp
  obtain ⟨uao, uco, rfl, -⟩ := IRs ko
  have al := bel_one w4 (.cells #[.slice ua1 m.h.words.length uc1, .slice ua2 m.h.roots.length uc2, .int .i64 m.h.old, .int .i64 m.h.eden, .int .i64 m.h.surv, .bool m.h.flip, .int .i64 m.h.hash, .slice ua3 m.h.kept.length uc3, .slice uap m.prog.length ucp, .int .i64 m.pc, .slice uao m.out.length uco, .int .i64 m.st] 30)
  have D5 : Bk (w4.alloc (.cells #[.slice ua1 m.h.words.length uc1, .slice ua2 m.h.roots.length uc2, .int .i64 m.h.old, .int .i64 m.h.eden, .int .i64 m.h.surv, .bool m.h.flip, .int .i64 m.h.hash, .slice ua3 m.h.kept.length uc3, .slice uap m.prog.length ucp, .int .i64 m.pc, .slice uao m.out.length uco, .int .i64 m.st] 30)) w4.heap.size #[.slice ua1 m.h.words.length uc1, .slice ua2 m.h.roots.length uc2, .int .i64 m.h.old, .int .i64 m.h.eden, .int .i64 m.h.surv, .bool m.h.flip, .int .i64 m.h.hash, .slice ua3 m.h.kept.length uc3, .slice uap m.prog.length ucp, .int .i64 m.pc, .slice uao m.out.length uco, .int .i64 m.st] 30 := Bk.new w4 _ _
  have bw5 := bel_after bw4 al
  have B5 := B4.later al
  have VQ : VR (w4.alloc (.cells #[.slice ua1 m.h.words.length uc1, .slice ua2 m.h.roots.length uc2, .int .i64 m.h.old, .int .i64 m.h.eden, .int .i64 m.h.surv, .bool m.h.flip, .int .i64 m.h.hash, .slice ua3 m.h.kept.length uc3, .slice uap m.prog.length ucp, .int .i64 m.pc, .slice uao m.out.length uco, .int .i64 m.st] 30)) (.agg #[.slice ua1 m.h.words.length uc1, .slice ua2 m.h.roots.length uc2, .int .i64 m.h.old, .int .i64 m.h.eden, .int .i64 m.h.surv, .bool m.h.flip, .int .i64 m.h.hash, .slice ua3 m.h.kept.length uc3, .slice uap m.prog.length ucp, .int .i64 m.pc, .slice uao m.out.length uco, .int .i64 m.st]) m := ⟨_, _, _, _, _, rfl, k1.later al, k2.later al, k3.later al, kp.later al, ko.later al⟩
  have IM := implVmOk_any _ m _ VQ sm9.out
  have y0 := D5.cell 0 (.slice ua1 m.h.words.length uc1) rfl
  have y1 := D5.cell 1 (.slice ua2 m.h.roots.length uc2) rfl
  have y2 := D5.cell 2 (.int .i64 m.h.old) rfl
  have y3 := D5.cell 3 (.int .i64 m.h.eden) rfl
  have y4 := D5.cell 4 (.int .i64 m.h.surv) rfl
  have y5 := D5.cell 5 (.bool m.h.flip) rfl
  have y6 := D5.cell 6 (.int .i64 m.h.hash) rfl
  have y7 := D5.cell 7 (.slice ua3 m.h.kept.length uc3) rfl
  have y8 := D5.cell 8 (.slice uap m.prog.length ucp) rfl
  have y9 := D5.cell 9 (.int .i64 m.pc) rfl
  have y10 := D5.cell 10 (.slice uao m.out.length uco) rfl
  have y11 := D5.cell 11 (.int .i64 m.st) rfl
  clear hq k1 k2 k3 kp ko B3 B4
  generalize (okM m.h m.prog m.pc m.out m.st && partsB m.h) = r at *
  have rr : (r != r) = false := by cases r <;> rfl
  go_wp2_with fail
  refine IM.mono ?_
  clear IM y0 y1 y2 y3 y4 y5 y6 y7 y8 y9 y10 y11
  rintro e w6 ⟨rfl, hb6⟩
  have bw6 := bel_after bw5 hb6
  have B6 := B5.later hb6
  have D6 := D5.later hb6
  have VQ6 := VQ.later hb6
  clear B5 D5 VQ
  go_wp2_with fail
  refine Disk.z_plain 99 (fun W' => Bk W' w.heap.size #[v1, v2, .int .i64 m.h.old, .int .i64 m.h.eden, .int .i64 m.h.surv, .bool m.h.flip, .int .i64 m.h.hash, v3, vp, .int .i64 m.pc, vo, .int .i64 m.st] 45 ∧ Bk W' w4.heap.size #[.slice ua1 m.h.words.length uc1, .slice ua2 m.h.roots.length uc2, .int .i64 m.h.old, .int .i64 m.h.eden, .int .i64 m.h.surv, .bool m.h.flip, .int .i64 m.h.hash, .slice ua3 m.h.kept.length uc3, .slice uap m.prog.length ucp, .int .i64 m.pc, .slice uao m.out.length uco, .int .i64 m.st] 30) (by kernel_rfl) ⟨B6.drew, D6.drew⟩ fun hz => ?_
  refine Disk.z_take 0 22 (v := .agg #[.slice ua1 m.h.words.length uc1, .slice ua2 m.h.roots.length uc2, .int .i64 m.h.old, .int .i64 m.h.eden, .int .i64 m.h.surv, .bool m.h.flip, .int .i64 m.h.hash, .slice ua3 m.h.kept.length uc3, .slice uap m.prog.length ucp, .int .i64 m.pc, .slice uao m.out.length uco, .int .i64 m.st]) rfl rfl (by kernel_rfl) (by kernel_rfl) (by kernel_rfl) (by kernel_rfl) (by rfl) hz (fun W' hSw => (by
    have z0 := hSw.2.cell 0 (.slice ua1 m.h.words.length uc1) rfl
    have z1 := hSw.2.cell 1 (.slice ua2 m.h.roots.length uc2) rfl
    have z2 := hSw.2.cell 2 (.int .i64 m.h.old) rfl
    have z3 := hSw.2.cell 3 (.int .i64 m.h.eden) rfl
    have z4 := hSw.2.cell 4 (.int .i64 m.h.surv) rfl
    have z5 := hSw.2.cell 5 (.bool m.h.flip) rfl
    have z6 := hSw.2.cell 6 (.int .i64 m.h.hash) rfl
    have z7 := hSw.2.cell 7 (.slice ua3 m.h.kept.length uc3) rfl
    have z8 := hSw.2.cell 8 (.slice uap m.prog.length ucp) rfl
    have z9 := hSw.2.cell 9 (.int .i64 m.pc) rfl
    have z10 := hSw.2.cell 10 (.slice uao m.out.length uco) rfl
    have z11 := hSw.2.cell 11 (.int .i64 m.st) rfl
    go_simp; first | done | with_reducible rfl)) ?_
  simp only [List.setIfInBounds_toArray, List.set_cons_zero, List.set_cons_succ]
  refine Disk.z_take 1 23 (v := .agg #[v1, v2, .int .i64 m.h.old, .int .i64 m.h.eden, .int .i64 m.h.surv, .bool m.h.flip, .int .i64 m.h.hash, v3, vp, .int .i64 m.pc, vo, .int .i64 m.st]) rfl rfl (by kernel_rfl) (by kernel_rfl) (by kernel_rfl) (by kernel_rfl) (by rfl) hz (fun W' hSw => (by
    have z0 := hSw.1.cell 0 (v1) rfl
    have z1 := hSw.1.cell 1 (v2) rfl
    have z2 := hSw.1.cell 2 (.int .i64 m.h.old) rfl
    have z3 := hSw.1.cell 3 (.int .i64 m.h.eden) rfl
    have z4 := hSw.1.cell 4 (.int .i64 m.h.surv) rfl
    have z5 := hSw.1.cell 5 (.bool m.h.flip) rfl
    have z6 := hSw.1.cell 6 (.int .i64 m.h.hash) rfl
    have z7 := hSw.1.cell 7 (v3) rfl
    have z8 := hSw.1.cell 8 (vp) rfl
    have z9 := hSw.1.cell 9 (.int .i64 m.pc) rfl
    have z10 := hSw.1.cell 10 (vo) rfl
    have z11 := hSw.1.cell 11 (.int .i64 m.st) rfl
    go_simp; first | done | with_reducible rfl)) ?_
  simp only [List.setIfInBounds_toArray, List.set_cons_zero, List.set_cons_succ]
  refine Disk.z_call 2 24 rfl rfl (by kernel_rfl) (by rfl) (f := 23) (args := #[.agg #[v1, v2, .int .i64 m.h.old, .int .i64 m.h.eden, .int .i64 m.h.surv, .bool m.h.flip, .int .i64 m.h.hash, v3, vp, .int .i64 m.pc, vo, .int .i64 m.st]]) (w0 := w6.drew) (by go_simp; first | done | with_reducible rfl) ?_
  refine (TV _ (bel_after bw6 (Below.refl _ _).drew)).mono ?_
  rintro e w7 ⟨⟨s, rfl, hsv⟩, hb7⟩
  have b67 : Below w6.heap.size w6 w7 := bel_after (Below.refl _ _).drew hb7
  have bw7 := bel_after bw6 b67
  refine ⟨_, rfl, .inr ⟨B6.later b67, D6.later b67⟩, ?_⟩
  simp only [List.setIfInBounds_toArray, List.set_cons_zero, List.set_cons_succ]
  refine Disk.z_call 3 25 rfl rfl (by kernel_rfl) (by rfl) (f := 16) (args := #[.agg #[.slice ua1 m.h.words.length uc1, .slice ua2 m.h.roots.length uc2, .int .i64 m.h.old, .int .i64 m.h.eden, .int .i64 m.h.surv, .bool m.h.flip, .int .i64 m.h.hash, .slice ua3 m.h.kept.length uc3, .slice uap m.prog.length ucp, .int .i64 m.pc, .slice uao m.out.length uco, .int .i64 m.st], s]) (w0 := w7) (by go_simp; first | done | with_reducible rfl) ?_
  refine (eqVm_any _ _ m w7 (VQ6.later b67) hsv.vr sm9.out).mono ?_
  rintro e w8 ⟨rfl, hb8⟩
  have bw8 := bel_after bw7 hb8
  have hz8 : Bk w8 w.heap.size #[v1, v2, .int .i64 m.h.old, .int .i64 m.h.eden, .int .i64 m.h.surv, .bool m.h.flip, .int .i64 m.h.hash, v3, vp, .int .i64 m.pc, vo, .int .i64 m.st] 45 ∧ Bk w8 w4.heap.size #[.slice ua1 m.h.words.length uc1, .slice ua2 m.h.roots.length uc2, .int .i64 m.h.old, .int .i64 m.h.eden, .int .i64 m.h.surv, .bool m.h.flip, .int .i64 m.h.hash, .slice ua3 m.h.kept.length uc3, .slice uap m.prog.length ucp, .int .i64 m.pc, .slice uao m.out.length uco, .int .i64 m.st] 30 := ⟨(B6.later b67).later hb8, (D6.later b67).later hb8⟩
  refine ⟨_, rfl, .inr hz8, ?_⟩
  simp only [List.setIfInBounds_toArray, List.set_cons_zero, List.set_cons_succ]
  refine Disk.z_take 4 26 (v := .bool false) rfl rfl (by kernel_rfl) (by kernel_rfl) (by kernel_rfl) (by kernel_rfl) (by rfl) hz8 (fun W' hSw => (by
    clear hSw
    go_simp; first | done | with_reducible rfl)) ?_
  simp only [List.setIfInBounds_toArray, List.set_cons_zero, List.set_cons_succ]
  refine Disk.z_done (by kernel_rfl) ?_ _
  clear hz hz8 B6 D6 VQ6 hsv TV
  go_wp2
  go_ret
  exact ⟨rfl, bw8⟩

end Go.Proofs.YtgacacbncefeaaaGreat

/- Result of the program and of the model. -/
namespace Go.Proofs.YtgacacbncefeaaaGreat
open Go.RowKit

theorem exec_appK {o : Oper} {a : Act} {w w' : World} {u : Value} {t : TypeId} (s x : Operand) (ho : o.op = .call { callee := .builtin .append, args := #[s, x], argTypes := #[t, t] }) (v y : Value) (hs : a.eval s = v) (hx : a.eval x = y)
    (hr : (Builtin.append_ #[t, t] o.type #[v, y]).run Tryz.prog w = .ok u w') : (execOp a.eval o).run Tryz.prog w = .ok (.value u) w' := by
  unfold execOp
  simp only [ho, resolve, invoke, builtin, Sem.run_bind, Sem.run_pure, Result.andThen_ok, List.map_toArray, List.map_cons, List.map_nil, hs, hx, hr]
/-- append of whatever numbers to an empty row of the call's own, as a run. -/
theorem run_appK (w : World) (ty : TypeId) (g : Nat) (hR : RI w g [] 0) (v : Value) (l : List Int) (hI : IR w v l) (hl : l.length ≤ 1000000000000) :
    ∃ u w', (Builtin.append_ #[26, 26] ty #[.slice (some ⟨g, 0, none⟩) 0 0, v]).run Tryz.prog w = .ok u w' ∧ IR w' u l ∧ Disk.OS w' 2 1 u l.length ∧ w.grownBy w' (some g) ∧ (∀ b, Disk.rowOf u l.length = some b → b = g ∨ b = w.heap.size) := by
  obtain ⟨ao, cp, rfl, _, hc⟩ := hI
  by_cases h0 : l.length = 0
  · obtain rfl : l = [] := List.eq_nil_of_length_eq_zero h0
    exact ⟨_, w, run_append_zero ty g 0 0 cp ao (Nat.le_refl _) w, ⟨_, _, rfl, Nat.le_refl _, fun i hi => absurd hi (Nat.not_lt_zero i)⟩, ⟨_, _, rfl, .inl rfl⟩, ⟨rfl, rfl, rfl, Nat.le_refl _, fun _ _ _ => rfl⟩, fun b hb => by unfold Disk.rowOf at hb; simp at hb⟩
  · obtain ⟨i, hi, hzz⟩ := Option.map_eq_some_iff.1 Tryz.infoI
    simp only [Prod.mk.injEq] at hzz
    obtain ⟨hz, hsz, hby⟩ := hzz
    obtain ⟨b, q, rfl, _⟩ := hc 0 (by omega)
    have ow := hR.owns (B := 0) (Nat.zero_le _) (by unfold maxLen; omega)
    simp only [List.length_nil] at ow
    obtain ⟨v', w', run, h1, h2, h3, h4⟩ := run_append_own_at (P := Tryz.prog) w 0 26 ty 2 i _ 1 8 Tryz.underlying26 hi hz hsz hby rfl (by omega) _ 0 (icells []) ow ⟨b, q, none⟩ l.length cp (icells l) (by simp [icells]) (fun j u hj => by
      have hj' : j < l.length := by
        rcases Nat.lt_or_ge j l.length with k | k
        · exact k
        · rw [List.getElem?_eq_none (by rw [icells_length]; exact k)] at hj; cases hj
      obtain ⟨b', q', e2, hcell⟩ := hc j hj'
      simp only [Option.some.injEq, Addr.mk.injEq, and_true] at e2
      obtain ⟨rfl, rfl⟩ := e2
      have hu : u = .int .i64 (l.getD j 0) := by
        simp [icells, hj'] at hj
        rw [← hj]
        simp [hj']
      rw [hu, ← hcell]
      unfold Addr.add
      split
      · subst j; rfl
      · simp) (fun u hu => by
      obtain ⟨z, _, rfl⟩ := List.mem_map.1 hu
      rfl) (by unfold maxLen; omega) (by omega) (Nat.zero_le _)
    have e3 : icells [] ++ icells l = icells l := rfl
    rw [e3, Nat.zero_add] at h1
    refine ⟨v', w', run, IR_of_owns h1, OS_of_owns h1, h2, fun b hb => ?_⟩
    have hb2 : v'.ownBlock = some b := by
      unfold Disk.rowOf at hb
      rw [if_neg h0] at hb
      exact hb
    rcases h4 with e | e
    · left
      rw [hb2] at e
      simpa [Value.ownBlock] using e
    · right
      rw [hb2] at e
      simpa using e

noncomputable def resL (m : Mp) : List Int := if (okM m.h m.prog m.pc m.out m.st && partsB m.h) = true then m.out else []
noncomputable def resS (m : Mp) : Int := if (okM m.h m.prog m.pc m.out m.st && partsB m.h) = true then m.st else -1
/-- What Result answers. -/
def ResOut (m : Mp) (B : Nat) (e : Ending) (w' : World) : Prop := ∃ u, e = .returned (.tuple #[u, .int .i64 (resS m)]) ∧ IR w' u (resL m) ∧ Disk.OS w' 2 1 u (resL m).length ∧ ∀ b, Disk.rowOf u (resL m).length = some b → B ≤ b
theorem ResOut.yes {m : Mp} {B : Nat} {w' : World} {u : Value} (r : (okM m.h m.prog m.pc m.out m.st && partsB m.h) = true) (h1 : IR w' u m.out) (h2 : Disk.OS w' 2 1 u m.out.length) (h3 : ∀ b, Disk.rowOf u m.out.length = some b → B ≤ b) : ResOut m B (.returned (.tuple #[u, .int .i64 m.st])) w' := by
  have e1 : resL m = m.out := by unfold resL; rw [if_pos r]
  have e2 : resS m = m.st := by unfold resS; rw [if_pos r]
  unfold ResOut
  rw [e1, e2]
  exact ⟨u, rfl, h1, h2, h3⟩
theorem ResOut.no {m : Mp} {B c : Nat} {w' : World} {ao : Option Addr} (r : (okM m.h m.prog m.pc m.out m.st && partsB m.h) = false) : ResOut m B (.returned (.tuple #[.slice ao 0 c, .int .i64 (-1)])) w' := by
  have e1 : resL m = [] := by unfold resL; rw [if_neg (by rw [r]; simp)]
  have e2 : resS m = -1 := by unfold resS; rw [if_neg (by rw [r]; simp)]
  unfold ResOut
  rw [e1, e2]
  exact ⟨_, rfl, ⟨_, _, rfl, Nat.zero_le _, fun i hi => absurd hi (Nat.not_lt_zero i)⟩, ⟨_, _, rfl, .inl rfl⟩, fun b hb => by unfold Disk.rowOf at hb; simp at hb⟩

set_option maxRecDepth 100000 in
set_option maxHeartbeats 1600000 in
theorem implResult_any (v : Value) (m : Mp) (w : World) (hv : VR w v m) (hs : smM m 1000000000) :
    Calls Tryz.prog 25 #[v] w fun e w' => ResOut m w.heap.size e w' ∧ Below w.heap.size w w' := by
  obtain ⟨v1, v2, v3, vp, vo, rfl, i1, i2, i3, ip, io⟩ := hv
  obtain ⟨s1, s2, s3, s4, s5⟩ := hs
  have hb0 := bel_one w (.cells #[v1, v2, .int .i64 m.h.old, .int .i64 m.h.eden, .int .i64 m.h.surv, .bool m.h.flip, .int .i64 m.h.hash, v3, vp, .int .i64 m.pc, vo, .int .i64 m.st] 30)
  have B0 : Bk (w.alloc (.cells #[v1, v2, .int .i64 m.h.old, .int .i64 m.h.eden, .int .i64 m.h.surv, .bool m.h.flip, .int .i64 m.h.hash, v3, vp, .int .i64 m.pc, vo, .int .i64 m.st] 30)) w.heap.size #[v1, v2, .int .i64 m.h.old, .int .i64 m.h.eden, .int .i64 m.h.surv, .bool m.h.flip, .int .i64 m.h.hash, v3, vp, .int .i64 m.pc, vo, .int .i64 m.st] 30 := Bk.new w _ _
  have x0 := B0.cell 0 (v1) rfl
  have x1 := B0.cell 1 (v2) rfl
  have x2 := B0.cell 2 (.int .i64 m.h.old) rfl
  have x3 := B0.cell 3 (.int .i64 m.h.eden) rfl
  have x4 := B0.cell 4 (.int .i64 m.h.surv) rfl
  have x5 := B0.cell 5 (.bool m.h.flip) rfl
  have x6 := B0.cell 6 (.int .i64 m.h.hash) rfl
  have x7 := B0.cell 7 (v3) rfl
  have x8 := B0.cell 8 (vp) rfl
  have x9 := B0.cell 9 (.int .i64 m.pc) rfl
  have x10 := B0.cell 10 (vo) rfl
  have x11 := B0.cell 11 (.int .i64 m.st) rfl
  have MO := machineOf_any v1 v2 v3 vp vo m.h m.prog m.pc m.out m.st _ (i1.later hb0) (i2.later hb0) (i3.later hb0) (ip.later hb0) (io.later hb0) s1 s2 s3 s4 s5
  go_enter Tryz.func25, Tryz.ntmps25
  go_wp2_with fail
  refine MO.mono ?_
  clear MO x0 x1 x2 x3 x4 x5 x6 x7 x8 x9 x10 x11 B0
  rintro e w1 ⟨mk, hb1⟩
  have bw1 := bel_after hb0 hb1
  have le0 := hb0.size
  rcases mk with ⟨ok, g1, g2, g3, P, O, oa, oc, rfl, RO, lO⟩ | ⟨ok, rfl⟩
  · cases hp : partsB m.h
    · have R := ResOut.no (B := w.heap.size) (c := 0) (w' := w1.alloc (.cells #[.slice (some ⟨g1, 0, none⟩) m.h.words.length m.h.words.length, .slice oa (obC m.h).length oc, .slice (some ⟨g2, 0, none⟩) m.h.roots.length m.h.roots.length, .int .i64 m.h.old, .int .i64 m.h.eden, .int .i64 m.h.surv, .bool m.h.flip, .int .i64 m.h.hash, .slice (some ⟨g3, 0, none⟩) m.h.kept.length m.h.kept.length, .slice (some ⟨P, 0, none⟩) m.prog.length m.prog.length, .int .i64 m.pc, .slice (some ⟨O, 0, none⟩) m.out.length m.out.length, .int .i64 m.st] 74)) (ao := none) (m := m) (by rw [ok, hp]; rfl)
      go_wp2
      go_ret2
      exact ⟨R, bw1.alloc bw1.size _⟩
    have al := bel_one w1 (.cells #[.slice (some ⟨g1, 0, none⟩) m.h.words.length m.h.words.length, .slice oa (obC m.h).length oc, .slice (some ⟨g2, 0, none⟩) m.h.roots.length m.h.roots.length, .int .i64 m.h.old, .int .i64 m.h.eden, .int .i64 m.h.surv, .bool m.h.flip, .int .i64 m.h.hash, .slice (some ⟨g3, 0, none⟩) m.h.kept.length m.h.kept.length, .slice (some ⟨P, 0, none⟩) m.prog.length m.prog.length, .int .i64 m.pc, .slice (some ⟨O, 0, none⟩) m.out.length m.out.length, .int .i64 m.st] 74)
    have D2 : Bk (w1.alloc (.cells #[.slice (some ⟨g1, 0, none⟩) m.h.words.length m.h.words.length, .slice oa (obC m.h).length oc, .slice (some ⟨g2, 0, none⟩) m.h.roots.length m.h.roots.length, .int .i64 m.h.old, .int .i64 m.h.eden, .int .i64 m.h.surv, .bool m.h.flip, .int .i64 m.h.hash, .slice (some ⟨g3, 0, none⟩) m.h.kept.length m.h.kept.length, .slice (some ⟨P, 0, none⟩) m.prog.length m.prog.length, .int .i64 m.pc, .slice (some ⟨O, 0, none⟩) m.out.length m.out.length, .int .i64 m.st] 74)) w1.heap.size #[.slice (some ⟨g1, 0, none⟩) m.h.words.length m.h.words.length, .slice oa (obC m.h).length oc, .slice (some ⟨g2, 0, none⟩) m.h.roots.length m.h.roots.length, .int .i64 m.h.old, .int .i64 m.h.eden, .int .i64 m.h.surv, .bool m.h.flip, .int .i64 m.h.hash, .slice (some ⟨g3, 0, none⟩) m.h.kept.length m.h.kept.length, .slice (some ⟨P, 0, none⟩) m.prog.length m.prog.length, .int .i64 m.pc, .slice (some ⟨O, 0, none⟩) m.out.length m.out.length, .int .i64 m.st] 74 := Bk.new w1 _ _
    have RO2 := RO.later al
    have bw2 := bel_after bw1 al
    have R := ResOut.yes (B := w.heap.size) (w' := (w1.alloc (.cells #[.slice (some ⟨g1, 0, none⟩) m.h.words.length m.h.words.length, .slice oa (obC m.h).length oc, .slice (some ⟨g2, 0, none⟩) m.h.roots.length m.h.roots.length, .int .i64 m.h.old, .int .i64 m.h.eden, .int .i64 m.h.surv, .bool m.h.flip, .int .i64 m.h.hash, .slice (some ⟨g3, 0, none⟩) m.h.kept.length m.h.kept.length, .slice (some ⟨P, 0, none⟩) m.prog.length m.prog.length, .int .i64 m.pc, .slice (some ⟨O, 0, none⟩) m.out.length m.out.length, .int .i64 m.st] 74)).drew) (m := m) (by rw [ok, hp]; rfl) ((RO2.later (Below.refl _ _).drew).ir (Nat.le_refl _)) ((RO2.later (Below.refl _ _).drew).os (cap := m.out.length)) (fun b hb => by have := rowof hb; omega)
    go_wp2_with fail
    refine Disk.z_plain 99 (fun W' => Bk W' w1.heap.size #[.slice (some ⟨g1, 0, none⟩) m.h.words.length m.h.words.length, .slice oa (obC m.h).length oc, .slice (some ⟨g2, 0, none⟩) m.h.roots.length m.h.roots.length, .int .i64 m.h.old, .int .i64 m.h.eden, .int .i64 m.h.surv, .bool m.h.flip, .int .i64 m.h.hash, .slice (some ⟨g3, 0, none⟩) m.h.kept.length m.h.kept.length, .slice (some ⟨P, 0, none⟩) m.prog.length m.prog.length, .int .i64 m.pc, .slice (some ⟨O, 0, none⟩) m.out.length m.out.length, .int .i64 m.st] 74) (by kernel_rfl) D2.drew fun hz => ?_
    refine Disk.z_take 0 13 (v := .pointer (some ⟨w1.heap.size, 11, none⟩)) rfl rfl (by kernel_rfl) (by kernel_rfl) (by kernel_rfl) (by kernel_rfl) (by rfl) hz (fun W' hSw => (by
      have z11 := hSw.cell 11 (.slice (some ⟨O, 0, none⟩) m.out.length m.out.length) rfl
      have z12 := hSw.cell 12 (.int .i64 m.st) rfl
      go_simp; first | done | with_reducible rfl)) ?_
    simp only [List.setIfInBounds_toArray, List.set_cons_zero, List.set_cons_succ]
    refine Disk.z_take 1 14 (v := .slice (some ⟨O, 0, none⟩) m.out.length m.out.length) rfl rfl (by kernel_rfl) (by kernel_rfl) (by kernel_rfl) (by kernel_rfl) (by rfl) hz (fun W' hSw => (by
      have z11 := hSw.cell 11 (.slice (some ⟨O, 0, none⟩) m.out.length m.out.length) rfl
      have z12 := hSw.cell 12 (.int .i64 m.st) rfl
      go_simp; first | done | with_reducible rfl)) ?_
    simp only [List.setIfInBounds_toArray, List.set_cons_zero, List.set_cons_succ]
    refine Disk.z_take 2 15 (v := .pointer (some ⟨w1.heap.size, 12, none⟩)) rfl rfl (by kernel_rfl) (by kernel_rfl) (by kernel_rfl) (by kernel_rfl) (by rfl) hz (fun W' hSw => (by
      have z11 := hSw.cell 11 (.slice (some ⟨O, 0, none⟩) m.out.length m.out.length) rfl
      have z12 := hSw.cell 12 (.int .i64 m.st) rfl
      go_simp; first | done | with_reducible rfl)) ?_
    simp only [List.setIfInBounds_toArray, List.set_cons_zero, List.set_cons_succ]
    refine Disk.z_take 3 16 (v := .int .i64 m.st) rfl rfl (by kernel_rfl) (by kernel_rfl) (by kernel_rfl) (by kernel_rfl) (by rfl) hz (fun W' hSw => (by
      have z11 := hSw.cell 11 (.slice (some ⟨O, 0, none⟩) m.out.length m.out.length) rfl
      have z12 := hSw.cell 12 (.int .i64 m.st) rfl
      go_simp; first | done | with_reducible rfl)) ?_
    simp only [List.setIfInBounds_toArray, List.set_cons_zero, List.set_cons_succ]
    refine Disk.z_take 4 2 (v := .slice (some ⟨O, 0, none⟩) m.out.length m.out.length) rfl rfl (by kernel_rfl) (by kernel_rfl) (by kernel_rfl) (by kernel_rfl) (by rfl) hz (fun W' hSw => (by
      have z11 := hSw.cell 11 (.slice (some ⟨O, 0, none⟩) m.out.length m.out.length) rfl
      have z12 := hSw.cell 12 (.int .i64 m.st) rfl
      go_simp; first | done | with_reducible rfl)) ?_
    simp only [List.setIfInBounds_toArray, List.set_cons_zero, List.set_cons_succ]
    refine Disk.z_take 5 3 (v := .int .i64 m.st) rfl rfl (by kernel_rfl) (by kernel_rfl) (by kernel_rfl) (by kernel_rfl) (by rfl) hz (fun W' hSw => (by
      have z11 := hSw.cell 11 (.slice (some ⟨O, 0, none⟩) m.out.length m.out.length) rfl
      have z12 := hSw.cell 12 (.int .i64 m.st) rfl
      go_simp; first | done | with_reducible rfl)) ?_
    simp only [List.setIfInBounds_toArray, List.set_cons_zero, List.set_cons_succ]
    refine Disk.z_done (by kernel_rfl) ?_ _
    clear hz D2
    go_wp2
    go_ret2
    exact ⟨R, bw2.drew⟩
  · have R := ResOut.no (B := w.heap.size) (c := 0) (w' := w1.alloc (.cells #[.slice none 0 0, .slice none 0 0, .slice none 0 0, .int .i64 0, .int .i64 0, .int .i64 0, .bool false, .int .i64 0, .slice none 0 0, .slice none 0 0, .int .i64 0, .slice none 0 0, .int .i64 0] 74)) (ao := none) (m := m) (by rw [ok]; rfl)
    go_wp2
    go_ret2
    exact ⟨R, bw1.alloc bw1.size _⟩

set_option maxRecDepth 100000 in
set_option maxHeartbeats 1600000 in
theorem specResult_any (v : Value) (m : Mp) (w : World) (hv : VR w v m) (hs : smM m 1000000000)
    (SV : ∀ v w, VR w v m → Calls Tryz.prog 22 #[v] w fun e w' => e = .returned (.bool (okM m.h m.prog m.pc m.out m.st && partsB m.h)) ∧ Below w.heap.size w w') :
    Calls Tryz.prog 24 #[v] w fun e w' => ResOut m w.heap.size e w' ∧ Below w.heap.size w w' := by
  have hv0 := hv
  obtain ⟨v1, v2, v3, vp, vo, rfl, i1, i2, i3, ip, io⟩ := hv
  obtain ⟨s1, s2, s3, s4, s5⟩ := hs
  have hb0 := bel_one w (.cells #[v1, v2, .int .i64 m.h.old, .int .i64 m.h.eden, .int .i64 m.h.surv, .bool m.h.flip, .int .i64 m.h.hash, v3, vp, .int .i64 m.pc, vo, .int .i64 m.st] 30)
  have B0 : Bk (w.alloc (.cells #[v1, v2, .int .i64 m.h.old, .int .i64 m.h.eden, .int .i64 m.h.surv, .bool m.h.flip, .int .i64 m.h.hash, v3, vp, .int .i64 m.pc, vo, .int .i64 m.st] 30)) w.heap.size #[v1, v2, .int .i64 m.h.old, .int .i64 m.h.eden, .int .i64 m.h.surv, .bool m.h.flip, .int .i64 m.h.hash, v3, vp, .int .i64 m.pc, vo, .int .i64 m.st] 30 := Bk.new w _ _
  have x0 := B0.cell 0 (v1) rfl
  have x1 := B0.cell 1 (v2) rfl
  have x2 := B0.cell 2 (.int .i64 m.h.old) rfl
  have x3 := B0.cell 3 (.int .i64 m.h.eden) rfl
  have x4 := B0.cell 4 (.int .i64 m.h.surv) rfl
  have x5 := B0.cell 5 (.bool m.h.flip) rfl
  have x6 := B0.cell 6 (.int .i64 m.h.hash) rfl
  have x7 := B0.cell 7 (v3) rfl
  have x8 := B0.cell 8 (vp) rfl
  have x9 := B0.cell 9 (.int .i64 m.pc) rfl
  have x10 := B0.cell 10 (vo) rfl
  have x11 := B0.cell 11 (.int .i64 m.st) rfl
  have SP := SV _ _ (hv0.later hb0)
  clear SV hv0
  go_enter Tryz.func24, Tryz.ntmps24
  go_wp2_with fail
  refine SP.mono ?_
  clear SP x0 x1 x2 x3 x4 x5 x6 x7 x8 x9 x10 x11
  rintro e w1 ⟨rfl, hb1⟩
  have bw1 := bel_after hb0 hb1
  have B1 := B0.later hb1
  cases hr : (okM m.h m.prog m.pc m.out m.st && partsB m.h)
  · have R := ResOut.no (B := w.heap.size) (c := 0) (w' := w1.alloc (.cells #[] 2)) (ao := some ⟨w1.heap.size, 0, none⟩) (m := m) hr
    clear hr B0 B1
    go_wp2
    go_ret2
    exact ⟨R, bw1.alloc bw1.size _⟩
  have R := fun W u => ResOut.yes (B := w.heap.size) (w' := W) (u := u) (m := m) hr
  clear hr
  go_wp2_with fail
  refine Disk.z_plain 99 (fun W' => Bk W' w.heap.size #[v1, v2, .int .i64 m.h.old, .int .i64 m.h.eden, .int .i64 m.h.surv, .bool m.h.flip, .int .i64 m.h.hash, v3, vp, .int .i64 m.pc, vo, .int .i64 m.st] 30) (by kernel_rfl) B1.drew fun hz => ?_
  refine Disk.z_take 1 9 (v := .pointer (some ⟨w.heap.size, 10, none⟩)) rfl rfl (by kernel_rfl) (by kernel_rfl) (by kernel_rfl) (by kernel_rfl) (by rfl) hz (fun W' hSw => (by
    have z10 := hSw.cell 10 (vo) rfl
    have z11 := hSw.cell 11 (.int .i64 m.st) rfl
    go_simp; first | done | with_reducible rfl)) ?_
  simp only [List.setIfInBounds_toArray, List.set_cons_zero, List.set_cons_succ]
  refine Disk.z_take 2 10 (v := vo) rfl rfl (by kernel_rfl) (by kernel_rfl) (by kernel_rfl) (by kernel_rfl) (by rfl) hz (fun W' hSw => (by
    have z10 := hSw.cell 10 (vo) rfl
    have z11 := hSw.cell 11 (.int .i64 m.st) rfl
    go_simp; first | done | with_reducible rfl)) ?_
  simp only [List.setIfInBounds_toArray, List.set_cons_zero, List.set_cons_succ]
  refine Disk.z_take 4 12 (v := .pointer (some ⟨w.heap.size, 11, none⟩)) rfl rfl (by kernel_rfl) (by kernel_rfl) (by kernel_rfl) (by kernel_rfl) (by rfl) hz (fun W' hSw => (by
    have z10 := hSw.cell 10 (vo) rfl
    have z11 := hSw.cell 11 (.int .i64 m.st) rfl
    go_simp; first | done | with_reducible rfl)) ?_
  simp only [List.setIfInBounds_toArray, List.set_cons_zero, List.set_cons_succ]
  refine Disk.z_take 5 13 (v := .int .i64 m.st) rfl rfl (by kernel_rfl) (by kernel_rfl) (by kernel_rfl) (by kernel_rfl) (by rfl) hz (fun W' hSw => (by
    have z10 := hSw.cell 10 (vo) rfl
    have z11 := hSw.cell 11 (.int .i64 m.st) rfl
    go_simp; first | done | with_reducible rfl)) ?_
  simp only [List.setIfInBounds_toArray, List.set_cons_zero, List.set_cons_succ]
  have hz1 : Bk (w1.drew.alloc (.cells #[] 2)) w.heap.size #[v1, v2, .int .i64 m.h.old, .int .i64 m.h.eden, .int .i64 m.h.surv, .bool m.h.flip, .int .i64 m.h.hash, v3, vp, .int .i64 m.pc, vo, .int .i64 m.st] 30 := hz.alloc _
  have RE := empty_ri w1.drew
  refine Disk.z_run 0 8 (w' := w1.drew.alloc (.cells #[] 2)) (v := .slice (some ⟨w1.drew.heap.size, 0, none⟩) 0 0) rfl rfl (by kernel_rfl) (by rfl) (by go_simp; first | done | with_reducible rfl) (.inr hz1) ?_
  simp only [List.setIfInBounds_toArray, List.set_cons_zero, List.set_cons_succ]
  have al := bel_one w1.drew (.cells #[] 2)
  have bd : Below w.heap.size w w1.drew := bw1.drew
  have bw2 := bel_after bd al
  obtain ⟨u, w3, run, hi, hos, hg, hrow⟩ := run_appK (w1.drew.alloc (.cells #[] 2)) 26 w1.drew.heap.size RE vo m.out (io.later bw2) (by omega)
  have le1 : w.heap.size ≤ w1.drew.heap.size := bd.size
  have lt1 : w.heap.size < w1.drew.heap.size := B1.drew.lt
  have sz2 : (w1.drew.alloc (.cells #[] 2)).heap.size = w1.drew.heap.size + 1 := by simp
  have hz3 : Bk w3 w.heap.size #[v1, v2, .int .i64 m.h.old, .int .i64 m.h.eden, .int .i64 m.h.surv, .bool m.h.flip, .int .i64 m.h.hash, v3, vp, .int .i64 m.pc, vo, .int .i64 m.st] 30 := hz1.off hg (by intro e; injection e with e; omega)
  have bw3 : Below w.heap.size w w3 := Below.grown bw2 hg (by omega) (fun q hq => by cases hq; exact le1)
  have R2 := R w3 u hi hos (fun b hb => by have := hrow b hb; omega)
  clear hz1 RE R hi hos hg hrow sz2 le1 lt1
  refine Disk.z_run 3 11 (w' := w3) (v := u) rfl rfl (by kernel_rfl) (by rfl) (exec_appK _ _ rfl _ _ rfl rfl run) (.inr hz3) ?_
  simp only [List.setIfInBounds_toArray, List.set_cons_zero, List.set_cons_succ]
  refine Disk.z_take 6 2 (v := u) rfl rfl (by kernel_rfl) (by kernel_rfl) (by kernel_rfl) (by kernel_rfl) (by rfl) hz3 (fun W' hSw => (by
    clear hSw
    go_simp; first | done | with_reducible rfl)) ?_
  simp only [List.setIfInBounds_toArray, List.set_cons_zero, List.set_cons_succ]
  refine Disk.z_take 7 3 (v := .int .i64 m.st) rfl rfl (by kernel_rfl) (by kernel_rfl) (by kernel_rfl) (by kernel_rfl) (by rfl) hz3 (fun W' hSw => (by
    clear hSw
    go_simp; first | done | with_reducible rfl)) ?_
  simp only [List.setIfInBounds_toArray, List.set_cons_zero, List.set_cons_succ]
  refine Disk.z_done (by kernel_rfl) ?_ _
  clear hz hz3 B0 B1 run
  go_wp2
  go_ret2
  exact ⟨R2, bw3⟩

end Go.Proofs.YtgacacbncefeaaaGreat
