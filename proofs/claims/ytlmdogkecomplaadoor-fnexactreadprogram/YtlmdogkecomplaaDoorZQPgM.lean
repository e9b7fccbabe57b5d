/- Programs held against each other, marked and held: eqCodeS, markCodeS, heldCodeS. -/
import Derived.Test.YtlmdogkecomplaaDoorZQPgS
import Derived.Test.YtlmdogkecomplaaDoorZQLawR
namespace Go.Proofs.YtlmdogkecomplaaDoor
open Go.RowKit

theorem cc_get : ∀ (l : List (Int × Int)) (i : Nat), i < l.length → (ccells l)[i * 2]? = some (.int .i64 (l.getD i (0, 0)).1) ∧ (ccells l)[i * 2 + 1]? = some (.int .i64 (l.getD i (0, 0)).2)
  | [], i, h => absurd h (Nat.not_lt_zero _)
  | p :: l, 0, _ => by simp [ccells]
  | p :: l, i + 1, h => by
    have ih := cc_get l i (by simpa using h)
    have e : ccells (p :: l) = .int .i64 p.1 :: .int .i64 p.2 :: ccells l := by simp [ccells]
    rw [e, show (i + 1) * 2 = i * 2 + 1 + 1 from by omega]
    simpa using ih
set_option maxRecDepth 100000 in
set_option maxHeartbeats 2000000 in
theorem eqCodeS_any (v1 v2 : Value) (l : List (Int × Int)) (B1 B2 : Nat) (w : World) (h1 : w.ownsRow B1 25 2 v1 l.length (ccells l)) (h2 : w.ownsRow B2 25 2 v2 l.length (ccells l)) (hl : l.length ≤ 1000) :
    Calls Tryd.prog 14 #[v1, v2] w fun e w' => e = .returned (.bool true) ∧ Below w.heap.size w w' := by
  have hmx : Tryd.prog.follows .mixedOrders = true := by kernel_rfl
  have EQ := fun a b w => eqCode_any a b w
  unfold codeV at EQ
  have HG : Hid (∀ i, i < l.length → (ccells l)[i * 2]? = some (.int .i64 (l.getD i (0, 0)).1) ∧ (ccells l)[i * 2 + 1]? = some (.int .i64 (l.getD i (0, 0)).2)) := fun i h => cc_get l i h
  obtain ⟨a1, c1, rfl, g1⟩ := own_shape h1
  obtain ⟨a2, c2, rfl, g2⟩ := own_shape h2
  replace h1 : Hid (w.ownsRow B1 25 2 (.slice a1 l.length c1) l.length (ccells l)) := h1
  replace h2 : Hid (w.ownsRow B2 25 2 (.slice a2 l.length c2) l.length (ccells l)) := h2
  generalize ccells l = xs at *
  generalize hf : (fun i => l.getD i (0, 0)) = f at *
  replace HG : Hid (∀ i, i < l.length → xs[i * 2]? = some (.int .i64 (f i).1) ∧ xs[i * 2 + 1]? = some (.int .i64 (f i).2)) := (fun i h => by rw [← hf]; exact HG.out i h)
  clear hf
  generalize l.length = n at *
  go_enter Tryd.func14, Tryd.ntmps14
  go_wp2
  go_loopw [4, 5] (fun _ iv wr => ∃ k : Nat, k ≤ n ∧ iv = .int .i64 k ∧ Below w.heap.size w wr) (fun _ iv _ => n - (intOf iv).toNat)
  case atStart => exact ⟨0, Nat.zero_le _, rfl, Below.refl _ _⟩
  case round =>
    obtain ⟨k, hk, rfl, hb⟩ := hrel
    by_cases hlt : k < n
    · obtain ⟨b1, rfl⟩ := g1 (by omega)
      obtain ⟨b2, rfl⟩ := g2 (by omega)
      have p1 := own_laterQ h1.out hb
      have p2 := own_laterQ h2.out hb
      obtain ⟨q0, q1⟩ := HG.out k hlt
      have e0 : wr.cell? ⟨b1, k * 2, none⟩ = some (.int .i64 (f k).1) := by rw [p1.cellAt _ (by omega)]; exact q0
      have e1 : wr.cell? ⟨b1, k * 2 + 1, none⟩ = some (.int .i64 (f k).2) := by rw [p1.cellAt _ (by omega)]; exact q1
      have e2 : wr.cell? ⟨b2, k * 2, none⟩ = some (.int .i64 (f k).1) := by rw [p2.cellAt _ (by omega)]; exact q0
      have e3 : wr.cell? ⟨b2, k * 2 + 1, none⟩ = some (.int .i64 (f k).2) := by rw [p2.cellAt _ (by omega)]; exact q1
      clear p1 p2 q0 q1 h1 h2 HG g1 g2
      have hki : (k : Int) < n := by omega
      generalize (f k).1 = x at *
      generalize (f k).2 = y at *
      go_wp2_with fail
      refine Disk.z_plain 99 (fun W' => W'.cell? ⟨b1, k * 2, none⟩ = some (.int .i64 x) ∧ W'.cell? ⟨b1, k * 2 + 1, none⟩ = some (.int .i64 y) ∧ W'.cell? ⟨b2, k * 2, none⟩ = some (.int .i64 x) ∧ W'.cell? ⟨b2, k * 2 + 1, none⟩ = some (.int .i64 y)) hmx ⟨e0, e1, e2, e3⟩ (fun hS => ?_)
      refine Disk.z_take 0 17 (v := .slice (some ⟨b1, 0, none⟩) n c1) rfl rfl (by kernel_rfl) (by kernel_rfl) (by kernel_rfl) (by kernel_rfl) (by rfl) hS (fun W' hSw => (by
        obtain ⟨s0, s1, s2, s3⟩ := hSw
        go_simp; first | done | with_reducible rfl)) ?_
      simp only [List.setIfInBounds_toArray, List.set_cons_zero, List.set_cons_succ]
      refine Disk.z_take 1 18 (v := .int .i64 k) rfl rfl (by kernel_rfl) (by kernel_rfl) (by kernel_rfl) (by kernel_rfl) (by rfl) hS (fun W' hSw => (by
        obtain ⟨s0, s1, s2, s3⟩ := hSw
        go_simp; first | done | with_reducible rfl)) ?_
      simp only [List.setIfInBounds_toArray, List.set_cons_zero, List.set_cons_succ]
      refine Disk.z_take 2 19 (v := .pointer (some ⟨b1, k * 2, none⟩)) rfl rfl (by kernel_rfl) (by kernel_rfl) (by kernel_rfl) (by kernel_rfl) (by rfl) hS (fun W' hSw => (by
        obtain ⟨s0, s1, s2, s3⟩ := hSw
        go_simp; first | done | with_reducible rfl)) ?_
      simp only [List.setIfInBounds_toArray, List.set_cons_zero, List.set_cons_succ]
      refine Disk.z_take 3 20 (v := .agg #[.int .i64 x, .int .i64 y]) rfl rfl (by kernel_rfl) (by kernel_rfl) (by kernel_rfl) (by kernel_rfl) (by rfl) hS (fun W' hSw => (by
        obtain ⟨s0, s1, s2, s3⟩ := hSw
        go_simp; first | done | with_reducible rfl)) ?_
      simp only [List.setIfInBounds_toArray, List.set_cons_zero, List.set_cons_succ]
      refine Disk.z_take 4 21 (v := .slice (some ⟨b2, 0, none⟩) n c2) rfl rfl (by kernel_rfl) (by kernel_rfl) (by kernel_rfl) (by kernel_rfl) (by rfl) hS (fun W' hSw => (by
        obtain ⟨s0, s1, s2, s3⟩ := hSw
        go_simp; first | done | with_reducible rfl)) ?_
      simp only [List.setIfInBounds_toArray, List.set_cons_zero, List.set_cons_succ]
      refine Disk.z_take 5 22 (v := .int .i64 k) rfl rfl (by kernel_rfl) (by kernel_rfl) (by kernel_rfl) (by kernel_rfl) (by rfl) hS (fun W' hSw => (by
        obtain ⟨s0, s1, s2, s3⟩ := hSw
        go_simp; first | done | with_reducible rfl)) ?_
      simp only [List.setIfInBounds_toArray, List.set_cons_zero, List.set_cons_succ]
      refine Disk.z_take 6 23 (v := .pointer (some ⟨b2, k * 2, none⟩)) rfl rfl (by kernel_rfl) (by kernel_rfl) (by kernel_rfl) (by kernel_rfl) (by rfl) hS (fun W' hSw => (by
        obtain ⟨s0, s1, s2, s3⟩ := hSw
        go_simp; first | done | with_reducible rfl)) ?_
      simp only [List.setIfInBounds_toArray, List.set_cons_zero, List.set_cons_succ]
      refine Disk.z_take 7 24 (v := .agg #[.int .i64 x, .int .i64 y]) rfl rfl (by kernel_rfl) (by kernel_rfl) (by kernel_rfl) (by kernel_rfl) (by rfl) hS (fun W' hSw => (by
        obtain ⟨s0, s1, s2, s3⟩ := hSw
        go_simp; first | done | with_reducible rfl)) ?_
      simp only [List.setIfInBounds_toArray, List.set_cons_zero, List.set_cons_succ]
      refine Disk.z_call 8 25 rfl rfl (by kernel_rfl) (by rfl) (f := 11) (args := #[.agg #[.int .i64 x, .int .i64 y], .agg #[.int .i64 x, .int .i64 y]]) (w0 := wr.drew) (by go_simp; first | done | with_reducible rfl) ?_
      refine (EQ _ _ _).mono ?_
      rintro e w2 ⟨rfl, hb2⟩
      have hS2 : w2.cell? ⟨b1, k * 2, none⟩ = some (.int .i64 x) ∧ w2.cell? ⟨b1, k * 2 + 1, none⟩ = some (.int .i64 y) ∧ w2.cell? ⟨b2, k * 2, none⟩ = some (.int .i64 x) ∧ w2.cell? ⟨b2, k * 2 + 1, none⟩ = some (.int .i64 y) := ⟨cell_later hb2 hS.1, cell_later hb2 hS.2.1, cell_later hb2 hS.2.2.1, cell_later hb2 hS.2.2.2⟩
      refine ⟨_, rfl, .inr hS2, ?_⟩
      simp only [List.setIfInBounds_toArray, List.set_cons_zero, List.set_cons_succ]
      refine Disk.z_run 9 26 (v := .bool false) rfl rfl (by kernel_rfl) (by rfl) (by go_simp; first | done | with_reducible rfl) (.inr hS2) ?_
      simp only [List.setIfInBounds_toArray, List.set_cons_zero, List.set_cons_succ]
      refine Disk.z_done (by kernel_rfl) ?_ _
      have hb3 := bel_afterQ hb.drew hb2
      clear hS hS2 e0 e1 e2 e3 EQ hb2
      go_wp2
      exact ⟨⟨k + 1, by omega, by go_num, hb3⟩, by simp [intOf]; omega⟩
    · obtain rfl : k = n := by omega
      go_wp2
      go_ret
      exact ⟨rfl, hb⟩

/-- Every cell holds its mark. -/
def Mk (ys : List Value) (m : Nat) : Prop := ∀ j, j < m → ys[j]? = some (.int .i64 (1 + (j : Int)))
theorem Mk.put {ys : List Value} {m : Nat} (h : Mk ys m) (hm : m < ys.length) : Mk (ys.set m (.int .i64 (1 + (m : Int)))) (m + 1) := by
  intro j hj
  by_cases e : j = m
  · subst e
    simp [hm]
  · rw [List.getElem?_set_ne (by omega)]
    exact h j (by omega)
/-- What markCodeS leaves. -/
def MkOut (B : Nat) (v : Value) (n : Nat) (w w' : World) : Prop := ∃ ys, w'.ownsRow B 25 2 v n ys ∧ Mk ys (n * 2) ∧ w.grownBy w' v.ownBlock
set_option maxRecDepth 100000 in
set_option maxHeartbeats 2000000 in
theorem markCodeS_any (v : Value) (n : Nat) (xs : List Value) (B : Nat) (w : World) (h : w.ownsRow B 25 2 v n xs) (hn : n ≤ 1000) :
    Calls Tryd.prog 15 #[v, .int .i64 1] w fun e w' => e = .returned (.int .i64 (1 + 2 * (n : Int))) ∧ MkOut B v n w w' := by
  obtain ⟨a, c, rfl, g⟩ := own_shape h
  have OK : Hid (∀ ys w', w'.ownsRow B 25 2 (.slice a n c) n ys → Mk ys (n * 2) → w.grownBy w' (Value.slice a n c).ownBlock → MkOut B (.slice a n c) n w w') := fun ys w' h1 h2 h3 => ⟨ys, h1, h2, h3⟩
  replace h : Hid (w.ownsRow B 25 2 (.slice a n c) n xs) := h
  go_enter Tryd.func15, Tryd.ntmps15
  go_wp2
  go_loopw [1, 5] (fun kv iv wr => ∃ (i : Nat) (ys : List Value), i ≤ n ∧ iv = .int .i64 i ∧ kv = .int .i64 (1 + 2 * (i : Int)) ∧ Hid (wr.ownsRow B 25 2 (.slice a n c) n ys) ∧ Hid (Mk ys (i * 2)) ∧ Hid (w.grownBy wr (Value.slice a n c).ownBlock)) (fun _ iv _ => n - (intOf iv).toNat)
  case atStart => exact ⟨0, xs, Nat.zero_le _, rfl, rfl, h.out, fun j hj => by omega, ⟨rfl, rfl, rfl, Nat.le_refl _, fun _ _ _ => rfl⟩⟩
  case round =>
    obtain ⟨i, ys, hi, rfl, rfl, hown, hM, hG⟩ := hrel
    by_cases hlt : i < n
    · obtain ⟨b, rfl⟩ := g (by omega)
      have hyl := hown.out.1
      have f0 := hown.out.frozenAt (i * 2)
      obtain ⟨u0, d0⟩ : ∃ u, wr.cell? ⟨b, i * 2, none⟩ = some u := by
        rw [hown.out.cellAt _ (by omega)]
        exact ⟨_, List.getElem?_eq_getElem (by omega)⟩
      have st0 := store_one f0 d0 (v := 1 + 2 * (i : Int))
      obtain ⟨o1, gr1⟩ := hown.out.stored (i * 2) (.int .i64 (1 + 2 * (i : Int)))
      have m1 : Mk (ys.set (i * 2) (.int .i64 (1 + 2 * (i : Int)))) (i * 2 + 1) := by
        have := hM.out.put (by omega)
        rw [show (1 + ((i * 2 : Nat) : Int)) = 1 + 2 * (i : Int) from by omega] at this
        exact this
      have f1 := o1.frozenAt (i * 2 + 1)
      obtain ⟨u1, d1⟩ : ∃ u, (wr.setCell ⟨b, i * 2, none⟩ (.int .i64 (1 + 2 * (i : Int)))).cell? ⟨b, i * 2 + 1, none⟩ = some u := by
        rw [o1.cellAt _ (by omega)]
        exact ⟨_, List.getElem?_eq_getElem (by rw [List.length_set]; omega)⟩
      have st1 := store_one f1 d1 (v := 1 + 2 * (i : Int) + 1)
      obtain ⟨o2, gr2⟩ := o1.stored (i * 2 + 1) (.int .i64 (1 + 2 * (i : Int) + 1))
      have m2 : Mk ((ys.set (i * 2) (.int .i64 (1 + 2 * (i : Int)))).set (i * 2 + 1) (.int .i64 (1 + 2 * (i : Int) + 1))) (i * 2 + 1 + 1) := by
        have := m1.put (by rw [List.length_set]; omega)
        rw [show (1 + ((i * 2 + 1 : Nat) : Int)) = 1 + 2 * (i : Int) + 1 from by omega] at this
        exact this
      have hG2 : w.grownBy _ (some b) := (hG.out.andThen gr1 (fun j e => .inr e)).andThen gr2 (fun j e => .inr e)
      generalize wr.setCell ⟨b, i * 2, none⟩ (.int .i64 (1 + 2 * (i : Int))) = w3 at *
      generalize w3.setCell ⟨b, i * 2 + 1, none⟩ (.int .i64 (1 + 2 * (i : Int) + 1)) = w4 at *
      replace o2 : Hid _ := o2
      replace m2 : Hid _ := m2
      replace hG2 : Hid _ := hG2
      clear f0 f1 d0 d1 o1 gr1 gr2 m1 hown hM hG h hyl
      have hki : (i : Int) < n := by omega
      go_wp2_with (first | (refine store_q st0 rfl _ _ rfl rfl rfl rfl ?_) | (refine store_q st1 rfl _ _ rfl rfl rfl rfl ?_))
      exact ⟨⟨i + 1, _, by omega, by go_num, by go_num, o2.out, by rw [show (i + 1) * 2 = i * 2 + 1 + 1 from by omega]; exact m2.out, hG2.out⟩, by simp [intOf]; omega⟩
    · obtain rfl : i = n := by omega
      go_wp2
      go_ret
      exact ⟨rfl, OK.out _ _ hown.out hM.out hG.out⟩

set_option maxRecDepth 100000 in
set_option maxHeartbeats 2000000 in
theorem heldCodeS_any (v : Value) (n : Nat) (ys : List Value) (B : Nat) (w : World) (h : w.ownsRow B 25 2 v n ys) (hM : Mk ys (n * 2)) (hn : n ≤ 1000) :
    Calls Tryd.prog 16 #[v, .int .i64 1] w fun e w' => e = .returned (.int .i64 (1 + 2 * (n : Int))) ∧ w' = w := by
  obtain ⟨a, c, rfl, g⟩ := own_shape h
  replace h : Hid (w.ownsRow B 25 2 (.slice a n c) n ys) := h
  replace hM : Hid (Mk ys (n * 2)) := hM
  go_enter Tryd.func16, Tryd.ntmps16
  go_wp2
  go_loopw [1, 4, 5] (fun kv _ iv wr => ∃ i : Nat, i ≤ n ∧ iv = .int .i64 i ∧ kv = .int .i64 (1 + 2 * (i : Int)) ∧ wr = w) (fun _ _ iv _ => n - (intOf iv).toNat)
  case atStart => exact ⟨0, Nat.zero_le _, rfl, rfl, rfl⟩
  case round =>
    obtain ⟨i, hi, rfl, rfl, rfl⟩ := hrel
    by_cases hlt : i < n
    · obtain ⟨b, rfl⟩ := g (by omega)
      have d0 : wr.cell? ⟨b, i * 2, none⟩ = some (.int .i64 (1 + 2 * (i : Int))) := by
        rw [h.out.cellAt _ (by omega), hM.out _ (by omega), show (1 + ((i * 2 : Nat) : Int)) = 1 + 2 * (i : Int) from by omega]
      have d1 : wr.cell? ⟨b, i * 2 + 1, none⟩ = some (.int .i64 (1 + 2 * (i : Int) + 1)) := by
        rw [h.out.cellAt _ (by omega), hM.out _ (by omega), show (1 + ((i * 2 + 1 : Nat) : Int)) = 1 + 2 * (i : Int) + 1 from by omega]
      have hki : (i : Int) < n := by omega
      go_wp2
      exact ⟨⟨i + 1, by omega, by go_num, by go_num, trivial⟩, by simp [intOf]; omega⟩
    · obtain rfl : i = n := by omega
      go_wp2
      go_ret
      exact ⟨rfl, rfl⟩

end Go.Proofs.YtlmdogkecomplaaDoor
