/- Small functions of the program's become: what a word is then, words that are changed each, is it an object, is it contained. -/
import Derived.Test.YthdffigckohpoaaGreatZU15
import Derived.Test.YthdffigckohpoaaGreatZU9
namespace Go.Proofs.YthdffigckohpoaaGreat
open Go.RowKit

theorem fwd1_any (a b x : Int) (A B : Nat) (w : World) (ha : w.cell? ⟨A, 0, none⟩ = some (.int .i64 a)) (hb : w.cell? ⟨B, 0, none⟩ = some (.int .i64 b)) :
    Calls Tryz.prog 56 #[.int .i64 x, .pointer (some ⟨A, 0, none⟩), .pointer (some ⟨B, 0, none⟩)] w fun e w' => e = .returned (.int .i64 (fwd a b x)) ∧ w' = w := by
  by_cases h : x = a
  · have D : (x == a) = true := by simp [h]
    have E : Hid (fwd a b x = b) := (by unfold fwd; rw [if_pos h] : fwd a b x = b)
    clear h
    go_enter Tryz.func56, Tryz.ntmps56
    go_wp2
    go_ret
    exact ⟨wret_int E.out.symm, rfl⟩
  · have D : (x == a) = false := by simp [h]
    have E : Hid (fwd a b x = x) := (by unfold fwd; rw [if_neg h] : fwd a b x = x)
    clear h
    go_enter Tryz.func56, Tryz.ntmps56
    go_wp2
    go_ret
    exact ⟨wret_int E.out.symm, rfl⟩
theorem exg1_any (a b x : Int) (A B : Nat) (w : World) (ha : w.cell? ⟨A, 0, none⟩ = some (.int .i64 a)) (hb : w.cell? ⟨B, 0, none⟩ = some (.int .i64 b)) :
    Calls Tryz.prog 47 #[.int .i64 x, .pointer (some ⟨A, 0, none⟩), .pointer (some ⟨B, 0, none⟩)] w fun e w' => e = .returned (.int .i64 (exg a b x)) ∧ w' = w := by
  by_cases h : x = a
  · have D : (x == a) = true := by simp [h]
    have E : Hid (exg a b x = b) := (by unfold exg; rw [if_pos h] : exg a b x = b)
    clear h
    go_enter Tryz.func47, Tryz.ntmps47
    go_wp2
    go_ret
    exact ⟨wret_int E.out.symm, rfl⟩
  · have D : (x == a) = false := by simp [h]
    by_cases h2 : x = b
    · have D2 : (x == b) = true := by simp [h2]
      have E : Hid (exg a b x = a) := (by unfold exg; rw [if_neg h, if_pos h2] : exg a b x = a)
      clear h h2
      go_enter Tryz.func47, Tryz.ntmps47
      go_wp2
      go_ret
      exact ⟨wret_int E.out.symm, rfl⟩
    · have D2 : (x == b) = false := by simp [h2]
      have E : Hid (exg a b x = x) := (by unfold exg; rw [if_neg h, if_neg h2] : exg a b x = x)
      clear h h2
      go_enter Tryz.func47, Tryz.ntmps47
      go_wp2
      go_ret
      exact ⟨wret_int E.out.symm, rfl⟩

/-- A function value that answers f x, reading two numbers that it has caught. -/
def ThenF (F A B : Nat) (a b : Int) (f : Int → Int) : Prop := ∀ (x : Int) (W : World), W.cell? ⟨A, 0, none⟩ = some (.int .i64 a) → W.cell? ⟨B, 0, none⟩ = some (.int .i64 b) →
  Calls Tryz.prog F #[.int .i64 x, .pointer (some ⟨A, 0, none⟩), .pointer (some ⟨B, 0, none⟩)] W fun e w' => e = .returned (.int .i64 (f x)) ∧ w' = W
theorem cW_step {f : Int → Int} {V : List Int} {q j : Nat} (h : q + j < V.length) : (cW f V (rngB q j)).set (q + j) (f (gw V (q + j))) = cW f V (rngB q (j + 1)) := by
  rw [cW_set h rfl]
  exact cW_congr fun i _ => rng_succ q j i
theorem cW_at {f : Int → Int} {V : List Int} {q j : Nat} (h : q + j < V.length) : (cW f V (rngB q j)).getD (q + j) 0 = gw V (q + j) := by
  show gw _ _ = _
  rw [cW_gw _ _ _ h, rngB, decide_eq_false (by omega)]
  rfl

set_option maxRecDepth 100000 in
set_option maxHeartbeats 800000 in
theorem changeEach_any (F A B : Nat) (a b : Int) (f : Int → Int) (hF : F = 56 ∨ F = 47) (T : ThenF F A B a b f) (g q n c cap : Nat) (V : List Int) (w : World) (R : RI w g V c) (hq : n = 0 ∨ q + n ≤ V.length) (hn : n ≤ 1000000000)
    (gA : g ≠ A) (gB : g ≠ B) (ha : w.cell? ⟨A, 0, none⟩ = some (.int .i64 a)) (hb : w.cell? ⟨B, 0, none⟩ = some (.int .i64 b)) :
    Calls Tryz.prog 78 #[.slice (some ⟨g, q, none⟩) n cap, .func (.func F) #[] #[.pointer (some ⟨A, 0, none⟩), .pointer (some ⟨B, 0, none⟩)]] w fun e w' => e = .returned (.tuple #[]) ∧ RI w' g (cW f V (rngB q n)) c ∧ w.grownBy w' (some g) := by
  go_enter Tryz.func78, Tryz.ntmps78
  go_wp2
  go_loopw [8] (fun i wr => ∃ j : Nat, i = .int .i64 j ∧ j ≤ n ∧ RI wr g (cW f V (rngB q j)) c ∧ w.grownBy wr (some g)) (fun i _ => n - (intOf i).toNat)
  case atStart => exact ⟨0, rfl, Nat.zero_le _, by rw [cW_zero]; exact R, World.grownBy.refl _ _⟩
  case round =>
    obtain ⟨j, rfl, hj, RJ, G⟩ := hrel
    by_cases hlt : j < n
    · have hqj : q + j < V.length := by omega
      have c1 := RJ.cell (i := q + j) (by rw [cW_length]; exact hqj)
      rw [cW_at hqj] at c1
      have fz := RJ.frozen (q + j)
      have a1 := G.cell ha (fun e => gA (Option.some.inj e).symm)
      have b1 := G.cell hb (fun e => gB (Option.some.inj e).symm)
      have TT := T (gw V (q + j)) wr a1 b1
      have RS := RJ.set (q + j) (f (gw V (q + j)))
      rw [cW_step hqj] at RS
      have GS := Disk.grown_trans G (Disk.grown_set wr g (q + j) (.int .i64 (f (gw V (q + j)))))
      generalize gw V (q + j) = x at *
      generalize f x = y at *
      clear RJ G T
      rcases hF with rfl | rfl
      · go_wp2_with (refine TT.mono ?_; rintro e w2 ⟨rfl, hw2⟩; obtain rfl := hw2.symm)
        exact ⟨⟨j + 1, by go_num, by omega, RS, GS⟩, by simp [intOf]; omega⟩
      · go_wp2_with (refine TT.mono ?_; rintro e w2 ⟨rfl, hw2⟩; obtain rfl := hw2.symm)
        exact ⟨⟨j + 1, by go_num, by omega, RS, GS⟩, by simp [intOf]; omega⟩
    · obtain rfl : j = n := by omega
      go_wp2
      go_end0
      exact ⟨rfl, RJ, G⟩

/-- Is this word the address of one of these? -/
def refL (l : List Nat) (x : Int) : Bool := isK 2 x && (ints l).contains (x / 2)
theorem isObject_any (v : Value) (l : List Nat) (x : Int) (w : World) (hv : IR w v (ints l)) (hs : l.Pairwise (· < ·)) (h1 : l.length ≤ 1000000000) :
    Calls Tryz.prog 51 #[v, .int .i64 x] w fun e w' => e = .returned (.bool (refL l x)) ∧ Below w.heap.size w w' := by
  have R := fun w => implRefOf_any x w
  cases hk : isK 2 x
  · rw [hk, valK_no hk] at R
    have E : Hid (refL l x = false) := (by unfold refL; rw [hk]; rfl : refL l x = false)
    go_enter Tryz.func51, Tryz.ntmps51
    go_wp2_with fail
    refine (R _).mono ?_
    rintro e w1 ⟨rfl, rfl⟩
    go_wp2
    go_ret
    exact ⟨wret_bool E.out.symm, Below.refl _ _⟩
  · rw [hk, valK_yes hk] at R
    have E : Hid (refL l x = (ints l).contains (x / 2)) := (by unfold refL; rw [hk]; rfl : refL l x = (ints l).contains (x / 2))
    have A := fun w hv => isAmong_any v (ints l) (x / 2) w hv (ints_sorted hs) (by rw [ints_length]; omega)
    generalize (ints l).contains (x / 2) = r at *
    go_enter Tryz.func51, Tryz.ntmps51
    go_wp2_with fail
    refine (R _).mono ?_
    rintro e w1 ⟨rfl, rfl⟩
    go_wp2_with fail
    refine (A _ hv).mono ?_
    rintro e w2 ⟨rfl, hb⟩
    go_wp2
    go_ret
    exact ⟨wret_bool E.out.symm, hb⟩
theorem refL_ob (h : Hp) (x : Int) : refL (obC h) x = refB h x := rfl

theorem notin_upto {l : List Int} {x : Int} (h : ∀ j, j < l.length → ¬ l.getD j 0 = x) : l.contains x = false := by
  rw [Bool.eq_false_iff]
  intro k
  obtain ⟨i, hi, e⟩ := List.getElem_of_mem (List.contains_iff_mem.1 k)
  exact h i hi (by simpa [hi] using e)
theorem index_any (v : Value) (l : List Int) (x : Int) (w : World) (hv : IR w v l) (h1 : l.length ≤ 1000000000000) :
    Calls Tryz.prog 81 #[v, .int .i64 x] w fun e w' => (∃ z : Int, e = .returned (.int .i64 z) ∧ decide (0 ≤ z) = l.contains x) ∧ w' = w := by
  obtain ⟨ao, cap, rfl, _, hv⟩ := hv
  go_enter Tryz.func81, Tryz.ntmps81
  go_wp2
  go_loopw [8] (fun a wr => ∃ k : Nat, a = .int .i64 k ∧ k ≤ l.length ∧ Hid (∀ j, j < k → ¬ l.getD j 0 = x) ∧ wr = w) (fun a _ => l.length - (intOf a).toNat)
  case atStart => exact ⟨0, rfl, Nat.zero_le _, fun j hj => by omega, rfl⟩
  case round =>
    obtain ⟨k, rfl, hk, hj, rfl⟩ := hrel
    by_cases hlt : k < l.length
    · obtain ⟨b, o, rfl, hc⟩ := hv k hlt
      have NX : Hid (¬ l.getD k 0 = x → ∀ j, j < k + 1 → ¬ l.getD j 0 = x) := fun e => all_upto hj.out e
      have IN : Hid (l.getD k 0 = x → l.contains x = true) := fun e => List.contains_iff_mem.2 (by rw [← e]; simp [hlt])
      clear hv hj
      generalize l.getD k 0 = y at *
      by_cases hx : y = x
      · have G := IN.out hx
        have D : (x == y) = true := by simp [hx]
        clear NX IN hx
        go_wp2
        go_ret
        exact ⟨⟨_, rfl, by rw [G]; simp⟩, rfl⟩
      · have N := NX.out hx
        have D : (x == y) = false := by simp; omega
        clear NX IN hx
        go_wp2
        exact ⟨⟨k + 1, by go_num, by omega, N, trivial⟩, by simp [intOf]; omega⟩
    · obtain rfl : k = l.length := by omega
      have G : Hid (l.contains x = false) := notin_upto hj.out
      go_wp2
      go_ret
      exact ⟨⟨_, rfl, by rw [G.out]; rfl⟩, rfl⟩
theorem contains_any (v : Value) (l : List Int) (x : Int) (w : World) (hv : IR w v l) (h1 : l.length ≤ 1000000000000) :
    Calls Tryz.prog 52 #[v, .int .i64 x] w fun e w' => e = .returned (.bool (l.contains x)) ∧ w' = w := by
  have C := index_any v l x w hv h1
  go_enter Tryz.func52, Tryz.ntmps52
  go_wp2_with fail
  refine C.mono ?_
  rintro e w1 ⟨⟨z, rfl, hz⟩, hw⟩
  obtain rfl := hw.symm
  replace hz : Hid (decide (0 ≤ z) = l.contains x) := hz
  go_wp2
  go_ret
  exact ⟨wret_bool hz.out, rfl⟩

end Go.Proofs.YthdffigckohpoaaGreat
