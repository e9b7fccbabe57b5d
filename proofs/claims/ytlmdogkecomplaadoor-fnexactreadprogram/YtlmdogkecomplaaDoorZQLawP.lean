/- The walk of the law on ReadProgram. -/
import Derived.Test.YtlmdogkecomplaaDoorZQPgM
namespace Go.Proofs.YtlmdogkecomplaaDoor
open Go.RowKit

theorem pg_len : ∀ (f : Nat) (l : List UInt8) (acc : List (Int × Int)), acc.length ≤ 100 → (pgF f l acc).1.length ≤ 100
  | 0, _, _, h => h
  | f + 1, l, acc, h => by
    by_cases hl : l = []
    · subst hl
      rw [pg_empty]
      exact h
    · cases hf : l.findIdx? (· == 10) with
      | none =>
        rw [pg_none hl hf]
        exact Nat.zero_le _
      | some i =>
        by_cases hb : (rdC ⟨(l.take i).toArray⟩).2.2 = true ∧ acc.length ≠ 100
        · rw [pg_step hl hf hb]
          refine pg_len f _ _ ?_
          rw [clen_add]
          omega
        · rw [pg_bad hl hf hb]
          exact Nat.zero_le _
set_option maxRecDepth 100000 in
set_option maxHeartbeats 2000000 in
theorem lawProg_any (s : ByteArray) (w : World) (hE : Env w) :
    Calls Tryd.prog 5 #[.string s] w fun e w' => e = .returned (.bool true) ∧ Below w.heap.size w w' := by
  have HE : Hid (Env w) := hE
  clear hE
  by_cases hl : s.size ≤ 1048576
  · have hli : ¬ (1048576 : Int) < (s.size : Int) := by omega
    have hz : s.data.toList.length = s.size := by simp
    have S := fun w => specProg_any s w (by omega)
    have I := fun w h => implProg_any s.data.toList w (by omega) h
    have es : (⟨s.data.toList.toArray⟩ : ByteArray) = s := by simp
    rw [es] at I
    have hn : (pgC s.data.toList).1.length ≤ 100 := pg_len _ _ _ (Nat.zero_le _)
    unfold PgOut at S I
    have EQ := fun v1 v2 B1 B2 w h1 h2 => eqCodeS_any v1 v2 (pgC s.data.toList).1 B1 B2 w h1 h2 (by omega)
    have MK := fun v B w h => markCodeS_any v (pgC s.data.toList).1.length (ccells (pgC s.data.toList).1) B w h (by omega)
    have HD := fun v ys B w h hM => heldCodeS_any v (pgC s.data.toList).1.length ys B w h hM (by omega)
    clear hz hl es
    generalize ccells (pgC s.data.toList).1 = xs at *
    generalize (pgC s.data.toList).1.length = n at *
    generalize (pgC s.data.toList).2 = z at *
    have hn0 : ¬ (1 + 2 * (n : Int)) < 0 := by omega
    go_enter Tryd.func5, Tryd.ntmps5
    go_wp2_with fail
    refine (S _).mono ?_
    rintro e w1 ⟨⟨vS, rfl, oS⟩, b1⟩
    replace oS : Hid (w1.ownsRow w.heap.size 25 2 vS n xs) := oS
    clear S
    go_wp2_with fail
    refine (I _ (HE.out.later b1)).mono ?_
    rintro e w2 ⟨⟨vI, rfl, oI⟩, b2⟩
    have ltS : ∀ k, vS.ownBlock = some k → k < w1.heap.size := fun k hk => (oS.out.lt k hk).2
    have ltI : ∀ k, vI.ownBlock = some k → w1.heap.size ≤ k := fun k hk => (oI.lt k hk).1
    have hne : Hid (vS.ownBlock = none ∨ vS.ownBlock ≠ vI.ownBlock) := (by
      cases hS : vS.ownBlock with
      | none => exact .inl rfl
      | some k =>
        refine .inr fun e => ?_
        have h1 := ltS k hS
        have h2 := ltI k e.symm
        omega : vS.ownBlock = none ∨ vS.ownBlock ≠ vI.ownBlock)
    have hge : Hid (∀ k, vI.ownBlock = some k → w.heap.size ≤ k) := fun k hk => Nat.le_trans b1.size (ltI k hk)
    have oS2 : Hid (w2.ownsRow w.heap.size 25 2 vS n xs) := own_laterQ oS.out b2
    replace oI : Hid (w2.ownsRow w1.heap.size 25 2 vI n xs) := oI
    have B2 := bel_afterQ b1 b2
    clear oS b1 b2 ltS ltI
    go_wp2_with fail
    refine (EQ _ _ _ _ _ oI.out oS2.out).mono ?_
    rintro e w3 ⟨rfl, b3⟩
    have oS3 : Hid (w3.ownsRow w.heap.size 25 2 vS n xs) := own_laterQ oS2.out b3
    have oI3 : Hid (w3.ownsRow w1.heap.size 25 2 vI n xs) := own_laterQ oI.out b3
    have B3 := bel_afterQ B2 b3
    clear oS2 oI b3 B2
    go_wp2_with fail
    refine (MK _ _ _ oI3.out).mono ?_
    rintro e w4 ⟨rfl, ys, oI4, hM, hg⟩
    have oS4 : Hid (w4.ownsRow w.heap.size 25 2 vS n xs) := oS3.out.kept hg hne.out
    have B4 : Below w.heap.size w w4 := Below.grown B3 hg B3.size (fun k hk => hge.out k hk)
    replace oI4 : Hid (w4.ownsRow w1.heap.size 25 2 vI n ys) := oI4
    replace hM : Hid (Mk ys (n * 2)) := hM
    clear oS3 oI3 B3 hg MK
    go_wp2_with fail
    refine (HD _ _ _ _ oI4.out hM.out).mono ?_
    rintro e w5 ⟨rfl, e5⟩
    rw [e5]
    clear e5 w5
    go_wp2_with fail
    refine (I _ (HE.out.later B4)).mono ?_
    rintro e w6 ⟨⟨vJ, rfl, oJ⟩, b6⟩
    have oS6 : Hid (w6.ownsRow w.heap.size 25 2 vS n xs) := own_laterQ oS4.out b6
    have oI6 : Hid (w6.ownsRow w1.heap.size 25 2 vI n ys) := own_laterQ oI4.out b6
    replace oJ : Hid (w6.ownsRow w4.heap.size 25 2 vJ n xs) := oJ
    have B6 := bel_afterQ B4 b6
    clear oS4 oI4 B4 b6 I
    go_wp2_with fail
    refine (EQ _ _ _ _ _ oJ.out oS6.out).mono ?_
    rintro e w7 ⟨rfl, b7⟩
    have oI7 : Hid (w7.ownsRow w1.heap.size 25 2 vI n ys) := own_laterQ oI6.out b7
    have B7 := bel_afterQ B6 b7
    clear oS6 oI6 oJ B6 b7 EQ
    go_wp2_with fail
    refine (HD _ _ _ _ oI7.out hM.out).mono ?_
    rintro e w8 ⟨rfl, e8⟩
    rw [e8]
    clear e8 w8 HD oI7 hM
    go_wp2
    go_ret
    exact ⟨rfl, B7⟩
  · have hli : (1048576 : Int) < (s.size : Int) := by omega
    go_enter Tryd.func5, Tryd.ntmps5
    go_wp2
    go_ret
    exact ⟨rfl, Below.refl _ _⟩

end Go.Proofs.YtlmdogkecomplaaDoor
