/- SuperText of the model. -/
import Derived.Test.YtfcenohgfhefiaaGreatDoorSuperP
namespace Go.Proofs.YtfcenohgfhefiaaGreatDoor
open Go.RowKit

set_option maxRecDepth 100000 in
set_option maxHeartbeats 3200000 in
theorem specSuper_any (e : Int) (v : Value) (l : List Int) (w : World) (hv : IR w v l) (hl : l.length ≤ 1000000000000) :
    Calls Tryz.prog 25 #[.int .i64 e, v] w fun x w' => x = .returned (.tuple #[.string (supT e l), .bool (supOk e l)]) ∧ Below w.heap.size w w' := by
  obtain ⟨ao, cap, rfl, _, hv⟩ := hv
  go_enter Tryz.func25, Tryz.ntmps25
  go_wp2_with fail
  refine (l1In_any _ _ _ _).mono ?_
  rintro x w ⟨rfl, rfl⟩
  cases h1 : decide (1 ≤ e ∧ e ≤ 999999999)
  · have G : Hid (supOk e l = false) := supOk_e (of_decide_eq_false h1)
    clear h1 hv
    go_wp2
    exact bodyPost_ret (v := .tuple #[.string ⟨#[]⟩, .bool false]) (by simp [results, Tryz.results25, go_sem]) rfl ⟨by rw [supT_no G.out, G.out], Below.refl _ _⟩
  obtain ⟨he0, he1⟩ := of_decide_eq_true h1
  clear h1
  by_cases h30 : 30 < l.length
  · have G : Hid (supOk e l = false) := supOk_l (by omega)
    have g2 : decide ((30 : Int) < (l.length : Int)) = true := by simp; omega
    clear hv
    go_wp2
    exact bodyPost_ret (v := .tuple #[.string ⟨#[]⟩, .bool false]) (by simp [results, Tryz.results25, go_sem]) rfl ⟨by rw [supT_no G.out, G.out], Below.refl _ _⟩
  have g2 : decide ((30 : Int) < (l.length : Int)) = false := by simp; omega
  have s1 := itoaB_size (n := e) (by omega) (by omega)
  have s2 := itoaB_size (n := (l.length : Int)) (by omega) (by omega)
  have g4 : (⟨#[83]⟩ ++ itoaB e ++ semi : ByteArray).size ≤ 22 := by
    rw [ByteArray.size_append, ByteArray.size_append]
    have c : semi.size = 1 := rfl
    have d : (⟨#[83]⟩ : ByteArray).size = 1 := rfl
    omega
  have s5 := supHead_size (n := l.length) he0 he1 (by omega)
  go_wp2_with fail
  refine (l2Int_any e _ (by omega) (by omega)).mono ?_
  rintro x w1 ⟨rfl, hb1⟩
  have e1 : (⟨(Lib.itoa e).toArray⟩ : ByteArray) = itoaB e := rfl
  rw [e1]
  clear e1
  go_wp2_with fail
  refine (l2Int_any _ _ (by omega) (by omega)).mono ?_
  rintro x w2 ⟨rfl, hb2⟩
  have e2 : (⟨(Lib.itoa (l.length : Int)).toArray⟩ : ByteArray) = itoaB l.length := rfl
  rw [e2]
  clear e2
  have HH : Hid (supHead e l.length = ⟨#[83]⟩ ++ itoaB e ++ ⟨#[59]⟩ ++ itoaB l.length ++ ⟨#[59]⟩) := (rfl : supHead e l.length = ⟨#[83]⟩ ++ itoaB e ++ ⟨#[59]⟩ ++ itoaB l.length ++ ⟨#[59]⟩)
  have hb3 := bel_after hb1 hb2
  go_wp2
  clear g4 s1 s2
  go_loopw [6, 7] (fun s i wr => ∃ k : Nat, k ≤ l.length ∧ i = .int .i64 k ∧ s = .string (supL (supHead e l.length) (l.take k)) ∧ Hid (rowOk l k = true) ∧ Below w.heap.size w wr) (fun _ i _ => l.length - (intOf i).toNat)
  case atStart => exact ⟨0, Nat.zero_le _, rfl, by rw [← HH.out]; rfl, (by rfl : rowOk l 0 = true), hb3⟩
  case round =>
    obtain ⟨k, hk, rfl, rfl, hr, hb⟩ := hrel
    have sz := supL_size (acc := supHead e l.length) k hk hr.out
    by_cases hlt : k < l.length
    · have HS : Hid (supL (supHead e l.length) (l.take (k + 1)) = supL (supHead e l.length) (l.take k) ++ itoaB (l.getD k 0) ++ semi) := supL_succ _ l k hlt
      obtain ⟨b, o, rfl, hc0⟩ := hv k hlt
      have hc := cell_later hb hc0
      have hvk : Hid (∀ m, m < k → wr.cell? ⟨b, o + m, none⟩ = some (.int .i64 (l.getD m 0))) := (fun m hm => by
        obtain ⟨b', o', e', hc'⟩ := hv m (by omega)
        cases e'
        exact cell_later hb hc' : ∀ m, m < k → wr.cell? ⟨b, o + m, none⟩ = some (.int .i64 (l.getD m 0)))
      have NO : Hid (¬ (2 ≤ l.getD k 0 ∧ l.getD k 0 ≤ 63) → goodAt l k = false) := fun h => goodAt_no h
      have NT : Hid (2 ≤ l.getD k 0 ∧ l.getD k 0 ≤ 63 → (∀ j, j < k → l.getD j 0 ≠ l.getD k 0) → goodAt l k = true) := fun hin hh => goodAt_yes hin (not_mem_of (fun j hj => by
          rw [List.length_take] at hj
          rw [take_get (by omega)]
          exact hh j (by omega)))
      have YT : Hid (∀ j, j < k → l.getD j 0 = l.getD k 0 → goodAt l k = false) := fun j hj e => goodAt_twice (mem_of (k := j) (by rw [List.length_take]; omega) (by rw [take_get hj, e]))
      clear hv hc0
      generalize l.getD k 0 = y at *
      have NG : Hid (goodAt l k = false → supOk e l = false) := fun h => supOk_row (rowOk_false h hlt)
      by_cases hin : 2 ≤ y ∧ y ≤ 63
      · have s3 := itoaB_size (n := y) (by omega) (by omega)
        have hd : decide (2 ≤ y ∧ y ≤ 63) = true := decide_eq_true hin
        have NT2 : Hid ((∀ j, j < k → l.getD j 0 ≠ y) → goodAt l k = true) := NT.out hin
        obtain ⟨y0, y1⟩ := hin
        clear NT NO
        go_wp2_with fail
        refine (l1In_any _ _ _ _).mono ?_
        rintro x wr' ⟨rfl, rfl⟩
        rw [hd]
        clear hd
        go_wp2
        go_loopw [8] (fun j wq => ∃ m : Nat, m ≤ k ∧ j = .int .i64 m ∧ Hid (∀ i, i < m → l.getD i 0 ≠ y) ∧ ∃ n, wq = wr'.drewN n) (fun j _ => k - (intOf j).toNat)
        case atStart => exact ⟨0, Nat.zero_le _, rfl, fun j hj => absurd hj (by omega), 0, rfl⟩
        case round =>
          obtain ⟨m, hm, rfl, hn, n, rfl⟩ := hrel
          by_cases hmk : m < k
          · have hcm := hvk.out m hmk
            have hml : m < l.length := by omega
            have HE : Hid (l.getD m 0 = y → goodAt l k = false) := YT.out m hmk
            have HN : Hid (l.getD m 0 ≠ y → ∀ i, i < m + 1 → l.getD i 0 ≠ y) := fun h => all_upto hn.out h
            generalize l.getD m 0 = z at *
            clear hvk NT2 YT HS
            go_wp2
            go_region
            all_goals go_wp2
            · have he : z = y := by simpa using ‹(z == y) = true›
              have G := NG.out (HE.out he)
              exact bodyPost_ret (v := .tuple #[.string ⟨#[]⟩, .bool false]) (by simp [results, Tryz.results25, go_sem]) rfl ⟨by rw [supT_no G, G], below_drewN hb _⟩
            · have he : z ≠ y := by simpa using ‹(z == y) = false›
              go_roundw
              case rel => exact ⟨m + 1, by omega, by go_num, HN.out he, _, rfl⟩
              case measure => simp [intOf]; omega
          · obtain rfl : m = k := by omega
            have G : Hid (rowOk l (m + 1) = true) := (by rw [rowOk_succ, hr.out, NT2.out hn.out]; rfl : rowOk l (m + 1) = true)
            clear hvk NT2 YT hn hr
            go_wp2_with fail
            refine (l2Int_any y _ (by omega) (by omega)).mono ?_
            rintro x w5 ⟨rfl, hb5⟩
            have e5 : (⟨(Lib.itoa y).toArray⟩ : ByteArray) = itoaB y := rfl
            rw [e5]
            clear e5
            go_wp2
            exact ⟨⟨m + 1, by omega, by go_num, by rw [HS.out]; rfl, G, bel_after (below_drewN hb _) hb5⟩, by simp [intOf]; omega⟩
      · have G : Hid (supOk e l = false) := NG.out (NO.out hin)
        have hd : decide (2 ≤ y ∧ y ≤ 63) = false := decide_eq_false hin
        clear NT NO hin hvk YT NG
        go_wp2_with fail
        refine (l1In_any _ _ _ _).mono ?_
        rintro x wr' ⟨rfl, rfl⟩
        rw [hd]
        clear hd
        go_wp2
        exact bodyPost_ret (v := .tuple #[.string ⟨#[]⟩, .bool false]) (by simp [results, Tryz.results25, go_sem]) rfl ⟨by rw [supT_no G.out, G.out], hb⟩
    · obtain rfl : k = l.length := by omega
      have G := supOk_yes he0 he1 (by omega) hr.out
      have HT : Hid (supT e l = supS e l ++ itoaB (crcS (supS e l))) := supT_yes G
      have HG : Hid (supOk e l = true) := G
      have e7 : l.take l.length = l := List.take_of_length_le (Nat.le_refl _)
      rw [e7] at sz ⊢
      clear e7 G hv
      have e8 : supL (supHead e l.length) l = supS e l := rfl
      rw [e8] at sz ⊢
      clear e8
      obtain ⟨c1, c2⟩ := crcS_range (supS e l)
      have si := itoaB_size (n := crcS (supS e l)) (by omega) (by omega)
      go_wp2_with fail
      refine (crc_any _ _ (by omega)).mono ?_
      rintro x w5 ⟨rfl, rfl⟩
      go_wp2_with fail
      refine (l2Int_any _ _ (by omega) (by omega)).mono ?_
      rintro x w6 ⟨rfl, hb6⟩
      have e9 : (⟨(Lib.itoa (crcS (supS e l))).toArray⟩ : ByteArray) = itoaB (crcS (supS e l)) := rfl
      rw [e9]
      clear e9
      go_wp2
      exact bodyPost_ret (v := .tuple #[.string (supS e l ++ itoaB (crcS (supS e l))), .bool true]) (by simp [results, Tryz.results25, go_sem]) rfl ⟨by rw [HT.out, HG.out], bel_after hb hb6⟩

end Go.Proofs.YtfcenohgfhefiaaGreatDoor
