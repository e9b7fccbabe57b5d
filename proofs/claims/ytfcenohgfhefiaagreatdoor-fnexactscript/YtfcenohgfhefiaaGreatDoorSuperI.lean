/- SuperText of the program. -/
import Derived.Test.YtfcenohgfhefiaaGreatDoorSuperP
namespace Go.Proofs.YtfcenohgfhefiaaGreatDoor
open Go.RowKit

theorem isPage_any (x : Int) (w : World) :
    Calls Tryz.prog 75 #[.int .i64 x] w fun e w' => e = .returned (.bool (decide (2 ≤ x ∧ x ≤ 63))) ∧ w' = w := by
  by_cases h : 2 ≤ x
  · by_cases h2 : x ≤ 63
    · have g : (decide (2 ≤ x ∧ x ≤ 63)) = true := by simp [h, h2]
      have h3 : x < 64 := by omega
      rw [g]
      clear g
      go_enter Tryz.func75, Tryz.ntmps75
      go_wp2
      go_ret
      exact ⟨rfl, rfl⟩
    · have g : (decide (2 ≤ x ∧ x ≤ 63)) = false := by simp [h2]
      have h3 : ¬ x < 64 := by omega
      rw [g]
      clear g
      go_enter Tryz.func75, Tryz.ntmps75
      go_wp2
      go_ret
      exact ⟨rfl, rfl⟩
  · have g : (decide (2 ≤ x ∧ x ≤ 63)) = false := by simp [h]
    rw [g]
    clear g
    go_enter Tryz.func75, Tryz.ntmps75
    go_wp2
    go_ret
    exact ⟨rfl, rfl⟩

theorem IR.head {w : World} {b o cap : Nat} {l : List Int} {k : Nat} (h : ∀ m, m < l.length → w.cell? ⟨b, o + m, none⟩ = some (.int .i64 (l.getD m 0))) (hk : k ≤ l.length) (hc : k ≤ cap) : IR w (.slice (some ⟨b, o, none⟩) k cap) (l.take k) := by
  have e : (l.take k).length = k := by rw [List.length_take]; omega
  refine ⟨some ⟨b, o, none⟩, cap, by rw [e], by rw [e]; exact hc, fun i hi => ⟨b, o, rfl, ?_⟩⟩
  rw [take_get (by omega)]
  exact h i (by omega)

set_option maxRecDepth 100000 in
set_option maxHeartbeats 3200000 in
theorem implSuper_any (e : Int) (v : Value) (l : List Int) (w : World) (hv : IR w v l) (hl : l.length ≤ 1000000000000) (ht : Tb w) :
    Calls Tryz.prog 27 #[.int .i64 e, v] w fun x w' => x = .returned (.tuple #[.string (supT e l), .bool (supOk e l)]) ∧ Below w.heap.size w w' := by
  obtain ⟨ao, cap, rfl, hcap, hv⟩ := hv
  by_cases h1 : e < 1
  · have G : Hid (supOk e l = false) := supOk_e (by omega)
    clear hv
    go_enter Tryz.func27, Tryz.ntmps27
    go_wp2
    exact bodyPost_ret (v := .tuple #[.string ⟨#[]⟩, .bool false]) (by simp [results, Tryz.results27, go_sem]) rfl ⟨by rw [supT_no G.out, G.out], Below.refl _ _⟩
  by_cases h2 : 999999999 < e
  · have G : Hid (supOk e l = false) := supOk_e (by omega)
    clear hv
    go_enter Tryz.func27, Tryz.ntmps27
    go_wp2
    exact bodyPost_ret (v := .tuple #[.string ⟨#[]⟩, .bool false]) (by simp [results, Tryz.results27, go_sem]) rfl ⟨by rw [supT_no G.out, G.out], Below.refl _ _⟩
  by_cases h30 : 30 < l.length
  · have G : Hid (supOk e l = false) := supOk_l (by omega)
    have g2 : decide ((30 : Int) < (l.length : Int)) = true := by simp; omega
    clear hv
    go_enter Tryz.func27, Tryz.ntmps27
    go_wp2
    exact bodyPost_ret (v := .tuple #[.string ⟨#[]⟩, .bool false]) (by simp [results, Tryz.results27, go_sem]) rfl ⟨by rw [supT_no G.out, G.out], Below.refl _ _⟩
  have g2 : decide ((30 : Int) < (l.length : Int)) = false := by simp; omega
  have s1 := itoaB_size (n := e) (by omega) (by omega)
  have s2 := itoaB_size (n := (l.length : Int)) (by omega) (by omega)
  have g4 : (⟨#[83]⟩ ++ itoaB e ++ semi : ByteArray).size ≤ 22 := by
    rw [ByteArray.size_append, ByteArray.size_append]
    have c : semi.size = 1 := rfl
    have d : (⟨#[83]⟩ : ByteArray).size = 1 := rfl
    omega
  have s5 := supHead_size (e := e) (n := l.length) (by omega) (by omega) (by omega)
  go_enter Tryz.func27, Tryz.ntmps27
  go_wp2_with fail
  refine (fmt_any e _ (by omega) (by omega) ht).mono ?_
  rintro x w1 ⟨rfl, hb1⟩
  go_wp2_with fail
  refine (itoa_any _ _ (by omega) (by omega) (ht.later hb1)).mono ?_
  rintro x w2 ⟨rfl, hb2⟩
  have HH : Hid (supHead e l.length = ⟨#[83]⟩ ++ itoaB e ++ ⟨#[59]⟩ ++ itoaB l.length ++ ⟨#[59]⟩) := (rfl : supHead e l.length = ⟨#[83]⟩ ++ itoaB e ++ ⟨#[59]⟩ ++ itoaB l.length ++ ⟨#[59]⟩)
  have hb3 := bel_after hb1 hb2
  go_wp2
  clear g4 s1 s2
  go_loopw [6, 31] (fun s i wr => ∃ k : Nat, k ≤ l.length ∧ i = .int .i64 k ∧ s = .string (supL (supHead e l.length) (l.take k)) ∧ Hid (rowOk l k = true) ∧ Below w.heap.size w wr) (fun _ i _ => l.length - (intOf i).toNat)
  case atStart => exact ⟨0, Nat.zero_le _, rfl, by rw [← HH.out]; rfl, (by rfl : rowOk l 0 = true), hb3⟩
  case round =>
    obtain ⟨k, hk, rfl, rfl, hr, hb⟩ := hrel
    have sz := supL_size (acc := supHead e l.length) k hk hr.out
    by_cases hlt : k < l.length
    · have HS : Hid (supL (supHead e l.length) (l.take (k + 1)) = supL (supHead e l.length) (l.take k) ++ itoaB (l.getD k 0) ++ semi) := supL_succ _ l k hlt
      obtain ⟨b, o, rfl, hc0⟩ := hv k hlt
      have hc := cell_later hb hc0
      have hva : ∀ m, m < l.length → wr.cell? ⟨b, o + m, none⟩ = some (.int .i64 (l.getD m 0)) := fun m hm => by
        obtain ⟨b', o', e', hc'⟩ := hv m hm
        cases e'
        exact cell_later hb hc'
      have hir : Hid (IR wr (.slice (some ⟨b, o, none⟩) k cap) (l.take k)) := IR.head hva hk (by omega)
      have hkc : k ≤ cap := by omega
      have NG : Hid (goodAt l k = false → supOk e l = false) := fun h => supOk_row (rowOk_false h hlt)
      have GA : Hid (goodAt l k = (decide (2 ≤ l.getD k 0 ∧ l.getD k 0 ≤ 63) && !(l.take k).contains (l.getD k 0))) := rfl
      clear hc0 hva hv
      generalize l.getD k 0 = y at *
      have PG := isPage_any y wr
      by_cases hin : 2 ≤ y ∧ y ≤ 63
      · have s3 := itoaB_size (n := y) (by omega) (by omega)
        rw [decide_eq_true hin] at PG
        have GB : Hid (goodAt l k = !(l.take k).contains y) := (by rw [GA.out, decide_eq_true hin]; rfl : goodAt l k = !(l.take k).contains y)
        obtain ⟨y0, y1⟩ := hin
        clear GA
        have CT := contains_any _ _ y wr hir.out (by rw [List.length_take]; omega)
        cases hct : (l.take k).contains y
        · have G : Hid (rowOk l (k + 1) = true) := (by rw [rowOk_succ, hr.out, GB.out, hct]; rfl : rowOk l (k + 1) = true)
          rw [hct] at CT
          clear hct GB NG hr hir
          go_wp2_with (first | (go_at_call 75; refine PG.mono ?_; rintro x wr1 ⟨rfl, rfl⟩) | (go_at_call 76; refine CT.mono ?_; rintro x wr2 ⟨rfl, rfl⟩) | (go_at_call 73; refine (fmt_any y _ (by omega) (by omega) (ht.later hb)).mono ?_; rintro x w5 ⟨rfl, hb5⟩))
          exact ⟨⟨k + 1, by omega, by go_num, by rw [HS.out]; exact congrArg Value.string ByteArray.append_assoc.symm, G, bel_after hb hb5⟩, by simp [intOf]; omega⟩
        · have G : Hid (supOk e l = false) := NG.out (by rw [GB.out, hct]; rfl)
          rw [hct] at CT
          clear hct GB NG hr hir HS
          go_wp2_with (first | (go_at_call 75; refine PG.mono ?_; rintro x wr1 ⟨rfl, rfl⟩) | (go_at_call 76; refine CT.mono ?_; rintro x wr2 ⟨rfl, rfl⟩))
          exact bodyPost_ret (v := .tuple #[.string ⟨#[]⟩, .bool false]) (by simp [results, Tryz.results27, go_sem]) rfl ⟨by rw [supT_no G.out, G.out], hb⟩
      · have G : Hid (supOk e l = false) := NG.out (by rw [GA.out, decide_eq_false hin]; rfl)
        rw [decide_eq_false hin] at PG
        clear GA NG hir hin
        go_wp2_with (go_at_call 75; refine PG.mono ?_; rintro x wr' ⟨rfl, rfl⟩)
        exact bodyPost_ret (v := .tuple #[.string ⟨#[]⟩, .bool false]) (by simp [results, Tryz.results27, go_sem]) rfl ⟨by rw [supT_no G.out, G.out], hb⟩
    · obtain rfl : k = l.length := by omega
      have G := supOk_yes (e := e) (by omega) (by omega) (by omega) hr.out
      have HT : Hid (supT e l = supS e l ++ itoaB (crcS (supS e l))) := supT_yes G
      have HG : Hid (supOk e l = true) := G
      have e7 : l.take l.length = l := List.take_of_length_le (Nat.le_refl _)
      rw [e7] at sz ⊢
      clear e7 G hv
      have e8 : supL (supHead e l.length) l = supS e l := rfl
      rw [e8] at sz ⊢
      clear e8
      obtain ⟨c1, c2⟩ := crcS_range (supS e l)
      have si := itoaB_size (n := crcS (supS e l)) (by omega) (by omega)
      go_wp2_with fail
      refine (sumOf_any _ _ (by omega)).mono ?_
      rintro x w5 ⟨rfl, rfl⟩
      go_wp2_with fail
      refine (fmt_any _ _ (by omega) (by omega) (ht.later hb)).mono ?_
      rintro x w6 ⟨rfl, hb6⟩
      go_wp2
      exact bodyPost_ret (v := .tuple #[.string (supS e l ++ itoaB (crcS (supS e l))), .bool true]) (by simp [results, Tryz.results27, go_sem]) rfl ⟨by rw [HT.out, HG.out], bel_after hb hb6⟩

end Go.Proofs.YtfcenohgfhefiaaGreatDoor
