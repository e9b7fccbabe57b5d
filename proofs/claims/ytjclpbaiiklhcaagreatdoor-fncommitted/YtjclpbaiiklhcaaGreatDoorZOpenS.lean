/- OpenPage of the model. -/
import Derived.Test.YtjclpbaiiklhcaaGreatDoorZV8
namespace Go.Proofs.YtjclpbaiiklhcaaGreatDoor
open Go.RowKit

theorem head_is (s : ByteArray) (h : 0 < s.size) : s.data.toList.head? = some s[0] := by
  rw [List.head?_eq_getElem?]
  have h2 : 0 < s.data.toList.length := by rw [Array.length_toList]; exact h
  rw [List.getElem?_eq_getElem h2, Array.getElem_toList]
  rfl
theorem openR_form {s : ByteArray} (h0 : s ≠ ⟨#[]⟩) (h : formN s.data.toList = none) : openR s = (0, 0, ⟨#[]⟩, 2) := by unfold openR; rw [if_neg h0, h]
theorem openR_range {s : ByteArray} {n e c : Int} {b : List UInt8} (h0 : s ≠ ⟨#[]⟩) (h : formN s.data.toList = some (n, e, c, b)) (hp : pgOk n e (bytesOf b) = false) : openR s = (0, 0, ⟨#[]⟩, 3) := by
  unfold openR; rw [if_neg h0, h]; simp only; rw [if_neg (by rw [hp]; simp)]
theorem openR_sum {s : ByteArray} {n e c : Int} {b : List UInt8} (h0 : s ≠ ⟨#[]⟩) (h : formN s.data.toList = some (n, e, c, b)) (hp : pgOk n e (bytesOf b) = true) (hc : crcS (headS n e ++ bytesOf b) ≠ c) : openR s = (0, 0, ⟨#[]⟩, 4) := by
  unfold openR; rw [if_neg h0, h]; simp only; rw [if_pos hp, if_neg hc]
theorem openR_is {s : ByteArray} {n e c : Int} {b : List UInt8} (h0 : s ≠ ⟨#[]⟩) (h : formN s.data.toList = some (n, e, c, b)) (hp : pgOk n e (bytesOf b) = true) (hc : crcS (headS n e ++ bytesOf b) = c) : openR s = (n, e, bytesOf b, 0) := by
  unfold openR; rw [if_neg h0, h]; simp only; rw [if_pos hp, if_pos hc]

theorem form_no {s : ByteArray} (hp : 0 < s.size) (h : ¬ s[0].toNat = 80) : formN s.data.toList = none := by
  unfold formN
  rw [if_neg]
  rw [head_is s hp]
  intro e
  exact h (by rw [Option.some.inj e]; rfl)
theorem form_yes {s : ByteArray} (hp : 0 < s.size) (h : s[0].toNat = 80) : s.data.toList.head? = some 80 := by
  rw [head_is s hp]
  exact congrArg some (UInt8.toNat_inj.1 h)
theorem form_1 {s : ByteArray} (h : fieldN s 1 9 = none) : formN s.data.toList = none := by
  unfold formN
  rw [cut_field s 1 9, h]
  simp
theorem form_2 {s : ByteArray} {n : Int} {a : Nat} (h : fieldN s 1 9 = some (n, a)) (h2 : fieldN s a 9 = none) : formN s.data.toList = none := by
  unfold formN
  rw [cut_field s 1 9, h]
  simp only [Option.map_some]
  rw [cut_field s a 9, h2]
  simp
theorem form_3 {s : ByteArray} {n e : Int} {a b : Nat} (h : fieldN s 1 9 = some (n, a)) (h2 : fieldN s a 9 = some (e, b)) (h3 : fieldN s b 10 = none) : formN s.data.toList = none := by
  unfold formN
  rw [cut_field s 1 9, h]
  simp only [Option.map_some]
  rw [cut_field s a 9, h2]
  simp only [Option.map_some]
  rw [cut_field s b 10, h3]
  simp
theorem form_4 {s : ByteArray} {n e c : Int} {a b d : Nat} (h0 : s.data.toList.head? = some 80) (h : fieldN s 1 9 = some (n, a)) (h2 : fieldN s a 9 = some (e, b)) (h3 : fieldN s b 10 = some (c, d)) : formN s.data.toList = some (n, e, c, s.data.toList.drop d) := by
  unfold formN
  rw [if_pos h0, cut_field s 1 9, h]
  simp only [Option.map_some]
  rw [cut_field s a 9, h2]
  simp only [Option.map_some]
  rw [cut_field s b 10, h3]
  rfl

theorem fieldV_none {s : ByteArray} {a m : Nat} (h : fieldN s a m = none) : fieldV s a m = 0 ∧ fieldP s a m = -1 := by unfold fieldV fieldP; rw [h]; exact ⟨rfl, rfl⟩
theorem fieldV_some {s : ByteArray} {a m : Nat} {n : Int} {p : Nat} (h : fieldN s a m = some (n, p)) : fieldV s a m = n ∧ fieldP s a m = p := by unfold fieldV fieldP; rw [h]; exact ⟨rfl, rfl⟩
theorem drop_body (s : ByteArray) (d : Nat) : s.extract d s.size = bytesOf (s.data.toList.drop d) := by
  unfold bytesOf
  apply ByteArray.ext
  apply Array.toList_inj.1
  rw [ByteArray.data_extract, Array.toList_extract, List.extract_eq_take_drop]
  exact List.take_of_length_le (by rw [List.length_drop, Array.length_toList]; exact Nat.le_refl _)

set_option maxRecDepth 100000 in
set_option maxHeartbeats 3200000 in
theorem specOpen_any (s : ByteArray) (w : World) (hs : s.size ≤ 1000000000000) :
    Calls Tryz.prog 68 #[.string s] w fun x w' => x = .returned (openV (openR s)) ∧ Below w.heap.size w w' := by
  by_cases h0 : s = ⟨#[]⟩
  · subst h0
    go_enter Tryz.func68, Tryz.ntmps68
    go_wp2
    exact bodyPost_ret (v := openV (0, 0, ⟨#[]⟩, 1)) (by simp [results, Tryz.results68, go_sem, openV]) rfl ⟨rfl, Below.refl _ _⟩
  have hp : 0 < s.size := by have := size_pos h0; omega
  have q1 := str_nil h0
  have q2 : s.toList.isEmpty = false := by simpa using q1
  have H0 : Hid (s ≠ ⟨#[]⟩) := h0
  clear h0
  by_cases h80 : s[0].toNat = 80
  · have h80i : (s[0].toNat : Int) = 80 := by omega
    have HD : Hid (s.data.toList.head? = some 80) := form_yes hp h80
    have F1 := fun w => l2Field_any s 1 9 w hs hp (by omega)
    cases h1 : fieldN s 1 9 with
    | none =>
      obtain ⟨e1, e2⟩ := fieldV_none h1
      rw [e1, e2] at F1
      have G : Hid (openR s = (0, 0, ⟨#[]⟩, 2)) := openR_form H0.out (form_1 h1)
      clear h1 e1 e2
      go_enter Tryz.func68, Tryz.ntmps68
      go_wp2_with (go_at_call 84; refine (F1 _).mono ?_; rintro x w' ⟨rfl, rfl⟩)
      exact bodyPost_ret (v := openV (0, 0, ⟨#[]⟩, 2)) (by simp [results, Tryz.results68, go_sem, openV]) rfl ⟨by rw [G.out], Below.refl _ _⟩
    | some x1 =>
      obtain ⟨n, a⟩ := x1
      obtain ⟨e1, e2⟩ := fieldV_some h1
      obtain ⟨l1, l1'⟩ := field_le h1
      obtain ⟨r1, r2⟩ := field_range (by omega) h1
      have F2 := fun w => l2Field_any s a 9 w hs l1 (by omega)
      rw [e1, e2] at F1
      clear e1 e2
      go_enter Tryz.func68, Tryz.ntmps68
      go_wp2_with fail
      refine (F1 _).mono ?_
      rintro x w1 ⟨rfl, rfl⟩
      clear F1
      cases h2 : fieldN s a 9 with
      | none =>
        obtain ⟨e1, e2⟩ := fieldV_none h2
        rw [e1, e2] at F2
        have G : Hid (openR s = (0, 0, ⟨#[]⟩, 2)) := openR_form H0.out (form_2 h1 h2)
        clear h1 h2 e1 e2
        go_wp2_with (go_at_call 84; refine (F2 _).mono ?_; rintro x w' ⟨rfl, rfl⟩)
        exact bodyPost_ret (v := openV (0, 0, ⟨#[]⟩, 2)) (by simp [results, Tryz.results68, go_sem, openV]) rfl ⟨by rw [G.out], Below.refl _ _⟩
      | some x2 =>
        obtain ⟨e, b⟩ := x2
        obtain ⟨e1, e2⟩ := fieldV_some h2
        obtain ⟨l2, l2'⟩ := field_le h2
        obtain ⟨r3, r4⟩ := field_range (by omega) h2
        have F3 := fun w => l2Field_any s b 10 w hs l2 (by omega)
        rw [e1, e2] at F2
        clear e1 e2
        go_wp2_with fail
        refine (F2 _).mono ?_
        rintro x w2 ⟨rfl, rfl⟩
        clear F2
        cases h3 : fieldN s b 10 with
        | none =>
          obtain ⟨e1, e2⟩ := fieldV_none h3
          rw [e1, e2] at F3
          have G : Hid (openR s = (0, 0, ⟨#[]⟩, 2)) := openR_form H0.out (form_3 h1 h2 h3)
          clear h1 h2 h3 e1 e2
          go_wp2_with (go_at_call 84; refine (F3 _).mono ?_; rintro x w' ⟨rfl, rfl⟩)
          exact bodyPost_ret (v := openV (0, 0, ⟨#[]⟩, 2)) (by simp [results, Tryz.results68, go_sem, openV]) rfl ⟨by rw [G.out], Below.refl _ _⟩
        | some x3 =>
          obtain ⟨c, d⟩ := x3
          obtain ⟨e1, e2⟩ := fieldV_some h3
          obtain ⟨l3, l3'⟩ := field_le h3
          have FM := form_4 HD.out h1 h2 h3
          rw [e1, e2] at F3
          have DB := drop_body s d
          have DS : (bytesOf (s.data.toList.drop d)).size ≤ s.size := by
            show (s.data.toList.drop d).toArray.size ≤ s.size
            rw [List.size_toArray, List.length_drop, Array.length_toList]
            exact Nat.sub_le _ _
          generalize s.data.toList.drop d = bl at *
          have HF : Hid (formN s.data.toList = some (n, e, c, bl)) := FM
          clear e1 e2 h1 h2 h3 FM
          go_wp2_with fail
          refine (F3 _).mono ?_
          rintro x w3 ⟨rfl, rfl⟩
          clear F3
          go_wp2_with fail
          refine (l2Range_any _ _ _ _).mono ?_
          rintro x w4 ⟨rfl, rfl⟩
          clear DB
          cases hpg : pgOk n e (bytesOf bl)
          · have G : Hid (openR s = (0, 0, ⟨#[]⟩, 3)) := openR_range H0.out HF.out hpg
            clear hpg
            go_wp2
            exact bodyPost_ret (v := openV (0, 0, ⟨#[]⟩, 3)) (by simp [results, Tryz.results68, go_sem, openV]) rfl ⟨by rw [G.out], Below.refl _ _⟩
          have sh := headS_size (n := n) (e := e) (by omega) (by omega) (by omega) (by omega)
          have sz : (headS n e ++ bytesOf bl).size ≤ 1000000000042 := by rw [ByteArray.size_append]; omega
          obtain ⟨k1, k2, k3, k4, k5⟩ := pgOk_range hpg
          have sz2 : (headS n e ++ bytesOf bl).size ≤ 1000 := by rw [ByteArray.size_append]; omega
          have GS : Hid (crcS (headS n e ++ bytesOf bl) ≠ c → openR s = (0, 0, ⟨#[]⟩, 4)) := fun h => openR_sum H0.out HF.out hpg h
          have GI : Hid (crcS (headS n e ++ bytesOf bl) = c → openR s = (n, e, bytesOf bl, 0)) := fun h => openR_is H0.out HF.out hpg h
          clear hpg
          go_wp2_with fail
          refine (l2Head_any n e _ _ (by omega) (by omega) (by omega) (by omega)).mono ?_
          rintro x w5 ⟨rfl, hb5⟩
          go_wp2_with fail
          refine (crc_any _ _ (by omega)).mono ?_
          rintro x w6 ⟨rfl, rfl⟩
          by_cases hcc : crcS (headS n e ++ bytesOf bl) = c
          · have G : Hid (openR s = (n, e, bytesOf bl, 0)) := GI.out hcc
            rw [hcc]
            clear hcc GS GI
            go_wp2
            exact bodyPost_ret (v := openV (n, e, bytesOf bl, 0)) (by simp [results, Tryz.results68, go_sem, openV]) rfl ⟨by rw [G.out], hb5⟩
          · have G : Hid (openR s = (0, 0, ⟨#[]⟩, 4)) := GS.out hcc
            have hcc' : (crcS (headS n e ++ bytesOf bl) != c) = true := by simpa using hcc
            clear hcc GS GI
            go_wp2
            exact bodyPost_ret (v := openV (0, 0, ⟨#[]⟩, 4)) (by simp [results, Tryz.results68, go_sem, openV]) rfl ⟨by rw [G.out], hb5⟩
  · have h80i : ¬ (s[0].toNat : Int) = 80 := by omega
    have G : Hid (openR s = (0, 0, ⟨#[]⟩, 2)) := openR_form H0.out (form_no hp h80)
    go_enter Tryz.func68, Tryz.ntmps68
    go_wp2
    exact bodyPost_ret (v := openV (0, 0, ⟨#[]⟩, 2)) (by simp [results, Tryz.results68, go_sem, openV]) rfl ⟨by rw [G.out], Below.refl _ _⟩

end Go.Proofs.YtjclpbaiiklhcaaGreatDoor
