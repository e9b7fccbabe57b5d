/- splitPage of the program. -/
import Derived.Test.YtjclpbaiiklhcaaGreatDoorZV11
import Derived.Test.YtjclpbaiiklhcaaGreatDoorZV8
namespace Go.Proofs.YtjclpbaiiklhcaaGreatDoor
open Go.RowKit

/-- The program's own errors: each variable holds an error of its own. -/
structure Errs (a0 a1 a2 a3 : Addr) (w : World) : Prop where
  e0 : w.cell? ⟨1, 0, none⟩ = some (.iface 200 (.pointer (some a0)))
  e1 : w.cell? ⟨2, 0, none⟩ = some (.iface 200 (.pointer (some a1)))
  e2 : w.cell? ⟨3, 0, none⟩ = some (.iface 200 (.pointer (some a2)))
  e3 : w.cell? ⟨4, 0, none⟩ = some (.iface 200 (.pointer (some a3)))
theorem Errs.later {a0 a1 a2 a3 : Addr} {w w' : World} (h : Errs a0 a1 a2 a3 w) (hb : Below w.heap.size w w') : Errs a0 a1 a2 a3 w' :=
  ⟨cell_later hb h.e0, cell_later hb h.e1, cell_later hb h.e2, cell_later hb h.e3⟩
theorem frozen_later {w w' : World} {b o : Nat} (hb : Below w.heap.size w w') (hlt : b < w.heap.size) (h : w.frozen? ⟨b, o, none⟩ = false) : w'.frozen? ⟨b, o, none⟩ = false :=
  (hb.frozen (p := ⟨b, o, none⟩) hlt).trans h

def errV (part : ByteArray) (a : Addr) : Value := .iface 122 (.agg #[.string part, .iface 200 (.pointer (some a))])
/-- A page's four cells in block R, as they are at first. -/
structure Zp (R : Nat) (w : World) : Prop where
  c0 : w.cell? ⟨R, 0, none⟩ = some (.int .i64 0)
  c1 : w.cell? ⟨R, 1, none⟩ = some (.int .i64 0)
  c2 : w.cell? ⟨R, 2, none⟩ = some (.int .i64 0)
  c3 : w.cell? ⟨R, 3, none⟩ = some (.string ⟨#[]⟩)
  f0 : w.frozen? ⟨R, 0, none⟩ = false
  f1 : w.frozen? ⟨R, 1, none⟩ = false
  f2 : w.frozen? ⟨R, 2, none⟩ = false
  f3 : w.frozen? ⟨R, 3, none⟩ = false
  lt : R < w.heap.size
theorem Zp.later {R : Nat} {w w' : World} (h : Zp R w) (hb : Below w.heap.size w w') : Zp R w' :=
  ⟨cell_later hb h.c0, cell_later hb h.c1, cell_later hb h.c2, cell_later hb h.c3, frozen_later hb h.lt h.f0, frozen_later hb h.lt h.f1, frozen_later hb h.lt h.f2, frozen_later hb h.lt h.f3, Nat.lt_of_lt_of_le h.lt hb.size⟩
theorem Zp.new (w : World) : Zp w.heap.size (w.alloc (.cells #[.int .i64 0, .int .i64 0, .int .i64 0, .string ⟨#[]⟩] 104)) := by
  constructor <;> simp

set_option maxRecDepth 100000 in
set_option maxHeartbeats 3200000 in
theorem split_empty (a0 a1 a2 a3 : Addr) (w : World) (hR : Errs a0 a1 a2 a3 w) :
    Calls Tryz.prog 108 #[.string ⟨#[]⟩] w fun e w' => (∃ part, e = .returned (.tuple #[pageV 0 0 0 ⟨#[]⟩, errV part a2])) ∧ Below w.heap.size w w' := by
  have g := (hR.later (bel_one w (.cells #[.int .i64 0, .int .i64 0, .int .i64 0, .string ⟨#[]⟩] 104))).e2
  go_enter Tryz.func108, Tryz.ntmps108
  go_wp2
  go_region
  all_goals go_wp2
  all_goals exact bodyPost_ret (v := .tuple #[pageV 0 0 0 ⟨#[]⟩, errV ⟨#[112, 97, 103, 101]⟩ a2]) (by simp [results, Tryz.results108, go_sem, pageV, errV]) rfl ⟨⟨_, rfl⟩, (bel_one _ _).drew⟩

theorem pre_any (s : ByteArray) (w : World) : Calls Tryz.prog 87 #[.string s, .string ⟨#[80]⟩] w fun e w' => e = .returned (.tuple #[.string (if s.data.toList.head? = some 80 then bytesOf (s.data.toList.drop 1) else s), .bool (decide (s.data.toList.head? = some 80))]) ∧ w' = w := by
  refine (Any.strings_CutPrefix Tryz.lays103 s ⟨#[80]⟩ w).mono fun e w' ⟨he, hw⟩ => ⟨?_, hw⟩
  rw [he]
  show Ending.returned (.tuple #[.string ⟨(Lib.trimPrefix s.data.toList [80]).toArray⟩, .bool (Lib.hasPrefix s.data.toList [80])]) = _
  have e : (⟨s.data.toList.toArray⟩ : ByteArray) = s := by apply ByteArray.ext; simp
  by_cases h : s.data.toList.head? = some 80
  · have h1 : Lib.hasPrefix s.data.toList [80] = true := by
      unfold Lib.hasPrefix
      cases hl : s.data.toList with
      | nil => rw [hl] at h; simp at h
      | cons b r =>
        rw [hl] at h
        have hb : b = 80 := by simpa using h
        subst hb
        rfl
    rw [if_pos h, decide_eq_true h, h1]
    unfold Lib.trimPrefix
    rw [if_pos h1]
    rfl
  · have h1 : Lib.hasPrefix s.data.toList [80] = false := by
      unfold Lib.hasPrefix
      cases hl : s.data.toList with
      | nil => rfl
      | cons b r =>
        rw [hl] at h
        have hb : ¬ b = 80 := by simpa using h
        simp [List.isPrefixOf]
        exact fun e => hb e.symm
    rw [if_neg h, decide_eq_false h, h1]
    unfold Lib.trimPrefix
    rw [if_neg (by rw [h1]; simp), e]

theorem lt_of_cell {w : World} {b o : Nat} {v : Value} (h : w.cell? ⟨b, o, none⟩ = some v) : b < w.heap.size := by
  rcases Nat.lt_or_ge b w.heap.size with h' | h'
  · exact h'
  · simp [World.cell?, Array.getElem?_eq_none h'] at h

set_option maxRecDepth 100000 in
set_option maxHeartbeats 3200000 in
theorem split_form (s : ByteArray) (a0 a1 a2 a3 : Addr) (w : World) (hs : s.size < 4294967281) (h0 : s ≠ ⟨#[]⟩) (hE : Env w) (hR : Errs a0 a1 a2 a3 w) (h : formN s.data.toList = none) :
    Calls Tryz.prog 108 #[.string s] w fun e w' => (∃ part, e = .returned (.tuple #[pageV 0 0 0 ⟨#[]⟩, errV part a3])) ∧ Below w.heap.size w w' := by
  have q1 := str_nil h0
  have q2 : s.toList.isEmpty = false := by simpa using q1
  clear h0
  have hb0 := bel_one w (.cells #[.int .i64 0, .int .i64 0, .int .i64 0, .string ⟨#[]⟩] 104)
  have g := (hR.later hb0).e3
  have h3 := lt_of_cell hR.e3
  have n1 : ¬ 4 = w.heap.size := by omega
  have n2 : ¬ w.heap.size = 4 := by omega
  have P := fun w => pre_any s w
  by_cases hh : s.data.toList.head? = some 80
  · have hsz : (bytesOf (s.data.toList.drop 1)).size < 4294967281 := by
      rw [bytesOf_size, List.length_drop, Array.length_toList]
      have : s.data.size = s.size := rfl
      omega
    have hE0 := hE.later hb0
    have hz0 := Zp.new w
    unfold formN at h
    rw [if_pos hh] at h
    simp only [if_pos hh, decide_eq_true hh] at P
    have HL := bytesOf_list (s.data.toList.drop 1)
    generalize s.data.toList.drop 1 = l1 at *
    clear hh
    cases h1 : cutN l1 9 with
    | none =>
      have A := ahead_no (bytesOf l1) 9 _ hsz (by omega) hE0 (by rw [HL]; exact h1)
      clear h h1
      go_enter Tryz.func108, Tryz.ntmps108
      go_wp2_with fail
      refine (P _).mono ?_
      rintro x w1 ⟨rfl, rfl⟩
      go_wp2_with fail
      refine A.mono ?_
      rintro x w2 ⟨⟨z, r, rfl⟩, hbk⟩
      have Z := hz0.later hbk
      obtain ⟨c0, c1, c2, c3, f0, f1, f2, f3, lt⟩ := Z
      have g2 := cell_later hbk g
      clear hE hE0 hz0 hR P g
      go_wp2
      go_region
      all_goals go_wp2
      all_goals exact bodyPost_ret (v := .tuple #[pageV 0 0 0 ⟨#[]⟩, errV ⟨#[110, 117, 109, 98, 101, 114]⟩ a3]) (by simp [results, Tryz.results108, go_sem, pageV, errV, c0, c1, c2, c3]) rfl ⟨⟨_, rfl⟩, (((((bel_after hb0 hbk).setCell (p := ⟨w.heap.size, 0, none⟩) (Nat.le_refl _) _).setCell (p := ⟨w.heap.size, 1, none⟩) (Nat.le_refl _) _).setCell (p := ⟨w.heap.size, 2, none⟩) (Nat.le_refl _) _).setCell (p := ⟨w.heap.size, 3, none⟩) (Nat.le_refl _) _).drew⟩
    | some x1 =>
      obtain ⟨n, l2⟩ := x1
      have A := ahead_yes (bytesOf l1) 9 n l2 _ hsz (by omega) hE0 (by rw [HL]; exact h1)
      rw [h1] at h
      simp only at h
      obtain ⟨_, _, le2⟩ := cutN_range (by omega) h1
      have hsz2 : (bytesOf l2).size < 4294967281 := by rw [bytesOf_size] at hsz ⊢; omega
      have HL2 := bytesOf_list l2
      go_enter Tryz.func108, Tryz.ntmps108
      go_wp2_with fail
      refine (P _).mono ?_
      rintro x w1 ⟨rfl, rfl⟩
      go_wp2_with fail
      refine A.mono ?_
      rintro x w2 ⟨rfl, hb2⟩
      clear A h1
      cases h2 : cutN l2 9 with
      | none =>
        have A2 := ahead_no (bytesOf l2) 9 _ hsz2 (by omega) (hE0.later hb2) (by rw [HL2]; exact h2)
        clear h h2
        go_wp2_with fail
        refine A2.mono ?_
        rintro x w3 ⟨⟨z, r, rfl⟩, hb3⟩
        have hbk := bel_after hb2 hb3
        have Z := hz0.later hbk
        obtain ⟨c0, c1, c2, c3, f0, f1, f2, f3, lt⟩ := Z
        have g2 := cell_later hbk g
        clear hE hE0 hz0 hR P g
        go_wp2
        go_region
        all_goals go_wp2
        all_goals exact bodyPost_ret (v := .tuple #[pageV 0 0 0 ⟨#[]⟩, errV ⟨#[101, 112, 111, 99, 104]⟩ a3]) (by simp [results, Tryz.results108, go_sem, pageV, errV, c0, c1, c2, c3]) rfl ⟨⟨_, rfl⟩, (((((bel_after hb0 hbk).setCell (p := ⟨w.heap.size, 0, none⟩) (Nat.le_refl _) _).setCell (p := ⟨w.heap.size, 1, none⟩) (Nat.le_refl _) _).setCell (p := ⟨w.heap.size, 2, none⟩) (Nat.le_refl _) _).setCell (p := ⟨w.heap.size, 3, none⟩) (Nat.le_refl _) _).drew⟩
      | some x2 =>
        obtain ⟨e, l3⟩ := x2
        have A2 := ahead_yes (bytesOf l2) 9 e l3 _ hsz2 (by omega) (hE0.later hb2) (by rw [HL2]; exact h2)
        rw [h2] at h
        simp only at h
        obtain ⟨_, _, le3⟩ := cutN_range (by omega) h2
        have hsz3 : (bytesOf l3).size < 4294967281 := by rw [bytesOf_size] at hsz2 ⊢; omega
        have HL3 := bytesOf_list l3
        go_wp2_with fail
        refine A2.mono ?_
        rintro x w3 ⟨rfl, hb3⟩
        have hb23 := bel_after hb2 hb3
        clear A2 h2
        cases h3' : cutN l3 10 with
        | none =>
          have A3 := ahead_no (bytesOf l3) 10 _ hsz3 (by omega) (hE0.later hb23) (by rw [HL3]; exact h3')
          clear h h3'
          go_wp2_with fail
          refine A3.mono ?_
          rintro x w4 ⟨⟨z, r, rfl⟩, hb4⟩
          have hbk := bel_after hb23 hb4
          have Z := hz0.later hbk
          obtain ⟨c0, c1, c2, c3, f0, f1, f2, f3, lt⟩ := Z
          have g2 := cell_later hbk g
          clear hE hE0 hz0 hR P g
          go_wp2
          go_region
          all_goals go_wp2
          all_goals exact bodyPost_ret (v := .tuple #[pageV 0 0 0 ⟨#[]⟩, errV ⟨#[115, 117, 109]⟩ a3]) (by simp [results, Tryz.results108, go_sem, pageV, errV, c0, c1, c2, c3]) rfl ⟨⟨_, rfl⟩, (((((bel_after hb0 hbk).setCell (p := ⟨w.heap.size, 0, none⟩) (Nat.le_refl _) _).setCell (p := ⟨w.heap.size, 1, none⟩) (Nat.le_refl _) _).setCell (p := ⟨w.heap.size, 2, none⟩) (Nat.le_refl _) _).setCell (p := ⟨w.heap.size, 3, none⟩) (Nat.le_refl _) _).drew⟩
        | some x3 =>
          rw [h3'] at h
          simp at h
  · simp only [if_neg hh, decide_eq_false hh] at P
    go_enter Tryz.func108, Tryz.ntmps108
    go_wp2_with (go_at_call 87; refine (P _).mono ?_; rintro x w1 ⟨rfl, rfl⟩)
    go_region
    all_goals go_wp2
    all_goals exact bodyPost_ret (v := .tuple #[pageV 0 0 0 ⟨#[]⟩, errV ⟨#[98, 101, 103, 105, 110]⟩ a3]) (by simp [results, Tryz.results108, go_sem, pageV, errV]) rfl ⟨⟨_, rfl⟩, (bel_one _ _).drew⟩

set_option maxRecDepth 100000 in
set_option maxHeartbeats 3200000 in
theorem split_yes (s : ByteArray) (n e c : Int) (b : List UInt8) (w : World) (hs : s.size < 4294967281) (h0 : s ≠ ⟨#[]⟩) (hE : Env w) (h : formN s.data.toList = some (n, e, c, b)) :
    Calls Tryz.prog 108 #[.string s] w fun x w' => x = .returned (.tuple #[pageV n e c (bytesOf b), .nilIface]) ∧ Below w.heap.size w w' := by
  have q1 := str_nil h0
  have q2 : s.toList.isEmpty = false := by simpa using q1
  clear h0
  have hb0 := bel_one w (.cells #[.int .i64 0, .int .i64 0, .int .i64 0, .string ⟨#[]⟩] 104)
  have P := fun w => pre_any s w
  unfold formN at h
  by_cases hh : s.data.toList.head? = some 80
  · have hsz : (bytesOf (s.data.toList.drop 1)).size < 4294967281 := by
      rw [bytesOf_size, List.length_drop, Array.length_toList]
      have : s.data.size = s.size := rfl
      omega
    have hE0 := hE.later hb0
    have hz0 := Zp.new w
    rw [if_pos hh] at h
    simp only [if_pos hh, decide_eq_true hh] at P
    have HL := bytesOf_list (s.data.toList.drop 1)
    generalize s.data.toList.drop 1 = l1 at *
    clear hh
    cases h1 : cutN l1 9 with
    | none => rw [h1] at h; simp at h
    | some x1 =>
      obtain ⟨n', l2⟩ := x1
      have A := ahead_yes (bytesOf l1) 9 n' l2 _ hsz (by omega) hE0 (by rw [HL]; exact h1)
      rw [h1] at h
      simp only at h
      obtain ⟨_, _, le2⟩ := cutN_range (by omega) h1
      have hsz2 : (bytesOf l2).size < 4294967281 := by rw [bytesOf_size] at hsz ⊢; omega
      have HL2 := bytesOf_list l2
      clear h1
      cases h2 : cutN l2 9 with
      | none => rw [h2] at h; simp at h
      | some x2 =>
        obtain ⟨e', l3⟩ := x2
        have A2 := fun w (hE : Env w) => ahead_yes (bytesOf l2) 9 e' l3 w hsz2 (by omega) hE (by rw [HL2]; exact h2)
        rw [h2] at h
        simp only at h
        obtain ⟨_, _, le3⟩ := cutN_range (by omega) h2
        have hsz3 : (bytesOf l3).size < 4294967281 := by rw [bytesOf_size] at hsz2 ⊢; omega
        have HL3 := bytesOf_list l3
        clear h2
        cases h3' : cutN l3 10 with
        | none => rw [h3'] at h; simp at h
        | some x3 =>
          obtain ⟨c', l4⟩ := x3
          have A3 := fun w (hE : Env w) => ahead_yes (bytesOf l3) 10 c' l4 w hsz3 (by omega) hE (by rw [HL3]; exact h3')
          rw [h3'] at h
          simp only [Option.some.injEq, Prod.mk.injEq] at h
          obtain ⟨rfl, rfl, rfl, rfl⟩ := h
          clear h3' HL HL2 HL3 le2 le3
          go_enter Tryz.func108, Tryz.ntmps108
          go_wp2_with fail
          refine (P _).mono ?_
          rintro x w1 ⟨rfl, rfl⟩
          go_wp2_with fail
          refine A.mono ?_
          rintro x w2 ⟨rfl, hb2⟩
          go_wp2_with fail
          refine (A2 _ (hE0.later hb2)).mono ?_
          rintro x w3 ⟨rfl, hb3⟩
          have hb23 := bel_after hb2 hb3
          go_wp2_with fail
          refine (A3 _ (hE0.later hb23)).mono ?_
          rintro x w4 ⟨rfl, hb4⟩
          have hbk := bel_after hb23 hb4
          have Z := hz0.later hbk
          obtain ⟨c0, c1, c2, c3, f0, f1, f2, f3, lt⟩ := Z
          clear hE hE0 hz0 P A A2 A3
          go_wp2
          exact bodyPost_ret (v := .tuple #[pageV n' e' c' (bytesOf l4), .nilIface]) (by simp [results, Tryz.results108, go_sem, pageV, c0, c1, c2, c3]) rfl ⟨rfl, ((((bel_after hb0 hbk).setCell (p := ⟨w.heap.size, 0, none⟩) (Nat.le_refl _) _).setCell (p := ⟨w.heap.size, 1, none⟩) (Nat.le_refl _) _).setCell (p := ⟨w.heap.size, 2, none⟩) (Nat.le_refl _) _).setCell (p := ⟨w.heap.size, 3, none⟩) (Nat.le_refl _) _⟩
  · rw [if_neg hh] at h
    simp at h

end Go.Proofs.YtjclpbaiiklhcaaGreatDoor
