/- readPage of the program. -/
import Derived.Test.YtjclpbaiiklhcaaGreatDoorZSplit
import Derived.Test.YtjclpbaiiklhcaaGreatDoorZRange
namespace Go.Proofs.YtjclpbaiiklhcaaGreatDoor
open Go.RowKit

/-- What readPage answers of a text that has the form. -/
def formV (n e c : Int) (b : ByteArray) (a0 a1 : Addr) (part : ByteArray) : Value :=
  if pgOk n e b = true then (if crcS (headS n e ++ b) = c then .tuple #[pageV n e c b, .nilIface] else .tuple #[pageV 0 0 0 ⟨#[]⟩, errV part a1]) else .tuple #[pageV 0 0 0 ⟨#[]⟩, errV part a0]
theorem formV_range {n e c : Int} {b : ByteArray} {a0 a1 : Addr} {part : ByteArray} (h : pgOk n e b = false) : formV n e c b a0 a1 part = .tuple #[pageV 0 0 0 ⟨#[]⟩, errV part a0] := by unfold formV; rw [if_neg (by rw [h]; simp)]
theorem formV_sum {n e c : Int} {b : ByteArray} {a0 a1 : Addr} {part : ByteArray} (h : pgOk n e b = true) (k : ¬ crcS (headS n e ++ b) = c) : formV n e c b a0 a1 part = .tuple #[pageV 0 0 0 ⟨#[]⟩, errV part a1] := by unfold formV; rw [if_pos h, if_neg k]
theorem formV_is {n e c : Int} {b : ByteArray} {a0 a1 : Addr} {part : ByteArray} (h : pgOk n e b = true) (k : crcS (headS n e ++ b) = c) : formV n e c b a0 a1 part = .tuple #[pageV n e c b, .nilIface] := by unfold formV; rw [if_pos h, if_pos k]
/-- What readPage answers: the page and no error; or no page and one of the four errors. -/
def readV (s : ByteArray) (a0 a1 a2 a3 : Addr) (part : ByteArray) : Value :=
  if s = ⟨#[]⟩ then .tuple #[pageV 0 0 0 ⟨#[]⟩, errV part a2] else
  match formN s.data.toList with
  | none => .tuple #[pageV 0 0 0 ⟨#[]⟩, errV part a3]
  | some (n, e, c, b) => formV n e c (bytesOf b) a0 a1 part

theorem form_range {l : List UInt8} {n e c : Int} {b : List UInt8} (h : formN l = some (n, e, c, b)) :
    -1000000000000000000 ≤ n ∧ n ≤ 1000000000000000000 ∧ -1000000000000000000 ≤ e ∧ e ≤ 1000000000000000000 ∧ b.length ≤ l.length := by
  unfold formN at h
  split at h
  · cases h1 : cutN (l.drop 1) 9 with
    | none => rw [h1] at h; simp at h
    | some x1 =>
      obtain ⟨n', r1⟩ := x1
      rw [h1] at h
      simp only at h
      cases h2 : cutN r1 9 with
      | none => rw [h2] at h; simp at h
      | some x2 =>
        obtain ⟨e', r2⟩ := x2
        rw [h2] at h
        simp only at h
        cases h3 : cutN r2 10 with
        | none => rw [h3] at h; simp at h
        | some x3 =>
          obtain ⟨c', b'⟩ := x3
          rw [h3] at h
          simp only [Option.some.injEq, Prod.mk.injEq] at h
          obtain ⟨rfl, rfl, rfl, rfl⟩ := h
          obtain ⟨p1, p2, p3⟩ := cutN_range (by omega) h1
          obtain ⟨q1, q2, q3⟩ := cutN_range (by omega) h2
          obtain ⟨_, _, r3⟩ := cutN_range (by omega) h3
          rw [List.length_drop] at p3
          omega
  · simp at h

/-- The zero page stored over the zero page of block R. -/
theorem zp_ends {w w2 : World} {R : Nat} (h : Below w.heap.size w w2) (hR : w.heap.size ≤ R) (v0 v1 v2 v3 : Value) :
    Below w.heap.size w ((((w2.setCell ⟨R, 0, none⟩ v0).setCell ⟨R, 1, none⟩ v1).setCell ⟨R, 2, none⟩ v2).setCell ⟨R, 3, none⟩ v3) :=
  (((h.setCell (p := ⟨R, 0, none⟩) hR _).setCell (p := ⟨R, 1, none⟩) hR _).setCell (p := ⟨R, 2, none⟩) hR _).setCell (p := ⟨R, 3, none⟩) hR _

set_option maxRecDepth 100000 in
set_option maxHeartbeats 3200000 in
theorem readPage_err (s : ByteArray) (a : Addr) (w : World)
    (C : ∀ w', Below w.heap.size w w' → Calls Tryz.prog 108 #[.string s] w' fun e w'' => (∃ part, e = .returned (.tuple #[pageV 0 0 0 ⟨#[]⟩, errV part a])) ∧ Below w'.heap.size w' w'') :
    Calls Tryz.prog 98 #[.string s] w fun e w' => (∃ part, e = .returned (.tuple #[pageV 0 0 0 ⟨#[]⟩, errV part a])) ∧ Below w.heap.size w w' := by
  have hb0 := bel_one w (.cells #[.int .i64 0, .int .i64 0, .int .i64 0, .string ⟨#[]⟩] 104)
  have A := C _ hb0
  have hz0 := Zp.new w
  unfold pageV errV at A ⊢
  clear C
  go_enter Tryz.func98, Tryz.ntmps98
  go_wp2_with fail
  refine A.mono ?_
  rintro x w1 ⟨⟨part, rfl⟩, hb1⟩
  have Z := hz0.later hb1
  obtain ⟨c0, c1, c2, c3, f0, f1, f2, f3, lt⟩ := Z
  have hbw := bel_after hb0 hb1
  have ne1 : ¬ w.heap.size = w1.heap.size := by omega
  have ne2 : ¬ w1.heap.size = w.heap.size := by omega
  clear A hz0
  go_wp2
  exact bodyPost_ret (v := .tuple #[.agg #[.int .i64 0, .int .i64 0, .int .i64 0, .string ⟨#[]⟩], .iface 122 (.agg #[.string part, .iface 200 (.pointer (some a))])]) (by simp [results, Tryz.results98, go_sem, c0, c1, c2, c3, lt]) rfl ⟨⟨_, rfl⟩, (zp_ends hbw (Nat.le_refl _) _ _ _ _).alloc (by simp; omega) _⟩

set_option maxRecDepth 100000 in
set_option maxHeartbeats 3200000 in
theorem readPage_form (s : ByteArray) (n e c : Int) (b : ByteArray) (a0 a1 a2 a3 : Addr) (w : World) (hb : b.size ≤ 100000000000) (hE : Env w) (hR : Errs a0 a1 a2 a3 w)
    (k0 : -1000000000000000000 ≤ n) (k1 : n ≤ 1000000000000000000) (k2 : -1000000000000000000 ≤ e) (k3 : e ≤ 1000000000000000000)
    (C : ∀ w', Below w.heap.size w w' → Calls Tryz.prog 108 #[.string s] w' fun e' w'' => e' = .returned (.tuple #[pageV n e c b, .nilIface]) ∧ Below w'.heap.size w' w'') :
    Calls Tryz.prog 98 #[.string s] w fun x w' => (∃ part, x = .returned (formV n e c b a0 a1 part)) ∧ Below w.heap.size w w' := by
  have hb0 := bel_one w (.cells #[.int .i64 0, .int .i64 0, .int .i64 0, .string ⟨#[]⟩] 104)
  have A := C _ hb0
  have hz0 := Zp.new w
  have h3 := lt_of_cell hR.e1
  unfold pageV at A
  clear C
  go_enter Tryz.func98, Tryz.ntmps98
  go_wp2_with fail
  refine A.mono ?_
  rintro x w1 ⟨rfl, hb1⟩
  clear A
  have hbw := bel_after hb0 hb1
  have hbp := bel_one w1 (.cells #[.int .i64 n, .int .i64 e, .int .i64 c, .string b] 104)
  have CR := checkRange_any n e c b 200 a0 _ ((hR.later hbw).later hbp).e0
  unfold pageV at CR
  go_wp2_with fail
  refine CR.mono ?_
  rintro x w2 ⟨⟨part, rfl⟩, hb2⟩
  clear CR
  have hb12 := bel_after hbp hb2
  have Z := (hz0.later hb1).later hb12
  obtain ⟨c0, c1, c2, c3, f0, f1, f2, f3, lt⟩ := Z
  have hbw2 := bel_after hbw hb12
  have g := (hR.later hbw2).e1
  have n1 : ¬ 2 = w.heap.size := by omega
  have n2 : ¬ w.heap.size = 2 := by omega
  have p0 : w2.cell? ⟨w1.heap.size, 0, none⟩ = some (.int .i64 n) := cell_later hb2 (by simp)
  have p1 : w2.cell? ⟨w1.heap.size, 1, none⟩ = some (.int .i64 e) := cell_later hb2 (by simp)
  have p2 : w2.cell? ⟨w1.heap.size, 2, none⟩ = some (.int .i64 c) := cell_later hb2 (by simp)
  have p3 : w2.cell? ⟨w1.heap.size, 3, none⟩ = some (.string b) := cell_later hb2 (by simp)
  have ht2 := hE.tb.later hbw2
  have hlt1 : w.heap.size < w1.heap.size := (hz0.later hb1).lt
  clear hb0 hb1 hz0 hbp hR hE hbw hb12 hb2
  have ne1 : ¬ w.heap.size = w1.heap.size := by omega
  have ne2 : ¬ w1.heap.size = w.heap.size := by omega
  cases hpg : pgOk n e b
  · rw [rangeV_no hpg]
    have H : Hid (pgOk n e b = false) := hpg
    clear hpg
    go_wp2
    exact bodyPost_ret (v := .tuple #[.agg #[.int .i64 0, .int .i64 0, .int .i64 0, .string ⟨#[]⟩], .iface 122 (.agg #[.string part, .iface 200 (.pointer (some a0))])]) (by simp [results, Tryz.results98, go_sem, c0, c1, c2, c3]) rfl ⟨⟨part, by rw [formV_range H.out]; rfl⟩, zp_ends hbw2 (Nat.le_refl _) _ _ _ _⟩
  · rw [rangeV_yes hpg]
    have H : Hid (pgOk n e b = true) := hpg
    clear hpg
    have PS := fun w' => pageSum_any n e c b w' (by omega) (by omega) (by omega) (by omega) hb
    unfold pageV at PS
    go_wp2_with fail
    go_region_held3 (fun w' => Below w2.heap.size w2 w' ∧ w'.cell? ⟨w1.heap.size, 0, none⟩ = some (.int .i64 n) ∧ w'.cell? ⟨w1.heap.size, 1, none⟩ = some (.int .i64 e) ∧ w'.cell? ⟨w1.heap.size, 2, none⟩ = some (.int .i64 c) ∧ w'.cell? ⟨w1.heap.size, 3, none⟩ = some (.string b))
      (first | assumption | (refine ⟨(Below.refl _ _).drew, ?_, ?_, ?_, ?_⟩ <;> simp [p0, p1, p2, p3]) | (exact keep4 (by assumption) (by assumption)))
      (first
        | (go_at_call 78; refine (PS _ ?_).mono ?_; (focus (exact ht2.held (by assumption))); rintro x w3 ⟨rfl, hb3⟩))
    all_goals
      rename_i hHeld
      obtain ⟨hb23, d0, d1, d2, d3⟩ := hHeld
      have Z : Zp w.heap.size w3 := Zp.later ⟨c0, c1, c2, c3, f0, f1, f2, f3, lt⟩ hb23
      clear c0 c1 c2 c3 f0 f1 f2 f3 lt p0 p1 p2 p3
      obtain ⟨c0, c1, c2, c3, f0, f1, f2, f3, lt⟩ := Z
      have g3 := cell_later hb23 g
      have hbw3 := bel_after hbw2 hb23
      clear g hbw2 hb23 hb3 ht2 PS
      by_cases hcc : crcS (headS n e ++ b) = c
      · have HC : Hid (crcS (headS n e ++ b) = c) := hcc
        have hcc' : (c != crcS (headS n e ++ b)) = false := by simpa using hcc.symm
        clear hcc
        go_wp2
        exact bodyPost_ret (v := .tuple #[.agg #[.int .i64 n, .int .i64 e, .int .i64 c, .string b], .nilIface]) (by simp [results, Tryz.results98, go_sem, c0, c1, c2, c3]) rfl ⟨⟨⟨#[]⟩, by rw [formV_is H.out HC.out]; rfl⟩, zp_ends hbw3 (Nat.le_refl _) _ _ _ _⟩
      · have HC : Hid (¬ crcS (headS n e ++ b) = c) := hcc
        have hcc' : (c != crcS (headS n e ++ b)) = true := by simpa using fun e => hcc e.symm
        clear hcc
        go_wp2
        go_region
        all_goals go_wp2
        all_goals exact bodyPost_ret (v := .tuple #[.agg #[.int .i64 0, .int .i64 0, .int .i64 0, .string ⟨#[]⟩], .iface 122 (.agg #[.string ⟨#[115, 117, 109]⟩, .iface 200 (.pointer (some a1))])]) (by simp [results, Tryz.results98, go_sem, c0, c1, c2, c3]) rfl ⟨⟨⟨#[115, 117, 109]⟩, by rw [formV_sum H.out HC.out]; rfl⟩, (zp_ends hbw3 (Nat.le_refl _) _ _ _ _).drew⟩

theorem readPage_any (s : ByteArray) (a0 a1 a2 a3 : Addr) (w : World) (hs : s.size < 4294967281) (hE : Env w) (hR : Errs a0 a1 a2 a3 w) :
    Calls Tryz.prog 98 #[.string s] w fun x w' => (∃ part, x = .returned (readV s a0 a1 a2 a3 part)) ∧ Below w.heap.size w w' := by
  unfold readV
  by_cases h0 : s = ⟨#[]⟩
  · rw [h0]
    simp only [if_pos]
    exact readPage_err _ a2 w fun w' hb => split_empty a0 a1 a2 a3 w' (hR.later hb)
  simp only [if_neg h0]
  cases hf : formN s.data.toList with
  | none => exact readPage_err s a3 w fun w' hb => split_form s a0 a1 a2 a3 w' hs h0 (hE.later hb) (hR.later hb) hf
  | some x =>
    obtain ⟨n, e, c, b⟩ := x
    obtain ⟨k0, k1, k2, k3, k4⟩ := form_range hf
    simp only
    refine readPage_form s n e c (bytesOf b) a0 a1 a2 a3 w ?_ hE hR k0 k1 k2 k3 fun w' hb => split_yes s n e c b w' hs h0 (hE.later hb) hf
    rw [bytesOf_size]
    have k5 : s.data.toList.length = s.size := Array.length_toList
    omega

end Go.Proofs.YtjclpbaiiklhcaaGreatDoor
