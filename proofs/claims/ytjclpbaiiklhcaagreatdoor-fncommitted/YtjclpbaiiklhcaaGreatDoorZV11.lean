import Derived.Test.YtjclpbaiiklhcaaGreatDoorZReadP
import Derived.Test.YtjclpbaiiklhcaaGreatDoorZAs
import Derived.Test.YtjclpbaiiklhcaaGreatDoorZIs
import Derived.Test.YtjclpbaiiklhcaaGreatDoorZV4
/- damageCode and OpenPage of the program. -/
namespace Go.Proofs.YtjclpbaiiklhcaaGreatDoor
open Go.RowKit

/-- The errors' own rows: each a block that no one shares. -/
structure Rws (a0 a1 a2 a3 : Addr) (w : World) : Prop where
  r0 : ∃ c t, w.heap[a0.block]? = some (.cells c t (0, 0))
  r1 : ∃ c t, w.heap[a1.block]? = some (.cells c t (0, 0))
  r2 : ∃ c t, w.heap[a2.block]? = some (.cells c t (0, 0))
  r3 : ∃ c t, w.heap[a3.block]? = some (.cells c t (0, 0))
theorem row_later {w w' : World} {k : Nat} (hb : Below w.heap.size w w') (h : ∃ c t, w.heap[k]? = some (.cells c t (0, 0))) : ∃ c t, w'.heap[k]? = some (.cells c t (0, 0)) := by
  obtain ⟨c, t, h⟩ := h
  refine ⟨c, t, ?_⟩
  have hlt : k < w.heap.size := by
    rcases Nat.lt_or_ge k w.heap.size with h' | h'
    · exact h'
    · rw [Array.getElem?_eq_none h'] at h; cases h
  rw [hb.block k hlt]
  exact h
theorem Rws.later {a0 a1 a2 a3 : Addr} {w w' : World} (h : Rws a0 a1 a2 a3 w) (hb : Below w.heap.size w w') : Rws a0 a1 a2 a3 w' :=
  ⟨row_later hb h.r0, row_later hb h.r1, row_later hb h.r2, row_later hb h.r3⟩
/-- The four are four. -/
structure Four (a0 a1 a2 a3 : Addr) : Prop where
  n01 : a0 ≠ a1
  n02 : a0 ≠ a2
  n03 : a0 ≠ a3
  n12 : a1 ≠ a2
  n13 : a1 ≠ a3
  n23 : a2 ≠ a3
/-- Where the handle of the type error lies. -/
def Hd (w : World) : Prop := w.cell? ⟨6, 0, none⟩ = some (.iface 176 (.agg #[.pointer (some ⟨12, 92, none⟩)]))

theorem is_no (part : ByteArray) (a b : Addr) (w : World) (hne : a ≠ b) (ha : ∃ c t, w.heap[a.block]? = some (.cells c t (0, 0))) (hb : ∃ c t, w.heap[b.block]? = some (.cells c t (0, 0))) :
    Calls Tryz.prog 110 #[.iface 122 (.agg #[.string part, .iface 200 (.pointer (some a))]), .iface 200 (.pointer (some b))] w fun e w' => e = .returned (.bool false) ∧ w' = w.alloc (.cells #[.string part, .iface 200 (.pointer (some a))] 122) := by
  obtain ⟨ca, ta, ha⟩ := ha
  obtain ⟨cb, tb, hb⟩ := hb
  exact is_other part a b ca cb ta tb w hne ha hb

theorem code_nil (w : World) : Calls Tryz.prog 99 #[.nilIface] w fun e w' => e = .returned (.int .i64 0) ∧ Below w.heap.size w w' := by
  go_enter Tryz.func99, Tryz.ntmps99
  go_wp2_with (go_at_call 109; refine (as_nil _ _).mono ?_; rintro x w1 ⟨rfl, rfl⟩)
  go_ret
  exact ⟨rfl, bel_one _ _⟩

theorem two_set {W : World} {R : Nat} {u0 u1 : Value} (c0 : W.cell? ⟨R, 0, none⟩ = some u0) (c1 : W.cell? ⟨R, 1, none⟩ = some u1) (v0 v1 : Value) :
    ((W.setCell ⟨R, 0, none⟩ v0).setCell ⟨R, 1, none⟩ v1).cell? ⟨R, 0, none⟩ = some v0 ∧ ((W.setCell ⟨R, 0, none⟩ v0).setCell ⟨R, 1, none⟩ v1).cell? ⟨R, 1, none⟩ = some v1 := by
  have h1 : (W.setCell ⟨R, 0, none⟩ v0).cell? ⟨R, 1, none⟩ = some u1 := by rw [World.cell?_setCell_other _ _ _ _ (by simp)]; exact c1
  refine ⟨?_, World.cell?_setCell_same _ _ _ h1⟩
  rw [World.cell?_setCell_other _ _ _ _ (by simp)]
  exact World.cell?_setCell_same _ _ _ c0
/-- Behind errors.As: a world in which the found error lies in block F. -/
theorem as_found (part : ByteArray) (e : Addr) (w : World) (hd : Hd w) :
    Calls Tryz.prog 109 #[errV part e, .iface 142 (.pointer (some ⟨w.heap.size, 0, none⟩))] (w.alloc (.cells #[.string ⟨#[]⟩, .nilIface] 122)) fun ev w' => ev = .returned (.bool true) ∧
      w'.cell? ⟨w.heap.size, 0, none⟩ = some (.string part) ∧ w'.cell? ⟨w.heap.size, 1, none⟩ = some (.iface 200 (.pointer (some e))) ∧ Below w.heap.size w w' ∧ w.heap.size < w'.heap.size := by
  have hb0 := bel_one w (.cells #[.string ⟨#[]⟩, .nilIface] 122)
  refine (as_hit part e w.heap.size (.string ⟨#[]⟩) .nilIface _ (cell_later hb0 hd) (by simp) (by simp) (by simp) (by simp)).mono fun ev w' ⟨he, hw⟩ => ⟨he, ?_⟩
  have hb4 : Below (w.alloc (.cells #[.string ⟨#[]⟩, .nilIface] 122)).heap.size (w.alloc (.cells #[.string ⟨#[]⟩, .nilIface] 122)) _ := bel_after (bel_after (bel_after (bel_one (w.alloc (.cells #[.string ⟨#[]⟩, .nilIface] 122)) (.cells #[.pointer (some ⟨w.heap.size, 0, none⟩)] 142)) (bel_one _ (.cells #[.pointer (some ⟨12, 142, none⟩), .pointer (some ⟨(w.alloc (.cells #[.string ⟨#[]⟩, .nilIface] 122)).heap.size, 0, none⟩), .int .u64 150] 155))) (bel_one _ (.cells #[.pointer (some ⟨12, 142, none⟩), .pointer (some ⟨(w.alloc (.cells #[.string ⟨#[]⟩, .nilIface] 122)).heap.size, 0, none⟩), .int .u64 150] 155))) (bel_one _ (.cells #[.string part, .iface 200 (.pointer (some e))] 122))
  have c0 := cell_later hb4 (b := w.heap.size) (o := 0) (v := .string ⟨#[]⟩) (by simp)
  have c1 := cell_later hb4 (b := w.heap.size) (o := 1) (v := .nilIface) (by simp)
  have hsz := hb4.size
  have hbw := bel_after hb0 hb4
  subst hw
  refine ⟨(two_set c0 c1 _ _).1, (two_set c0 c1 _ _).2, (hbw.setCell (p := ⟨w.heap.size, 0, none⟩) (Nat.le_refl _) _).setCell (p := ⟨w.heap.size, 1, none⟩) (Nat.le_refl _) _, ?_⟩
  show w.heap.size < ((World.setCell _ _ _).setCell _ _).heap.size
  simp [World.setCell]
  omega

set_option maxRecDepth 100000 in
set_option maxHeartbeats 1000000 in
theorem code_2 (part : ByteArray) (a0 a1 a2 a3 : Addr) (w : World) (hd : Hd w) (hR : Errs a0 a1 a2 a3 w) :
    Calls Tryz.prog 99 #[errV part a2] w fun e w' => e = .returned (.int .i64 1) ∧ Below w.heap.size w w' := by
  have A := as_found part a2 w hd
  unfold errV at A ⊢
  go_enter Tryz.func99, Tryz.ntmps99
  go_wp2_with fail
  refine A.mono ?_
  rintro x w1 ⟨rfl, c0, c1, hb1, hlt⟩
  have g := (hR.later hb1).e2
  clear A
  go_wp2_with (go_at_call 110; refine (is_same part a2 _).mono ?_; rintro x w2 ⟨rfl, rfl⟩)
  go_ret
  exact ⟨rfl, bel_after hb1 (bel_one _ _)⟩

set_option maxRecDepth 100000 in
set_option maxHeartbeats 1000000 in
theorem code_3 (part : ByteArray) (a0 a1 a2 a3 : Addr) (w : World) (hd : Hd w) (hR : Errs a0 a1 a2 a3 w) (hF : Four a0 a1 a2 a3) (hW : Rws a0 a1 a2 a3 w) :
    Calls Tryz.prog 99 #[errV part a3] w fun e w' => e = .returned (.int .i64 2) ∧ Below w.heap.size w w' := by
  have A := as_found part a3 w hd
  unfold errV at A ⊢
  go_enter Tryz.func99, Tryz.ntmps99
  go_wp2_with fail
  refine A.mono ?_
  rintro x w1 ⟨rfl, c0, c1, hb1, hlt⟩
  have g := (hR.later hb1).e2
  have hW1 := hW.later hb1
  clear A
  go_wp2_with fail
  refine (is_no part a3 a2 _ hF.n23.symm hW1.r3 hW1.r2).mono ?_
  rintro x w2 ⟨rfl, hw2⟩
  have hb2 : Below w1.heap.size w1 w2 := by rw [hw2]; exact bel_one _ _
  have d0 := cell_later hb2 c0
  have d1 := cell_later hb2 c1
  have hbw := bel_after hb1 hb2
  have g3 := (hR.later hbw).e3
  clear hw2 c0 c1 g hW1
  go_wp2_with (go_at_call 110; refine (is_same part a3 _).mono ?_; rintro x w3 ⟨rfl, rfl⟩)
  go_ret
  exact ⟨rfl, bel_after hbw (bel_one _ _)⟩

set_option maxRecDepth 100000 in
set_option maxHeartbeats 1000000 in
theorem code_0 (part : ByteArray) (a0 a1 a2 a3 : Addr) (w : World) (hd : Hd w) (hR : Errs a0 a1 a2 a3 w) (hF : Four a0 a1 a2 a3) (hW : Rws a0 a1 a2 a3 w) :
    Calls Tryz.prog 99 #[errV part a0] w fun e w' => e = .returned (.int .i64 3) ∧ Below w.heap.size w w' := by
  have A := as_found part a0 w hd
  unfold errV at A ⊢
  go_enter Tryz.func99, Tryz.ntmps99
  go_wp2_with fail
  refine A.mono ?_
  rintro x w1 ⟨rfl, c0, c1, hb1, hlt⟩
  have g := (hR.later hb1).e2
  have hW1 := hW.later hb1
  clear A
  go_wp2_with fail
  refine (is_no part a0 a2 _ hF.n02 hW1.r0 hW1.r2).mono ?_
  rintro x w2 ⟨rfl, hw2⟩
  have hb2 : Below w1.heap.size w1 w2 := by rw [hw2]; exact bel_one _ _
  have d0 := cell_later hb2 c0
  have d1 := cell_later hb2 c1
  have hbw := bel_after hb1 hb2
  have g3 := (hR.later hbw).e3
  have hW2 := hW.later hbw
  clear hw2 c0 c1 g hW1
  go_wp2_with fail
  refine (is_no part a0 a3 _ hF.n03 hW2.r0 hW2.r3).mono ?_
  rintro x w3 ⟨rfl, hw3⟩
  have hb3 : Below w2.heap.size w2 w3 := by rw [hw3]; exact bel_one _ _
  have e0 := cell_later hb3 d0
  have e1 := cell_later hb3 d1
  have hbw3 := bel_after hbw hb3
  have g4 := (hR.later hbw3).e0
  clear hw3 d0 d1 g3 hW2
  go_wp2_with (go_at_call 110; refine (is_same part a0 _).mono ?_; rintro x w4 ⟨rfl, rfl⟩)
  go_ret
  exact ⟨rfl, bel_after hbw3 (bel_one _ _)⟩

set_option maxRecDepth 100000 in
set_option maxHeartbeats 1000000 in
theorem code_1 (part : ByteArray) (a0 a1 a2 a3 : Addr) (w : World) (hd : Hd w) (hR : Errs a0 a1 a2 a3 w) (hF : Four a0 a1 a2 a3) (hW : Rws a0 a1 a2 a3 w) :
    Calls Tryz.prog 99 #[errV part a1] w fun e w' => e = .returned (.int .i64 4) ∧ Below w.heap.size w w' := by
  have A := as_found part a1 w hd
  unfold errV at A ⊢
  go_enter Tryz.func99, Tryz.ntmps99
  go_wp2_with fail
  refine A.mono ?_
  rintro x w1 ⟨rfl, c0, c1, hb1, hlt⟩
  have g := (hR.later hb1).e2
  have hW1 := hW.later hb1
  clear A
  go_wp2_with fail
  refine (is_no part a1 a2 _ hF.n12 hW1.r1 hW1.r2).mono ?_
  rintro x w2 ⟨rfl, hw2⟩
  have hb2 : Below w1.heap.size w1 w2 := by rw [hw2]; exact bel_one _ _
  have d0 := cell_later hb2 c0
  have d1 := cell_later hb2 c1
  have hbw := bel_after hb1 hb2
  have g3 := (hR.later hbw).e3
  have hW2 := hW.later hbw
  clear hw2 c0 c1 g hW1
  go_wp2_with fail
  refine (is_no part a1 a3 _ hF.n13 hW2.r1 hW2.r3).mono ?_
  rintro x w3 ⟨rfl, hw3⟩
  have hb3 : Below w2.heap.size w2 w3 := by rw [hw3]; exact bel_one _ _
  have e0 := cell_later hb3 d0
  have e1 := cell_later hb3 d1
  have hbw3 := bel_after hbw hb3
  have g4 := (hR.later hbw3).e0
  have hW3 := hW.later hbw3
  clear hw3 d0 d1 g3 hW2
  go_wp2_with (go_at_call 110; refine (is_no part a1 a0 _ hF.n01.symm hW3.r1 hW3.r0).mono ?_; rintro x w4 ⟨rfl, rfl⟩)
  go_ret
  exact ⟨rfl, bel_after hbw3 (bel_one _ _)⟩

end Go.Proofs.YtjclpbaiiklhcaaGreatDoor

/- OpenPage of the program. -/
namespace Go.Proofs.YtjclpbaiiklhcaaGreatDoor
open Go.RowKit

structure Ctx (a0 a1 a2 a3 : Addr) (w : World) : Prop where
  env : Env w
  errs : Errs a0 a1 a2 a3 w
  rws : Rws a0 a1 a2 a3 w
  hd : Hd w
  four : Four a0 a1 a2 a3
theorem Ctx.later {a0 a1 a2 a3 : Addr} {w w' : World} (h : Ctx a0 a1 a2 a3 w) (hb : Below w.heap.size w w') : Ctx a0 a1 a2 a3 w' :=
  ⟨h.env.later hb, h.errs.later hb, h.rws.later hb, cell_later hb h.hd, h.four⟩

set_option maxRecDepth 100000 in
set_option maxHeartbeats 1000000 in
theorem open_err (s : ByteArray) (a : Addr) (k : Int) (w : World) (hk : k ≠ 0)
    (A : Calls Tryz.prog 98 #[.string s] w fun x w' => (∃ part, x = .returned (.tuple #[pageV 0 0 0 ⟨#[]⟩, errV part a])) ∧ Below w.heap.size w w')
    (D : ∀ part w', Below w.heap.size w w' → Calls Tryz.prog 99 #[errV part a] w' fun e w'' => e = .returned (.int .i64 k) ∧ Below w'.heap.size w' w'') :
    Calls Tryz.prog 89 #[.string s] w fun x w' => x = .returned (openV (0, 0, ⟨#[]⟩, k)) ∧ Below w.heap.size w w' := by
  have hk' : (k != 0) = true := by simpa using hk
  unfold pageV errV at A
  unfold errV at D
  go_enter Tryz.func89, Tryz.ntmps89
  go_wp2_with fail
  refine A.mono ?_
  rintro x w1 ⟨⟨part, rfl⟩, hb1⟩
  have hb2 := bel_after hb1 (bel_one w1 (.cells #[.int .i64 0, .int .i64 0, .int .i64 0, .string ⟨#[]⟩] 104))
  have D1 := D part _ hb2
  go_wp2_with fail
  refine D1.mono ?_
  rintro x w3 ⟨rfl, hb3⟩
  go_wp2
  exact bodyPost_ret (v := openV (0, 0, ⟨#[]⟩, k)) (by simp [results, Tryz.results89, go_sem, openV]) rfl ⟨rfl, bel_after hb2 hb3⟩

set_option maxRecDepth 100000 in
set_option maxHeartbeats 3200000 in
theorem open_ok (s : ByteArray) (n e c : Int) (b : ByteArray) (w : World) (hb : b.size ≤ 1000000000000)
    (A : Calls Tryz.prog 98 #[.string s] w fun x w' => x = .returned (.tuple #[pageV n e c b, .nilIface]) ∧ Below w.heap.size w w') :
    Calls Tryz.prog 89 #[.string s] w fun x w' => x = .returned (openV (n, e, b, 0)) ∧ Below w.heap.size w w' := by
  unfold pageV at A
  go_enter Tryz.func89, Tryz.ntmps89
  go_wp2_with fail
  refine A.mono ?_
  rintro x w1 ⟨rfl, hb1⟩
  have hb2 := bel_after hb1 (bel_one w1 (.cells #[.int .i64 n, .int .i64 e, .int .i64 c, .string b] 104))
  go_wp2_with fail
  refine (code_nil _).mono ?_
  rintro x w3 ⟨rfl, hb3⟩
  have q0 : w3.cell? ⟨w1.heap.size, 0, none⟩ = some (.int .i64 n) := cell_later hb3 (by simp)
  have q1 : w3.cell? ⟨w1.heap.size, 1, none⟩ = some (.int .i64 e) := cell_later hb3 (by simp)
  have q2 : w3.cell? ⟨w1.heap.size, 2, none⟩ = some (.int .i64 c) := cell_later hb3 (by simp)
  have q3 : w3.cell? ⟨w1.heap.size, 3, none⟩ = some (.string b) := cell_later hb3 (by simp)
  have hbw := bel_after hb2 hb3
  clear A hb1 hb2 hb3
  go_wp2_with fail
  go_region_held3 (fun w' => Below w3.heap.size w3 w' ∧ w'.cell? ⟨w1.heap.size, 0, none⟩ = some (.int .i64 n) ∧ w'.cell? ⟨w1.heap.size, 1, none⟩ = some (.int .i64 e) ∧ w'.cell? ⟨w1.heap.size, 2, none⟩ = some (.int .i64 c) ∧ w'.cell? ⟨w1.heap.size, 3, none⟩ = some (.string b))
      (first | assumption | (refine ⟨(Below.refl _ _).drew, ?_, ?_, ?_, ?_⟩ <;> simp [q0, q1, q2, q3]) | (exact keep4 (by assumption) (by assumption)))
      (first
        | (go_at_call 58; refine (copyText_any _ _ (by omega)).mono ?_; rintro x w4 ⟨rfl, hb4⟩))
  all_goals
    go_wp2
    exact bodyPost_ret (v := openV (n, e, b, 0)) (by simp [results, Tryz.results89, go_sem, openV]) rfl ⟨rfl, bel_after hbw (And.left (by assumption))⟩

theorem implOpen_any (s : ByteArray) (a0 a1 a2 a3 : Addr) (w : World) (hs : s.size < 4294967281) (hC : Ctx a0 a1 a2 a3 w) :
    Calls Tryz.prog 89 #[.string s] w fun x w' => x = .returned (openV (openR s)) ∧ Below w.heap.size w w' := by
  have R := readPage_any s a0 a1 a2 a3 w hs hC.env hC.errs
  unfold readV at R
  by_cases h0 : s = ⟨#[]⟩
  · have e0 : openR s = (0, 0, ⟨#[]⟩, 1) := by unfold openR; rw [if_pos h0]
    rw [e0]
    simp only [if_pos h0] at R
    exact open_err s a2 1 w (by decide) R fun part w' hb => code_2 part a0 a1 a2 a3 w' (hC.later hb).hd (hC.later hb).errs
  simp only [if_neg h0] at R
  cases hf : formN s.data.toList with
  | none =>
    rw [hf] at R
    rw [openR_form h0 hf]
    exact open_err s a3 2 w (by decide) R fun part w' hb => code_3 part a0 a1 a2 a3 w' (hC.later hb).hd (hC.later hb).errs hC.four (hC.later hb).rws
  | some x =>
    obtain ⟨n, e, c, b⟩ := x
    rw [hf] at R
    simp only at R
    obtain ⟨_, _, _, _, k4⟩ := form_range hf
    have k5 : s.data.toList.length = s.size := Array.length_toList
    cases hp : pgOk n e (bytesOf b)
    · rw [openR_range h0 hf hp]
      simp only [formV_range hp] at R
      exact open_err s a0 3 w (by decide) R fun part w' hb => code_0 part a0 a1 a2 a3 w' (hC.later hb).hd (hC.later hb).errs hC.four (hC.later hb).rws
    · by_cases hc : crcS (headS n e ++ bytesOf b) = c
      · rw [openR_is h0 hf hp hc]
        simp only [formV_is hp hc] at R
        exact open_ok s n e c (bytesOf b) w (by rw [bytesOf_size]; omega) (R.mono fun x w' ⟨⟨_, he⟩, hb⟩ => ⟨he, hb⟩)
      · rw [openR_sum h0 hf hp hc]
        simp only [formV_sum hp hc] at R
        exact open_err s a1 4 w (by decide) R fun part w' hb => code_1 part a0 a1 a2 a3 w' (hC.later hb).hd (hC.later hb).errs hC.four (hC.later hb).rws

end Go.Proofs.YtjclpbaiiklhcaaGreatDoor
