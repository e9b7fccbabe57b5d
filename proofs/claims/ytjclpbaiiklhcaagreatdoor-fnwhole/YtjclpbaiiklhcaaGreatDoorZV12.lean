import Derived.Test.YtjclpbaiiklhcaaGreatDoorZReadP
import Derived.Test.YtjclpbaiiklhcaaGreatDoorZAs
import Derived.Test.YtjclpbaiiklhcaaGreatDoorZIs
import Derived.Test.YtjclpbaiiklhcaaGreatDoorZV3
import Derived.Test.YtjclpbaiiklhcaaGreatDoorZV10
import Derived.Test.YtjclpbaiiklhcaaGreatDoorZReadS
/- damageCode and OpenPage of the program. -/
namespace Go.Proofs.YtjclpbaiiklhcaaGreatDoor
open Go.RowKit

/-- The errors' own rows: each a block that no one shares. -/
structure Rws (a0 a1 a2 a3 : Addr) (w : World) : Prop where
  r0 : ∃ c t, w.heap[a0.block]? = some (.cells c t (0, 0))
  r1 : ∃ c t, w.heap[a1.block]? = some (.cells c t (0, 0))
  r2 : ∃ c t, w.heap[a2.block]? = some (.cells c t (0, 0))
  r3 : ∃ c t, w.heap[a3.block]? = some (.cells c t (0, 0))
theorem row_later {w w' : World} {k : Nat} (hb : Below w.heap.size w w') (h : ∃ c t, w.heap[k]? = some (.cells c t (0, 0))) : ∃ c t, w'.heap[k]? = some (.cells c t (0, 0)) := by
  obtain ⟨c, t, h⟩ := h
  refine ⟨c, t, ?_⟩
  have hlt : k < w.heap.size := by
    rcases Nat.lt_or_ge k w.heap.size with h' | h'
    · exact h'
    · rw [Array.getElem?_eq_none h'] at h; cases h
  rw [hb.block k hlt]
  exact h
theorem Rws.later {a0 a1 a2 a3 : Addr} {w w' : World} (h : Rws a0 a1 a2 a3 w) (hb : Below w.heap.size w w') : Rws a0 a1 a2 a3 w' :=
  ⟨row_later hb h.r0, row_later hb h.r1, row_later hb h.r2, row_later hb h.r3⟩
/-- The four are four. -/
structure Four (a0 a1 a2 a3 : Addr) : Prop where
  n01 : a0 ≠ a1
  n02 : a0 ≠ a2
  n03 : a0 ≠ a3
  n12 : a1 ≠ a2
  n13 : a1 ≠ a3
  n23 : a2 ≠ a3
/-- Where the handle of the type error lies. -/
def Hd (w : World) : Prop := w.cell? ⟨6, 0, none⟩ = some (.iface 176 (.agg #[.pointer (some ⟨12, 92, none⟩)]))

theorem is_no (part : ByteArray) (a b : Addr) (w : World) (hne : a ≠ b) (ha : ∃ c t, w.heap[a.block]? = some (.cells c t (0, 0))) (hb : ∃ c t, w.heap[b.block]? = some (.cells c t (0, 0))) :
    Calls Tryz.prog 110 #[.iface 122 (.agg #[.string part, .iface 200 (.pointer (some a))]), .iface 200 (.pointer (some b))] w fun e w' => e = .returned (.bool false) ∧ w' = w.alloc (.cells #[.string part, .iface 200 (.pointer (some a))] 122) := by
  obtain ⟨ca, ta, ha⟩ := ha
  obtain ⟨cb, tb, hb⟩ := hb
  exact is_other part a b ca cb ta tb w hne ha hb

theorem code_nil (w : World) : Calls Tryz.prog 99 #[.nilIface] w fun e w' => e = .returned (.int .i64 0) ∧ Below w.heap.size w w' := by
  go_enter Tryz.func99, Tryz.ntmps99
  go_wp2_with (go_at_call 109; refine (as_nil _ _).mono ?_; rintro x w1 ⟨rfl, rfl⟩)
  go_ret
  exact ⟨rfl, bel_one _ _⟩

theorem two_set {W : World} {R : Nat} {u0 u1 : Value} (c0 : W.cell? ⟨R, 0, none⟩ = some u0) (c1 : W.cell? ⟨R, 1, none⟩ = some u1) (v0 v1 : Value) :
    ((W.setCell ⟨R, 0, none⟩ v0).setCell ⟨R, 1, none⟩ v1).cell? ⟨R, 0, none⟩ = some v0 ∧ ((W.setCell ⟨R, 0, none⟩ v0).setCell ⟨R, 1, none⟩ v1).cell? ⟨R, 1, none⟩ = some v1 := by
  have h1 : (W.setCell ⟨R, 0, none⟩ v0).cell? ⟨R, 1, none⟩ = some u1 := by rw [World.cell?_setCell_other _ _ _ _ (by simp)]; exact c1
  refine ⟨?_, World.cell?_setCell_same _ _ _ h1⟩
  rw [World.cell?_setCell_other _ _ _ _ (by simp)]
  exact World.cell?_setCell_same _ _ _ c0
/-- Behind errors.As: a world in which the found error lies in block F. -/
theorem as_found (part : ByteArray) (e : Addr) (w : World) (hd : Hd w) :
    Calls Tryz.prog 109 #[errV part e, .iface 142 (.pointer (some ⟨w.heap.size, 0, none⟩))] (w.alloc (.cells #[.string ⟨#[]⟩, .nilIface] 122)) fun ev w' => ev = .returned (.bool true) ∧
      w'.cell? ⟨w.heap.size, 0, none⟩ = some (.string part) ∧ w'.cell? ⟨w.heap.size, 1, none⟩ = some (.iface 200 (.pointer (some e))) ∧ Below w.heap.size w w' ∧ w.heap.size < w'.heap.size := by
  have hb0 := bel_one w (.cells #[.string ⟨#[]⟩, .nilIface] 122)
  refine (as_hit part e w.heap.size (.string ⟨#[]⟩) .nilIface _ (cell_later hb0 hd) (by simp) (by simp) (by simp) (by simp)).mono fun ev w' ⟨he, hw⟩ => ⟨he, ?_⟩
  have hb4 : Below (w.alloc (.cells #[.string ⟨#[]⟩, .nilIface] 122)).heap.size (w.alloc (.cells #[.string ⟨#[]⟩, .nilIface] 122)) _ := bel_after (bel_after (bel_after (bel_one (w.alloc (.cells #[.string ⟨#[]⟩, .nilIface] 122)) (.cells #[.pointer (some ⟨w.heap.size, 0, none⟩)] 142)) (bel_one _ (.cells #[.pointer (some ⟨12, 142, none⟩), .pointer (some ⟨(w.alloc (.cells #[.string ⟨#[]⟩, .nilIface] 122)).heap.size, 0, none⟩), .int .u64 150] 155))) (bel_one _ (.cells #[.pointer (some ⟨12, 142, none⟩), .pointer (some ⟨(w.alloc (.cells #[.string ⟨#[]⟩, .nilIface] 122)).heap.size, 0, none⟩), .int .u64 150] 155))) (bel_one _ (.cells #[.string part, .iface 200 (.pointer (some e))] 122))
  have c0 := cell_later hb4 (b := w.heap.size) (o := 0) (v := .string ⟨#[]⟩) (by simp)
  have c1 := cell_later hb4 (b := w.heap.size) (o := 1) (v := .nilIface) (by simp)
  have hsz := hb4.size
  have hbw := bel_after hb0 hb4
  subst hw
  refine ⟨(two_set c0 c1 _ _).1, (two_set c0 c1 _ _).2, (hbw.setCell (p := ⟨w.heap.size, 0, none⟩) (Nat.le_refl _) _).setCell (p := ⟨w.heap.size, 1, none⟩) (Nat.le_refl _) _, ?_⟩
  show w.heap.size < ((World.setCell _ _ _).setCell _ _).heap.size
  simp [World.setCell]
  omega

set_option maxRecDepth 100000 in
set_option maxHeartbeats 1000000 in
theorem code_2 (part : ByteArray) (a0 a1 a2 a3 : Addr) (w : World) (hd : Hd w) (hR : Errs a0 a1 a2 a3 w) :
    Calls Tryz.prog 99 #[errV part a2] w fun e w' => e = .returned (.int .i64 1) ∧ Below w.heap.size w w' := by
  have A := as_found part a2 w hd
  unfold errV at A ⊢
  go_enter Tryz.func99, Tryz.ntmps99
  go_wp2_with fail
  refine A.mono ?_
  rintro x w1 ⟨rfl, c0, c1, hb1, hlt⟩
  have g := (hR.later hb1).e2
  clear A
  go_wp2_with (go_at_call 110; refine (is_same part a2 _).mono ?_; rintro x w2 ⟨rfl, rfl⟩)
  go_ret
  exact ⟨rfl, bel_after hb1 (bel_one _ _)⟩

set_option maxRecDepth 100000 in
set_option maxHeartbeats 1000000 in
theorem code_3 (part : ByteArray) (a0 a1 a2 a3 : Addr) (w : World) (hd : Hd w) (hR : Errs a0 a1 a2 a3 w) (hF : Four a0 a1 a2 a3) (hW : Rws a0 a1 a2 a3 w) :
    Calls Tryz.prog 99 #[errV part a3] w fun e w' => e = .returned (.int .i64 2) ∧ Below w.heap.size w w' := by
  have A := as_found part a3 w hd
  unfold errV at A ⊢
  go_enter Tryz.func99, Tryz.ntmps99
  go_wp2_with fail
  refine A.mono ?_
  rintro x w1 ⟨rfl, c0, c1, hb1, hlt⟩
  have g := (hR.later hb1).e2
  have hW1 := hW.later hb1
  clear A
  go_wp2_with fail
  refine (is_no part a3 a2 _ hF.n23.symm hW1.r3 hW1.r2).mono ?_
  rintro x w2 ⟨rfl, hw2⟩
  have hb2 : Below w1.heap.size w1 w2 := by rw [hw2]; exact bel_one _ _
  have d0 := cell_later hb2 c0
  have d1 := cell_later hb2 c1
  have hbw := bel_after hb1 hb2
  have g3 := (hR.later hbw).e3
  clear hw2 c0 c1 g hW1
  go_wp2_with (go_at_call 110; refine (is_same part a3 _).mono ?_; rintro x w3 ⟨rfl, rfl⟩)
  go_ret
  exact ⟨rfl, bel_after hbw (bel_one _ _)⟩

set_option maxRecDepth 100000 in
set_option maxHeartbeats 1000000 in
theorem code_0 (part : ByteArray) (a0 a1 a2 a3 : Addr) (w : World) (hd : Hd w) (hR : Errs a0 a1 a2 a3 w) (hF : Four a0 a1 a2 a3) (hW : Rws a0 a1 a2 a3 w) :
    Calls Tryz.prog 99 #[errV part a0] w fun e w' => e = .returned (.int .i64 3) ∧ Below w.heap.size w w' := by
  have A := as_found part a0 w hd
  unfold errV at A ⊢
  go_enter Tryz.func99, Tryz.ntmps99
  go_wp2_with fail
  refine A.mono ?_
  rintro x w1 ⟨rfl, c0, c1, hb1, hlt⟩
  have g := (hR.later hb1).e2
  have hW1 := hW.later hb1
  clear A
  go_wp2_with fail
  refine (is_no part a0 a2 _ hF.n02 hW1.r0 hW1.r2).mono ?_
  rintro x w2 ⟨rfl, hw2⟩
  have hb2 : Below w1.heap.size w1 w2 := by rw [hw2]; exact bel_one _ _
  have d0 := cell_later hb2 c0
  have d1 := cell_later hb2 c1
  have hbw := bel_after hb1 hb2
  have g3 := (hR.later hbw).e3
  have hW2 := hW.later hbw
  clear hw2 c0 c1 g hW1
  go_wp2_with fail
  refine (is_no part a0 a3 _ hF.n03 hW2.r0 hW2.r3).mono ?_
  rintro x w3 ⟨rfl, hw3⟩
  have hb3 : Below w2.heap.size w2 w3 := by rw [hw3]; exact bel_one _ _
  have e0 := cell_later hb3 d0
  have e1 := cell_later hb3 d1
  have hbw3 := bel_after hbw hb3
  have g4 := (hR.later hbw3).e0
  clear hw3 d0 d1 g3 hW2
  go_wp2_with (go_at_call 110; refine (is_same part a0 _).mono ?_; rintro x w4 ⟨rfl, rfl⟩)
  go_ret
  exact ⟨rfl, bel_after hbw3 (bel_one _ _)⟩

set_option maxRecDepth 100000 in
set_option maxHeartbeats 1000000 in
theorem code_1 (part : ByteArray) (a0 a1 a2 a3 : Addr) (w : World) (hd : Hd w) (hR : Errs a0 a1 a2 a3 w) (hF : Four a0 a1 a2 a3) (hW : Rws a0 a1 a2 a3 w) :
    Calls Tryz.prog 99 #[errV part a1] w fun e w' => e = .returned (.int .i64 4) ∧ Below w.heap.size w w' := by
  have A := as_found part a1 w hd
  unfold errV at A ⊢
  go_enter Tryz.func99, Tryz.ntmps99
  go_wp2_with fail
  refine A.mono ?_
  rintro x w1 ⟨rfl, c0, c1, hb1, hlt⟩
  have g := (hR.later hb1).e2
  have hW1 := hW.later hb1
  clear A
  go_wp2_with fail
  refine (is_no part a1 a2 _ hF.n12 hW1.r1 hW1.r2).mono ?_
  rintro x w2 ⟨rfl, hw2⟩
  have hb2 : Below w1.heap.size w1 w2 := by rw [hw2]; exact bel_one _ _
  have d0 := cell_later hb2 c0
  have d1 := cell_later hb2 c1
  have hbw := bel_after hb1 hb2
  have g3 := (hR.later hbw).e3
  have hW2 := hW.later hbw
  clear hw2 c0 c1 g hW1
  go_wp2_with fail
  refine (is_no part a1 a3 _ hF.n13 hW2.r1 hW2.r3).mono ?_
  rintro x w3 ⟨rfl, hw3⟩
  have hb3 : Below w2.heap.size w2 w3 := by rw [hw3]; exact bel_one _ _
  have e0 := cell_later hb3 d0
  have e1 := cell_later hb3 d1
  have hbw3 := bel_after hbw hb3
  have g4 := (hR.later hbw3).e0
  have hW3 := hW.later hbw3
  clear hw3 d0 d1 g3 hW2
  go_wp2_with (go_at_call 110; refine (is_no part a1 a0 _ hF.n01.symm hW3.r1 hW3.r0).mono ?_; rintro x w4 ⟨rfl, rfl⟩)
  go_ret
  exact ⟨rfl, bel_after hbw3 (bel_one _ _)⟩

end Go.Proofs.YtjclpbaiiklhcaaGreatDoor

/- OpenPage of the program. -/
namespace Go.Proofs.YtjclpbaiiklhcaaGreatDoor
open Go.RowKit

structure Ctx (a0 a1 a2 a3 : Addr) (w : World) : Prop where
  env : Env w
  errs : Errs a0 a1 a2 a3 w
  rws : Rws a0 a1 a2 a3 w
  hd : Hd w
  four : Four a0 a1 a2 a3
theorem Ctx.later {a0 a1 a2 a3 : Addr} {w w' : World} (h : Ctx a0 a1 a2 a3 w) (hb : Below w.heap.size w w') : Ctx a0 a1 a2 a3 w' :=
  ⟨h.env.later hb, h.errs.later hb, h.rws.later hb, cell_later hb h.hd, h.four⟩

set_option maxRecDepth 100000 in
set_option maxHeartbeats 1000000 in
theorem open_err (s : ByteArray) (a : Addr) (k : Int) (w : World) (hk : k ≠ 0)
    (A : Calls Tryz.prog 98 #[.string s] w fun x w' => (∃ part, x = .returned (.tuple #[pageV 0 0 0 ⟨#[]⟩, errV part a])) ∧ Below w.heap.size w w')
    (D : ∀ part w', Below w.heap.size w w' → Calls Tryz.prog 99 #[errV part a] w' fun e w'' => e = .returned (.int .i64 k) ∧ Below w'.heap.size w' w'') :
    Calls Tryz.prog 89 #[.string s] w fun x w' => x = .returned (openV (0, 0, ⟨#[]⟩, k)) ∧ Below w.heap.size w w' := by
  have hk' : (k != 0) = true := by simpa using hk
  unfold pageV errV at A
  unfold errV at D
  go_enter Tryz.func89, Tryz.ntmps89
  go_wp2_with fail
  refine A.mono ?_
  rintro x w1 ⟨⟨part, rfl⟩, hb1⟩
  have hb2 := bel_after hb1 (bel_one w1 (.cells #[.int .i64 0, .int .i64 0, .int .i64 0, .string ⟨#[]⟩] 104))
  have D1 := D part _ hb2
  go_wp2_with fail
  refine D1.mono ?_
  rintro x w3 ⟨rfl, hb3⟩
  go_wp2
  exact bodyPost_ret (v := openV (0, 0, ⟨#[]⟩, k)) (by simp [results, Tryz.results89, go_sem, openV]) rfl ⟨rfl, bel_after hb2 hb3⟩

set_option maxRecDepth 100000 in
set_option maxHeartbeats 3200000 in
theorem open_ok (s : ByteArray) (n e c : Int) (b : ByteArray) (w : World) (hb : b.size ≤ 1000000000000)
    (A : Calls Tryz.prog 98 #[.string s] w fun x w' => x = .returned (.tuple #[pageV n e c b, .nilIface]) ∧ Below w.heap.size w w') :
    Calls Tryz.prog 89 #[.string s] w fun x w' => x = .returned (openV (n, e, b, 0)) ∧ Below w.heap.size w w' := by
  unfold pageV at A
  go_enter Tryz.func89, Tryz.ntmps89
  go_wp2_with fail
  refine A.mono ?_
  rintro x w1 ⟨rfl, hb1⟩
  have hb2 := bel_after hb1 (bel_one w1 (.cells #[.int .i64 n, .int .i64 e, .int .i64 c, .string b] 104))
  go_wp2_with fail
  refine (code_nil _).mono ?_
  rintro x w3 ⟨rfl, hb3⟩
  have q0 : w3.cell? ⟨w1.heap.size, 0, none⟩ = some (.int .i64 n) := cell_later hb3 (by simp)
  have q1 : w3.cell? ⟨w1.heap.size, 1, none⟩ = some (.int .i64 e) := cell_later hb3 (by simp)
  have q2 : w3.cell? ⟨w1.heap.size, 2, none⟩ = some (.int .i64 c) := cell_later hb3 (by simp)
  have q3 : w3.cell? ⟨w1.heap.size, 3, none⟩ = some (.string b) := cell_later hb3 (by simp)
  have hbw := bel_after hb2 hb3
  clear A hb1 hb2 hb3
  go_wp2_with fail
  go_region_held3 (fun w' => Below w3.heap.size w3 w' ∧ w'.cell? ⟨w1.heap.size, 0, none⟩ = some (.int .i64 n) ∧ w'.cell? ⟨w1.heap.size, 1, none⟩ = some (.int .i64 e) ∧ w'.cell? ⟨w1.heap.size, 2, none⟩ = some (.int .i64 c) ∧ w'.cell? ⟨w1.heap.size, 3, none⟩ = some (.string b))
      (first | assumption | (refine ⟨(Below.refl _ _).drew, ?_, ?_, ?_, ?_⟩ <;> simp [q0, q1, q2, q3]) | (exact keep4 (by assumption) (by assumption)))
      (first
        | (go_at_call 58; refine (copyText_any _ _ (by omega)).mono ?_; rintro x w4 ⟨rfl, hb4⟩))
  all_goals
    go_wp2
    exact bodyPost_ret (v := openV (n, e, b, 0)) (by simp [results, Tryz.results89, go_sem, openV]) rfl ⟨rfl, bel_after hbw (And.left (by assumption))⟩

theorem implOpen_any (s : ByteArray) (a0 a1 a2 a3 : Addr) (w : World) (hs : s.size < 4294967281) (hC : Ctx a0 a1 a2 a3 w) :
    Calls Tryz.prog 89 #[.string s] w fun x w' => x = .returned (openV (openR s)) ∧ Below w.heap.size w w' := by
  have R := readPage_any s a0 a1 a2 a3 w hs hC.env hC.errs
  unfold readV at R
  by_cases h0 : s = ⟨#[]⟩
  · have e0 : openR s = (0, 0, ⟨#[]⟩, 1) := by unfold openR; rw [if_pos h0]
    rw [e0]
    simp only [if_pos h0] at R
    exact open_err s a2 1 w (by decide) R fun part w' hb => code_2 part a0 a1 a2 a3 w' (hC.later hb).hd (hC.later hb).errs
  simp only [if_neg h0] at R
  cases hf : formN s.data.toList with
  | none =>
    rw [hf] at R
    rw [openR_form h0 hf]
    exact open_err s a3 2 w (by decide) R fun part w' hb => code_3 part a0 a1 a2 a3 w' (hC.later hb).hd (hC.later hb).errs hC.four (hC.later hb).rws
  | some x =>
    obtain ⟨n, e, c, b⟩ := x
    rw [hf] at R
    simp only at R
    obtain ⟨_, _, _, _, k4⟩ := form_range hf
    have k5 : s.data.toList.length = s.size := Array.length_toList
    cases hp : pgOk n e (bytesOf b)
    · rw [openR_range h0 hf hp]
      simp only [formV_range hp] at R
      exact open_err s a0 3 w (by decide) R fun part w' hb => code_0 part a0 a1 a2 a3 w' (hC.later hb).hd (hC.later hb).errs hC.four (hC.later hb).rws
    · by_cases hc : crcS (headS n e ++ bytesOf b) = c
      · rw [openR_is h0 hf hp hc]
        simp only [formV_is hp hc] at R
        exact open_ok s n e c (bytesOf b) w (by rw [bytesOf_size]; omega) (R.mono fun x w' ⟨⟨_, he⟩, hb⟩ => ⟨he, hb⟩)
      · rw [openR_sum h0 hf hp hc]
        simp only [formV_sum hp hc] at R
        exact open_err s a1 4 w (by decide) R fun part w' hb => code_1 part a0 a1 a2 a3 w' (hC.later hb).hd (hC.later hb).errs hC.four (hC.later hb).rws

end Go.Proofs.YtjclpbaiiklhcaaGreatDoor

/- superBodies of the program. -/
namespace Go.Proofs.YtjclpbaiiklhcaaGreatDoor
open Go.RowKit

def bodiesK (ss : List ByteArray) (l : List Int) (k : Nat) : List ByteArray := (List.range k).map fun i => (pageAt ss l i).2.2.1
theorem bodiesK_succ (ss : List ByteArray) (l : List Int) (k : Nat) : bodiesK ss l (k + 1) = bodiesK ss l k ++ [(pageAt ss l k).2.2.1] := by
  unfold bodiesK
  rw [List.range_succ, List.map_append]
  rfl
theorem bodiesK_length (ss : List ByteArray) (l : List Int) (k : Nat) : (bodiesK ss l k).length = k := by simp [bodiesK]
/-- What superBodies answers. -/
def BodOut (ss : List ByteArray) (e : Int) (l : List Int) (B : Nat) (x : Ending) (w' : World) : Prop :=
  if soundB ss e l l.length = true then ∃ v, x = .returned (.tuple #[v, .bool true]) ∧ w'.ownsRow B 9 1 v l.length (tcells (bodiesK ss l l.length)) else x = .returned (.tuple #[.slice none 0 0, .bool false])
theorem bodOut_no {ss : List ByteArray} {e : Int} {l : List Int} {B : Nat} {w' : World} (h : soundB ss e l l.length = false) : BodOut ss e l B (.returned (.tuple #[.slice none 0 0, .bool false])) w' := by unfold BodOut; rw [if_neg (by rw [h]; simp)]
theorem bodOut_yes {ss : List ByteArray} {e : Int} {l : List Int} {B : Nat} {w' : World} {v : Value} (h : soundB ss e l l.length = true) (ho : w'.ownsRow B 9 1 v l.length (tcells (bodiesK ss l l.length))) : BodOut ss e l B (.returned (.tuple #[v, .bool true])) w' := by unfold BodOut; rw [if_pos h]; exact ⟨v, rfl, ho⟩

set_option maxRecDepth 100000 in
set_option maxHeartbeats 6400000 in
theorem superBodies_any (v1 v2 v : Value) (ss : List ByteArray) (e : Int) (l : List Int) (a0 a1 a2 a3 : Addr) (w : World) (hv : Ss w v1 ss) (hir : IR w v l) (hl : l.length ≤ 30) (OM : ∀ i, i < l.length → 2 ≤ l.getD i 0 ∧ l.getD i 0 ≤ 63) (hC : Ctx a0 a1 a2 a3 w) :
    Calls Tryz.prog 63 #[.agg #[v1, v2], .agg #[.int .i64 e, v, .slice none 0 0]] w fun x w' => BodOut ss e l w.heap.size x w' ∧ Below w.heap.size w w' := by
  have hb0 := bel_after (bel_one w (.cells #[v1, v2] 27)) (bel_one _ (.cells #[.int .i64 e, v, .slice none 0 0] 58))
  have hv0 := hv.later hb0
  obtain ⟨ao, cap, rfl, hcap, hir⟩ := hir.later hb0
  obtain ⟨⟨so, scp, hsv, hsr⟩, hlen, hfit⟩ := hv0
  rw [hlen] at hsv hsr
  subst hsv
  generalize hW0 : (w.alloc (.cells #[.slice so 64 scp, v2] 27)).alloc (.cells #[.int .i64 e, .slice ao l.length cap, .slice none 0 0] 58) = W0 at *
  have hsz0 : W0.heap.size = w.heap.size + 1 + 1 := by rw [← hW0]; simp
  have p0 : W0.cell? ⟨w.heap.size, 0, none⟩ = some (.slice so 64 scp) := by rw [← hW0]; exact cell_later (bel_one _ _) (by simp)
  have p1 : W0.cell? ⟨w.heap.size + 1, 0, none⟩ = some (.int .i64 e) := by rw [← hW0, World.cell?_alloc_at _ _ _ _ (by simp)]; rfl
  have p2 : W0.cell? ⟨w.heap.size + 1, 1, none⟩ = some (.slice ao l.length cap) := by rw [← hW0, World.cell?_alloc_at _ _ _ _ (by simp)]; rfl
  have HW0 : Hid ((w.alloc (.cells #[.slice so 64 scp, v2] 27)).alloc (.cells #[.int .i64 e, .slice ao l.length cap, .slice none 0 0] 58) = W0) := hW0
  clear hv hlen hW0
  go_enter Tryz.func63, Tryz.ntmps63
  go_wp2
  rw [HW0.out]
  clear HW0
  go_loopw [6, 16] (fun bv iv wr => ∃ (k : Nat) (v0 : Value), k ≤ l.length ∧ iv = .int .i64 k ∧ v0 = bv ∧ wr.ownsRow W0.heap.size 9 1 v0 k (tcells (bodiesK ss l k)) ∧ Hid (soundB ss e l k = true) ∧ Below W0.heap.size W0 wr) (fun _ iv _ => l.length - (intOf iv).toNat)
  case atStart => exact ⟨0, _, Nat.zero_le _, rfl, rfl, World.ownsRow_nil _ _ _ _, (by rfl : soundB ss e l 0 = true), Below.refl _ _⟩
  case round =>
    obtain ⟨k, bv, hk, rfl, rfl, hown, hsd, hb⟩ := hrel
    by_cases hlt : k < l.length
    · obtain ⟨b, o, rfl, hc0⟩ := hir k hlt
      obtain ⟨y0, y1⟩ := OM k hlt
      obtain ⟨n, hn⟩ := Int.eq_ofNat_of_zero_le (a := l.getD k 0) (by omega)
      obtain ⟨b2, o2, rfl, hc1⟩ := hsr n (by omega)
      have hfn := hfit n (by omega)
      have HR : Hid (pageAt ss l k = openR (textAt ss n)) := (by unfold pageAt textAt; rw [hn, Int.toNat_natCast] : pageAt ss l k = openR (textAt ss n))
      rw [hn] at hc0 y0 y1
      have d0 := cell_later hb p0
      have d1 := cell_later hb hc0
      have d2 := cell_later hb hc1
      have d3 := cell_later hb p1
      change wr.cell? _ = some (.string (textAt ss n)) at d2
      have OP := implOpen_any (textAt ss n) a0 a1 a2 a3 wr (by omega) (hC.later (bel_after hb0 hb))
      have BS := bodiesK_succ ss l k
      rw [HR.out] at BS
      generalize textAt ss n = tx at *
      generalize openR tx = r at *
      obtain ⟨r1, r2, r3, r4⟩ := r
      unfold openV at OP
      simp only at OP BS
      have HB : Hid (tcells (bodiesK ss l (k + 1)) = tcells (bodiesK ss l k) ++ [.string r3]) := (by rw [BS]; simp [tcells] : tcells (bodiesK ss l (k + 1)) = tcells (bodiesK ss l k) ++ [.string r3])
      have NG : Hid (soundAt ss e l k = false → soundB ss e l l.length = false) := fun h => soundB_false h hlt
      have SA : Hid (soundAt ss e l k = (decide (r4 = 0) && decide (r1 = k) && decide (r2 ≤ e))) := (by unfold soundAt; rw [HR.out] : soundAt ss e l k = (decide (r4 = 0) && decide (r1 = k) && decide (r2 ≤ e)))
      have SS : Hid (soundAt ss e l k = true → soundB ss e l (k + 1) = true) := fun h => by rw [soundB_succ, hsd.out, h]; rfl
      have hn64 : (n : Int) < 64 := by omega
      have hn0 : (0 : Int) ≤ (n : Int) := by omega
      clear hc0 hc1 hn HR hsd hir hsr OM BS p0 p1 p2 hC
      go_wp2_with fail
      refine OP.mono ?_
      rintro x w3 ⟨rfl, hb3⟩
      have e3 := cell_later hb3 d3
      have hb2 := bel_after hb hb3
      have hown3 := own_later hown hb3
      clear OP d0 d1 d2 d3 hown hb hb3
      by_cases h4 : r4 = 0
      · by_cases h1 : r1 = k
        · by_cases h2 : r2 ≤ e
          · have GS : Hid (soundB ss e l (k + 1) = true) := SS.out (by rw [SA.out]; simp [h4, h1, h2])
            subst h4
            subst h1
            clear SS SA NG
            have hc : ∀ W : World, (W.alloc (.cells #[.string r3] 9)).cell? ⟨W.heap.size, 0, none⟩ = some (.string r3) := fun W => by simp
            have hown4 := own_later hown3 (bel_one w3 (.cells #[.string r3] 9))
            have hb4 := bel_after hb2 (bel_one w3 (.cells #[.string r3] 9))
            go_wp2_with (at_builtin; refine app_text _ rfl _ _ rfl W0.heap.size _ k _ rfl hown4 _ 1 r3 rfl (hc _) (by omega) hb4.size ?_; intro v5 w5 hown5 hg5; have hb5 := own_grown hb4 hown4 hg5 hb4.size)
            exact ⟨⟨k + 1, _, by omega, by go_num, rfl, by rw [HB.out]; exact hown5, GS, hb5⟩, by simp [intOf]; omega⟩
          · have h2' : e < r2 := by omega
            subst h4
            subst h1
            clear SS
            go_wp2
            exact bodyPost_ret (v := .tuple #[.slice none 0 0, .bool false]) (by simp [results, Tryz.results63, go_sem]) rfl ⟨bodOut_no (NG.out (by rw [SA.out]; simp [h2])), bel_after hb0 hb2⟩
        · have h1' : (r1 != (k : Int)) = true := by simpa using h1
          subst h4
          clear SS
          go_wp2
          exact bodyPost_ret (v := .tuple #[.slice none 0 0, .bool false]) (by simp [results, Tryz.results63, go_sem]) rfl ⟨bodOut_no (NG.out (by rw [SA.out]; simp [h1])), bel_after hb0 hb2⟩
      · have h4' : (r4 != 0) = true := by simpa using h4
        clear SS
        go_wp2
        exact bodyPost_ret (v := .tuple #[.slice none 0 0, .bool false]) (by simp [results, Tryz.results63, go_sem]) rfl ⟨bodOut_no (NG.out (by rw [SA.out]; simp [h4])), bel_after hb0 hb2⟩
    · obtain rfl : k = l.length := by omega
      go_wp2
      exact bodyPost_ret (v := .tuple #[bv, .bool true]) (by simp [results, Tryz.results63, go_sem]) rfl ⟨bodOut_yes hsd.out (own_mono hown (by omega)), bel_after hb0 hb⟩

end Go.Proofs.YtjclpbaiiklhcaaGreatDoor
