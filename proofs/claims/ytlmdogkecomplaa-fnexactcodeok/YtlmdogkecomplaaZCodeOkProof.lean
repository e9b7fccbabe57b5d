/- The law on CodeOk holds: for every Code the call returns true and the argument reads as before. There are no conditions. -/
import Derived.Test.YtlmdogkecomplaaZQOk
import Derived.ProofKit
import Derived.OpenShut
import Derived.Lib.SmallJoins
namespace Go.Proofs.Ytlmdogkecomplaa
open Go.ChangeShapes Go.WideShapes Go.ChangeAt Go.RowKit Go.Joins

theorem laidOutQ : laidOutB Try.prog = true := by kernel_rfl
theorem ownQ : ownKnob Try.prog.godebug = none := by kernel_rfl

theorem lawCodeOk_any (op n : Int) (w : World) :
    Calls Try.prog 3 #[codeV op n] w fun e w' => e = .returned (.bool true) ∧ Below w.heap.size w w' := by
  have S := fun w => specCodeOk_any op n w
  have I := fun w => implCodeOk_any op n w
  have TC := fun w => toCode_any op n w
  unfold codeV at *
  generalize cokB op n = a0 at S I
  go_enter Try.func3, Try.ntmps3
  have k0 := Bk.new w #[.int .i64 op, .int .i64 n] 23
  have B0 := qbel w (.cells #[.int .i64 op, .int .i64 n] 23)
  go_wp2_with fail
  refine (TC _).mono ?_
  rintro e w1 ⟨rfl, hb1⟩
  replace k0 := k0.later hb1
  replace B0 := bel_afterQ B0 hb1
  clear hb1
  go_wp2_with fail
  refine (S _).mono ?_
  rintro e w2 ⟨rfl, hb2⟩
  replace k0 := k0.later hb2
  replace B0 := bel_afterQ B0 hb2
  clear hb2
  have c0 : w2.cell? ⟨w.heap.size, 0, none⟩ = some (.int .i64 op) := k0.cell 0 _ rfl
  have c1 : w2.cell? ⟨w.heap.size, 1, none⟩ = some (.int .i64 n) := k0.cell 1 _ rfl
  go_wp2_with fail
  refine (TC _).mono ?_
  rintro e w3 ⟨rfl, hb3⟩
  replace B0 := bel_afterQ B0 hb3
  clear hb3
  go_wp2_with fail
  refine (I _).mono ?_
  rintro e w4 ⟨rfl, hb4⟩
  replace B0 := bel_afterQ B0 hb4
  clear S I TC hb4 k0 c0 c1
  go_wp2
  go_ret
  exact ⟨rfl, B0⟩

/-- A Code that came in. -/
theorem open_code {H : Type} {enc : TypeId × Value → H} {W : World} {base b0 : Nat} {sp : Nat → Bool} {held : Bool} {r : Reach} {v : Value} {d : DataW H} {p : List MemPlace} (hv : Value.okWide Try.prog W r b0 23 v) (h : DataW.Trod enc Try.prog W base sp held 23 v d p) :
    ∃ op n, v = codeV op n ∧ p = [] ∧ (Lit.int .i64 op).wf = true ∧ (Lit.int .i64 n).wf = true := by
  obtain ⟨c0, c1, y0, y1, m, rfl, rfl, rfl, h0, h1⟩ := open_agg2 Try.underlying23 (by kernel_rfl) (by kernel_rfl) hv h
  obtain ⟨a, e0, x0, q0⟩ := DataW.trod_int Try.underlying2 h0
  obtain ⟨b, e1, x1, q1⟩ := DataW.trod_int Try.underlying2 h1
  cases e0
  cases e1
  exact ⟨a, b, rfl, by rw [x0, x1]; rfl, q0, q1⟩

set_option maxRecDepth 100000 in
theorem codeok_lifted (os : Os) (started : os.Started) (H : Type) (enc : TypeId × Value → H) :
    ReturnsInHanded {} Try.checked os 3 .any (Rows.fnExactCodeOkSpec.pre6 enc Try.prog Try.f3 Rows.fnExactCodeOkRow.domain false) (Rows.fnExactCodeOkSpec.post enc Try.prog Try.f3 false true false false) := by
  refine returnsInHanded_of_change (C := Try.checked) ownQ started (by kernel_rfl) Try.func3
    (ChangeSpec.witness6 (enc := enc) (C := Try.checked) false ⟨#[], #[.agg #[.int .i64 0, .int .i64 0]], []⟩ 8 (by kernel_rfl) (by kernel_rfl) (by kernel_rfl) (by kernel_rfl)) ?_
  intro W base args ds gs before hval0 hW _ _
  have hval : ∀ (j : Nat) t v, Try.f3.params[j]? = some t → args[j]? = some v → Value.okWide Try.prog W .any base t v := hval0
  have hW' := hW
  obtain ⟨p, q, hA0, hV, rfl, hfz, hnd⟩ := hW
  have hA : DataW.TrodAll enc Try.prog W 0 (fun _ => true) true Try.f3.params.toList args.toList ds p := hA0
  rw [Try.params3] at hA hval
  obtain ⟨v0, d0, rfl, rfl, h0⟩ := trodAll_one hA
  obtain ⟨rfl, rfl⟩ := trodVars_none hV
  have k0 := h0
  have lt0 : ∀ x ∈ p, x.block < W.heap.size := by obtain ⟨m, hm⟩ := k0; exact DataW.trod_lt m _ _ _ hm
  obtain ⟨op, n, rfl, rfl, _, _⟩ := open_code (hval 0 23 v0 rfl rfl) h0
  clear hA0 hval0
  refine (lawCodeOk_any op n W).mono fun e W' ⟨he, bel⟩ => ?_
  subst he
  exact ⟨_, rfl, _, _, _, [], _, [], hW', trodAll_mk1 (shut_bool Try.underlying4 _), trodAll_mk1 (Below.trod laidOutQ (by kernel_rfl) (of_decide_eq_true (by kernel_rfl)) k0 bel lt0), rfl, bel.frame _, fun h => by cases h⟩

end Go.Proofs.Ytlmdogkecomplaa
namespace Go.Proofs.Ytlmdogkecomplaa
/-- The statement. -/
theorem codeok_holds : Rows.FnExactCodeOkSaid :=
  OpenClaim.holds_of_wide 3 Try.f3 rfl rfl rfl rfl rfl rfl rfl ⟨rfl, rfl, rfl, rfl, rfl⟩ rfl rfl rfl rfl rfl (by kernel_rfl) Try.func3 (by kernel_rfl)
    (of_decide_eq_true (by kernel_rfl)) (by unfold Func.isWrapper; first | (rw [if_pos (by decide +kernel)]; kernel_rfl) | (rw [if_neg (by decide +kernel)]; exact ⟨rfl, rfl⟩))
    (fun os started H enc _ => codeok_lifted os started H enc)

#print axioms codeok_holds
end Go.Proofs.Ytlmdogkecomplaa
