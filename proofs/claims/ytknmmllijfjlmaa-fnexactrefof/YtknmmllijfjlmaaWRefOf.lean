/- The law on RefOf holds: for every 64-bit integer the call returns true and the argument reads as before. There are no conditions. -/
import Derived.Test.YtknmmllijfjlmaaWords
import Derived.ProofKit
import Derived.OpenShut
namespace Go.Proofs.Ytknmmllijfjlmaa.RefOf
open Go.ChangeShapes Go.WideShapes Go.ChangeAt Go.RowKit

theorem own : ownKnob Try.prog.godebug = none := by kernel_rfl

theorem law_any (x : Int) (w : World) (hx : In64 x) :
    Calls Try.prog 8 #[.int .i64 x] w fun e w' => e = .returned (.bool true) ∧ w' = w := by
  have S := fun w => specRefOf_any x w hx
  have I := fun w => implRefOf_any x w
  generalize valK 2 x = a0 at S I
  generalize isK 2 x = a1 at S I
  clear hx
  go_enter Try.func8, Try.ntmps8
  go_wp2_with fail
  refine (S _).mono ?_
  rintro e w1 ⟨rfl, rfl⟩
  go_wp2_with fail
  refine (I _).mono ?_
  rintro e w1 ⟨rfl, rfl⟩
  clear S I
  go_wp2
  go_ret
  exact ⟨rfl, rfl⟩

set_option maxRecDepth 100000 in
theorem lifted (os : Os) (started : os.Started) (H : Type) (enc : TypeId × Value → H) :
    ReturnsInHanded {} Try.checked os 8 .any (Rows.fnExactRefOfSpec.pre6 enc Try.prog Try.f8 Rows.fnExactRefOfRow.domain false) (Rows.fnExactRefOfSpec.post enc Try.prog Try.f8 false true false false) := by
  refine returnsInHanded_of_change (C := Try.checked) own started (by kernel_rfl) Try.func8
    (ChangeSpec.witness6 (enc := enc) (C := Try.checked) false ⟨#[], #[.int .i64 0], []⟩ 8 (by kernel_rfl) (by kernel_rfl) (by kernel_rfl) (by kernel_rfl)) ?_
  intro W base args ds gs before hval0 hW _ _
  have hval : ∀ (j : Nat) t v, Try.f8.params[j]? = some t → args[j]? = some v → Value.okWide Try.prog W .any base t v := hval0
  have hW' := hW
  obtain ⟨p, q, hA0, hV, rfl, hfz, hnd⟩ := hW
  have hA : DataW.TrodAll enc Try.prog W 0 (fun _ => true) true Try.f8.params.toList args.toList ds p := hA0
  rw [Try.params8] at hA hval
  obtain ⟨v0, d0, rfl, rfl, h0⟩ := trodAll_one hA
  obtain ⟨rfl, rfl⟩ := trodVars_none hV
  obtain ⟨a0, rfl, rfl, rfl, w0⟩ := open_int Try.underlying2 (hval 0 2 v0 rfl rfl) h0
  have hx : In64 a0 := bounds_i64 w0
  clear hA0 hval0
  simp only [List.append_nil] at hW'
  refine (law_any a0 W hx).mono fun e W' ⟨he, hw⟩ => ?_
  subst he
  subst hw
  exact ⟨_, rfl, post_of_same (pa := []) (pv := []) hW' (fun _ _ _ => (trodAll_mk1 (shut_bool Try.underlying4 _))) (fun sp _ => (trodAll_mk1 (shut_int Try.underlying2 w0))) (fun _ _ => rfl) rfl
    (World.keptBut_refl _ _) (fun _ => rfl) (ok_one (by kernel_rfl) rfl (okWide_bool_mk Try.underlying4 _))⟩

end Go.Proofs.Ytknmmllijfjlmaa.RefOf
namespace Go.Proofs.Ytknmmllijfjlmaa
/-- The statement. -/
theorem fnExactRefOf_holds : Rows.FnExactRefOfSaid :=
  OpenClaim.holds_of_wide 8 Try.f8 rfl rfl rfl rfl rfl rfl rfl ⟨rfl, rfl, rfl, rfl, rfl⟩ rfl rfl rfl rfl rfl (by kernel_rfl) Try.func8 (by kernel_rfl)
    (of_decide_eq_true (by kernel_rfl)) (by unfold Func.isWrapper; first | (rw [if_pos (by decide +kernel)]; kernel_rfl) | (rw [if_neg (by decide +kernel)]; exact ⟨rfl, rfl⟩))
    (fun os started H enc _ => RefOf.lifted os started H enc)

#print axioms fnExactRefOf_holds
end Go.Proofs.Ytknmmllijfjlmaa
