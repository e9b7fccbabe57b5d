/- The law on ShowCode holds: for every Code the call returns true and the argument reads as before; what is listed of the package-level variables is tied to the program's text. There are no other conditions. -/
import Derived.Test.YtlmdogkecomplaaDoorZQOpen
namespace Go.Proofs.YtlmdogkecomplaaDoor
open Go.ChangeShapes Go.WideShapes Go.ChangeAt Go.RowKit Go.Joins

theorem lawShow_any (op n : Int) (w : World) (ht : Tb w) :
    Calls Tryd.prog 3 #[codeV op n] w fun e w' => e = .returned (.bool true) ∧ Below w.heap.size w w' := by
  have S := fun w => specShow_any op n w
  have I := fun w h => implShow_any op n w h
  have TC := fun w => toCode_any op n w
  have HT : Hid (Tb w) := ht
  clear ht
  unfold codeV at *
  generalize showB op n = a0 at S I
  go_enter Tryd.func3, Tryd.ntmps3
  have k0 := Bk.new w #[.int .i64 op, .int .i64 n] 23
  have B0 := qbel w (.cells #[.int .i64 op, .int .i64 n] 23)
  go_wp2_with fail
  refine (TC _).mono ?_
  rintro e w1 ⟨rfl, hb1⟩
  replace k0 := k0.later hb1
  replace B0 := bel_afterQ B0 hb1
  clear hb1
  go_wp2_with fail
  refine (S _).mono ?_
  rintro e w2 ⟨rfl, hb2⟩
  replace k0 := k0.later hb2
  replace B0 := bel_afterQ B0 hb2
  clear hb2
  have c0 : w2.cell? ⟨w.heap.size, 0, none⟩ = some (.int .i64 op) := k0.cell 0 _ rfl
  have c1 : w2.cell? ⟨w.heap.size, 1, none⟩ = some (.int .i64 n) := k0.cell 1 _ rfl
  go_wp2_with fail
  refine (TC _).mono ?_
  rintro e w3 ⟨rfl, hb3⟩
  replace B0 := bel_afterQ B0 hb3
  clear hb3
  go_wp2_with fail
  refine (I _ (HT.out.later B0)).mono ?_
  rintro e w4 ⟨rfl, hb4⟩
  replace B0 := bel_afterQ B0 hb4
  clear S I TC hb4 k0 c0 c1 HT
  go_wp2
  go_ret
  exact ⟨rfl, B0⟩

/-- The door's own heap meets the condition. -/
theorem show_met (os : Os) (args : Array Value) : laidMetH Tryd.prog Rows.fnExactShowCodeRow.laid ((World.doorLaid Tryd.prog 400 os).forCall (fun _ _ => 0) ⟨#[], args, []⟩).memory :=
  laidMetH_of_parts3 (fuel := 8) (laidMet_of_run' 8 (by kernel_rfl) (by kernel_rfl)) (by kernel_rfl) (by kernel_rfl)

set_option maxRecDepth 100000 in
theorem show_lifted (os : Os) (started : os.Started) (H : Type) (enc : TypeId × Value → H) :
    ReturnsInHanded {} Tryd.checked os 3 .any (fun w args => (Rows.fnExactShowCodeSpec.pre enc Tryd.prog Tryd.f3 [] false w args ∧ laidMetH Tryd.prog Rows.fnExactShowCodeRow.laid w) ∧ sizedMet enc Tryd.prog Tryd.f3 (OpenSpec.ofChange Rows.fnExactShowCodeSpec) false w args)
      (Rows.fnExactShowCodeSpec.post enc Tryd.prog Tryd.f3 false true false false) := by
  refine handed_both (C := Tryd.checked) (X := fun w _ => laidMetH Tryd.prog Rows.fnExactShowCodeRow.laid w) (fun _ _ _ hh h => h.of_heap hh) ownQ started (by kernel_rfl) Tryd.func3
    (ChangeSpec.witness_shaped (enc := enc) (C := Tryd.checked) (os := os) (X := fun w _ => laidMetH Tryd.prog Rows.fnExactShowCodeRow.laid w) false (World.doorLaid Tryd.prog 400 os) #[.agg #[.int .i64 0, .int .i64 0]] 8 rfl (World.shaped_of_RefB (by kernel_rfl) (by kernel_rfl)) (by kernel_rfl) (by kernel_rfl) (by kernel_rfl) (show_met os _)) ?_
  intro W base args ds gs before hval0 hW _ hsz0 hL hsh _
  have hval : ∀ (j : Nat) t v, Tryd.f3.params[j]? = some t → args[j]? = some v → Value.okWide Tryd.prog W .any base t v := hval0
  have hW' := hW
  obtain ⟨p, q, hA0, hV, rfl, hfz, hnd⟩ := hW
  have hA : DataW.TrodAll enc Tryd.prog W 0 (fun _ => true) true Tryd.f3.params.toList args.toList ds p := hA0
  rw [Tryd.params3] at hA hval
  obtain ⟨v0, d0, rfl, rfl, h0⟩ := trodAll_one hA
  obtain ⟨rfl, rfl⟩ := trodVars_none hV
  have k0 := h0
  have lt0 : ∀ x ∈ p, x.block < W.heap.size := by obtain ⟨m, hm⟩ := k0; exact DataW.trod_lt m _ _ _ hm
  obtain ⟨op, n, rfl, rfl, _, _⟩ := open_code (hval 0 23 v0 rfl rfl) h0
  rw [MakeChecks.laidMetH_plain _ _ _ (by kernel_rfl)] at hL
  have hT : Tb W := tb_of_met (r := []) (laidMet.tail (laidMet.tail hL))
  clear hA0 hval0 hsz0
  refine (lawShow_any op n W hT).mono fun e W' ⟨he, bel⟩ => ?_
  subst he
  exact ⟨_, rfl, _, _, _, [], _, [], hW', trodAll_mk1 (shut_bool Tryd.underlying4 _), trodAll_mk1 (Below.trod laidOutQ (by kernel_rfl) (of_decide_eq_true (by kernel_rfl)) k0 bel lt0), rfl, bel.frame _, fun h => by cases h⟩

theorem show_said : Rows.FnExactShowCodeSaid :=
  OpenClaim.holds_of_wide 3 Tryd.f3 rfl rfl rfl rfl rfl rfl rfl ⟨rfl, rfl, rfl, rfl, rfl⟩ rfl rfl rfl rfl rfl (by kernel_rfl) Tryd.func3 (by kernel_rfl)
    (of_decide_eq_true (by kernel_rfl)) (by unfold Func.isWrapper; first | (rw [if_pos (by decide +kernel)]; kernel_rfl) | (rw [if_neg (by decide +kernel)]; exact ⟨rfl, rfl⟩))
    (fun os started H enc _ => show_lifted os started H enc)

/-- The statement. -/
theorem show_holds : Rows.FnExactShowCodeCardSaid :=
  Claim7.holds_tied_plain_at .later [] [.data, .data, .data] true Rows.fnExactShowCodeCard.stood.harness true
    show_said (fun _ h => by cases h) (by kernel_rfl) (fun _ h => by cases h) fnExactShowCode_row_tie rfl ⟨rfl, rfl⟩ (by kernel_rfl) rfl
    (fun f fn hf hfn => by
      obtain rfl : f = 3 := Option.some.inj ((show Tryd.prog.funcNamed Rows.fnExactShowCodeRow.func = some 3 by kernel_rfl).symm.trans hf) |>.symm
      obtain rfl : fn = Tryd.f3 := (Option.some.inj (Tryd.func3.symm.trans hfn)).symm
      exact ⟨by kernel_rfl, fun j t ht => by
        rw [Tryd.params3] at ht
        have h3 : t = 23 := by
          rcases j with _ | j
          · simpa using ht.symm
          · simp at ht
        subst h3
        exact (show Tryd.prog.wantsStandIn 23 = false by kernel_rfl)⟩)
    (by kernel_rfl)

#print axioms show_holds
end Go.Proofs.YtlmdogkecomplaaDoor
