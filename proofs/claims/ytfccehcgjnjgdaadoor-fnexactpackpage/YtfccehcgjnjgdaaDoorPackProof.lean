/- The law on PackPage holds: for every number, epoch and body the call returns true and the arguments and the named variable read as before; what is listed of the package-level variables is tied to the program's text. There are no other conditions. -/
import Derived.Test.YtfccehcgjnjgdaaDoorLawPack
import Derived.Test.YtfccehcgjnjgdaaDoorLaid
import Derived.Test.YtfccehcgjnjgdaaDoorCards
import Derived.Test.YtfccehcgjnjgdaaDoorTie
import Derived.SevenTiedAt
import Derived.ChangeMaps5
namespace Go.Proofs.YtfccehcgjnjgdaaDoor
open Go.ChangeShapes Go.WideShapes Go.ChangeAt Go.RowKit

def rangeName : String := (Rows.fnExactPackPageRow.laid.map (·.1)).getD 3 ""
theorem gRange : Tryd.prog.globalNamed rangeName = some 0 := by kernel_rfl
theorem tRange : (Tryd.prog.globals[0]?).map (·.type) = some 39 := by kernel_rfl

/-- The door's own heap meets the condition. -/
theorem door_met (os : Os) (args : Array Value) : laidMetH Tryd.prog Rows.fnExactPackPageRow.laid ((World.doorLaid Tryd.prog 400 os).forCall (fun _ _ => 0) ⟨#[], args, []⟩).memory :=
  laidMetH_of_parts3 (fuel := 8) (laidMet_of_run' 8 (by kernel_rfl) (by kernel_rfl)) (by kernel_rfl) (by kernel_rfl)

set_option maxRecDepth 100000 in
theorem pack_lifted (os : Os) (started : os.Started) (H : Type) (enc : TypeId × Value → H) :
    ReturnsInHanded {} Tryd.checked os 3 .any (fun w args => (Rows.fnExactPackPageSpec.pre enc Tryd.prog Tryd.f3 [] false w args ∧ laidMetH Tryd.prog Rows.fnExactPackPageRow.laid w) ∧ sizedMet enc Tryd.prog Tryd.f3 (OpenSpec.ofChange Rows.fnExactPackPageSpec) false w args)
      (Rows.fnExactPackPageSpec.post enc Tryd.prog Tryd.f3 false true false false) := by
  refine returnsInHanded_of_change_and (C := Tryd.checked) (X := fun w _ => laidMetH Tryd.prog Rows.fnExactPackPageRow.laid w) (fun _ _ _ hh h => h.of_heap hh) own started (by kernel_rfl) Tryd.func3
    (ChangeSpec.witness_shaped (enc := enc) (C := Tryd.checked) (os := os) (X := fun w _ => laidMetH Tryd.prog Rows.fnExactPackPageRow.laid w) false (World.doorLaid Tryd.prog 400 os) #[.int .i64 0, .int .i64 0, .string ⟨#[]⟩] 8 rfl (World.shaped_of_RefB (by kernel_rfl) (by kernel_rfl)) (by kernel_rfl) (by kernel_rfl) (by kernel_rfl) (door_met os _)) ?_
  intro W base args ds gs before hval0 hW _ _ hL _
  have hval : ∀ (j : Nat) t v, Tryd.f3.params[j]? = some t → args[j]? = some v → Value.okWide Tryd.prog W .any base t v := hval0
  have hW' := hW
  obtain ⟨p, q, hA0, hV0, rfl, hfz, hnd⟩ := hW
  have hA : DataW.TrodAll enc Tryd.prog W 0 (fun _ => true) true Tryd.f3.params.toList args.toList ds p := hA0
  have hV : DataW.TrodVars enc Tryd.prog W (fun _ => true) [rangeName] gs q := hV0
  rw [Tryd.params3] at hA hval
  obtain ⟨v0, v1, v2, d0, d1, d2, p0, p1, p2, rfl, rfl, rfl, h0, h1, h2⟩ := trodAll_three hA
  obtain ⟨n, rfl, rfl, rfl, wn⟩ := open_int Tryd.underlying2 (hval 0 2 v0 rfl rfl) h0
  obtain ⟨e, rfl, rfl, rfl, we⟩ := open_int Tryd.underlying2 (hval 1 2 v1 rfl rfl) h1
  obtain ⟨t, rfl, rfl, rfl, wt⟩ := ChangeMaps.open_string Tryd.underlying9 (hval 2 9 v2 rfl rfl) h2
  rw [MakeChecks.laidMetH_plain _ _ _ (by kernel_rfl)] at hL
  have hT : Tb W := tb_of_met (r := [(rangeName, Rows.laid_loop_example_g00140_impl_errPageRange)]) (laidMet.tail (laidMet.tail hL))
  obtain ⟨a0, s0, hv0, hc0, hs0, hz0⟩ := laid_sentinel (n := rangeName) (laidMet.tail (laidMet.tail (laidMet.tail hL))) gRange tRange Tryd.underlying39 row138 Tryd.underlying138 Tryd.underlying140 rfl rfl Tryd.underlying9 Tryd.cells140 Tryd.cells9
  obtain ⟨rfl, rfl⟩ := hV.unique (vars_read1 enc gRange tRange Tryd.underlying39 hv0 trivial _)
  clear hA0 hV0 hval0
  have hg0 : W.cell? ⟨0, 0, none⟩ = some (.iface 138 (.pointer (some a0))) := by simpa using World.var?_cell gRange hv0 0
  refine (lawPack_any n e t 138 a0 W hg0 hT).mono fun x W' ⟨he, bel⟩ => ?_
  subst he
  have hv1 : W'.var? Tryd.prog rangeName = some #[.iface 138 (.pointer (some a0))] := by
    unfold World.var? at hv0 ⊢
    rw [gRange] at hv0 ⊢
    simp only [Option.bind_some] at hv0 ⊢
    rw [bel.block 0 (by
      rcases Nat.lt_or_ge 0 W.heap.size with h' | h'
      · exact h'
      · rw [Array.getElem?_eq_none h'] at hv0; simp at hv0)]
    exact hv0
  exact ⟨_, rfl, _, _, _, [], _, [.cell 0 0], hW', trodAll_mk1 (shut_bool Tryd.underlying4 _), trodAll_mk3 (shut_int Tryd.underlying2 wn) (shut_int Tryd.underlying2 we) (ChangeMaps.shut_string Tryd.underlying9 wt), vars_read1 enc gRange tRange Tryd.underlying39 hv1 trivial _, bel.frame _, fun h => by cases h⟩

theorem pack_said : Rows.FnExactPackPageSaid :=
  OpenClaim.holds_of_wide 3 Tryd.f3 rfl rfl rfl rfl rfl rfl rfl ⟨rfl, rfl, rfl, rfl, rfl⟩ rfl rfl rfl rfl rfl (by kernel_rfl) Tryd.func3 (by kernel_rfl)
    (of_decide_eq_true (by kernel_rfl)) (by unfold Func.isWrapper; first | (rw [if_pos (by decide +kernel)]; kernel_rfl) | (rw [if_neg (by decide +kernel)]; exact ⟨rfl, rfl⟩))
    (fun os started H enc _ => pack_lifted os started H enc)

/-- The statement. -/
theorem pack_holds : Rows.FnExactPackPageCardSaid :=
  Claim7.holds_tied_plain_at .later [] [.data, .data, .data, .sentinel] true Rows.fnExactPackPageCard.stood.harness true
    pack_said (fun _ h => by cases h) (by kernel_rfl) (fun _ h => by cases h) fnExactPackPage_row_tie rfl ⟨rfl, rfl⟩ (by kernel_rfl) rfl
    (fun f fn hf hfn => by
      obtain rfl : f = 3 := Option.some.inj ((show Tryd.prog.funcNamed Rows.fnExactPackPageRow.func = some 3 by kernel_rfl).symm.trans hf) |>.symm
      obtain rfl : fn = Tryd.f3 := (Option.some.inj (Tryd.func3.symm.trans hfn)).symm
      exact ⟨by kernel_rfl, fun j t ht => by
        rw [Tryd.params3] at ht
        have h3 : t = 2 ∨ t = 9 := by
          rcases j with _ | _ | _ | j
          · exact .inl (by simpa using ht.symm)
          · exact .inl (by simpa using ht.symm)
          · exact .inr (by simpa using ht.symm)
          · simp at ht
        rcases h3 with rfl | rfl
        · exact (show Tryd.prog.wantsStandIn 2 = false by kernel_rfl)
        · exact (show Tryd.prog.wantsStandIn 9 = false by kernel_rfl)⟩)
    (by kernel_rfl)

#print axioms pack_holds
end Go.Proofs.YtfccehcgjnjgdaaDoor
