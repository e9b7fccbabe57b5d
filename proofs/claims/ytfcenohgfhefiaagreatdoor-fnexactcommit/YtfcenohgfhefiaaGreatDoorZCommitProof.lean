/- The law on Commit holds: for every disk and every list of texts, of whatever make, the call returns true and the arguments and the named variables read as before; what is listed of the package-level variables is tied to the program's text. There are no other conditions. -/
import Derived.Test.YtfcenohgfhefiaaGreatDoorZLawCommit
import Derived.Test.YtfcenohgfhefiaaGreatDoorZOpen11
import Derived.Test.YtfcenohgfhefiaaGreatDoorCards
import Derived.Test.YtfcenohgfhefiaaGreatDoorTie
import Derived.SevenTiedAt
import Derived.ChangeMaps5
namespace Go.Proofs.YtfcenohgfhefiaaGreatDoor
open Go.ChangeShapes Go.WideShapes Go.ChangeAt Go.RowKit

theorem commit_reach : reachBytes = 140737488351232 := rfl
theorem commit_split {W : World} (h : laidMetH Tryz.prog Rows.fnExactCommitRow.laid W) : laidMet Tryz.prog L11 W ∧ handlesMet Tryz.prog [(nmO 3, Rows.laid_errors_errorType)] W := h

/-- The door's own heap meets the condition. -/
theorem commit_met (os : Os) (args : Array Value) : laidMetH Tryz.prog Rows.fnExactCommitRow.laid ((World.doorLaid Tryz.prog 400 os).forCall (fun _ _ => 0) ⟨#[], args, []⟩).memory :=
  laidMetH_of_parts3 (fuel := 8) (laidMet_of_run' 8 (by kernel_rfl) (by kernel_rfl)) (by kernel_rfl) (by kernel_rfl)

set_option maxRecDepth 100000 in
theorem commit_lifted (os : Os) (started : os.Started) (H : Type) (enc : TypeId × Value → H) :
    ReturnsInHanded {} Tryz.checked os 6 .any (fun w args => (Rows.fnExactCommitSpec.pre enc Tryz.prog Tryz.f6 [] false w args ∧ laidMetH Tryz.prog Rows.fnExactCommitRow.laid w) ∧ sizedMet enc Tryz.prog Tryz.f6 (OpenSpec.ofChange Rows.fnExactCommitSpec) false w args)
      (Rows.fnExactCommitSpec.post enc Tryz.prog Tryz.f6 false true false false) := by
  refine handed_both (C := Tryz.checked) (X := fun w _ => laidMetH Tryz.prog Rows.fnExactCommitRow.laid w) (fun _ _ _ hh h => h.of_heap hh) Disk.own started (by kernel_rfl) Tryz.func6
    (ChangeSpec.witness_shaped (enc := enc) (C := Tryz.checked) (os := os) (X := fun w _ => laidMetH Tryz.prog Rows.fnExactCommitRow.laid w) false (World.doorLaid Tryz.prog 400 os) #[.agg #[.slice none 0 0, .slice none 0 0], .slice none 0 0] 8 rfl (World.shaped_of_RefB (by kernel_rfl) (by kernel_rfl)) (by kernel_rfl) (by kernel_rfl) (by kernel_rfl) (commit_met os _)) ?_
  intro W base args ds gs before hval0 hW _ hsz0 hL hsh _
  have hval : ∀ (j : Nat) t v, Tryz.f6.params[j]? = some t → args[j]? = some v → Value.okWide Tryz.prog W .any base t v := hval0
  have hsz : (DataW.weightsEach Tryz.prog (Tryz.f6.params.toList ++ Rows.fnExactCommitSpec.plain.varTypes Tryz.prog) (ds ++ gs)).all (· ≤ reachBytes) = true := hsz0
  have hW' := hW
  obtain ⟨p, q, hA0, hV0, rfl, hfz, hnd⟩ := hW
  have hA : DataW.TrodAll enc Tryz.prog W 0 (fun _ => true) true Tryz.f6.params.toList args.toList ds p := hA0
  have hV : DataW.TrodVars enc Tryz.prog W (fun _ => true) [nmG, nmO 9, nmO 6, nmO 7, nmO 8] gs q := hV0
  rw [Tryz.params6] at hA hval hsz
  obtain ⟨v0, v1, d0, d1, p0, p1, rfl, rfl, rfl, h0, h1⟩ := trodAll_two hA
  have k0 := h0
  have k1 := h1
  have lt0 : ∀ x ∈ p0, x.block < W.heap.size := by obtain ⟨m, hm⟩ := k0; exact DataW.trod_lt m _ _ _ hm
  have lt1 : ∀ x ∈ p1, x.block < W.heap.size := by obtain ⟨m, hm⟩ := k1; exact DataW.trod_lt m _ _ _ hm
  obtain ⟨c0, c1, ss, ws, rfl, hs, hws, l1, l2⟩ := Disk.open_disk (hval 0 56 v0 rfl rfl) h0 (fun x hx => by
    have := List.all_eq_true.1 hsz _ (DataW.weights_mem_each (j := 0) (t := 56) rfl rfl x hx)
    rw [commit_reach] at this
    exact of_decide_eq_true this)
  obtain ⟨bs, hbs, l3⟩ := open_texts (hval 1 24 v1 rfl rfl) h1 (fun x hx => by
    have := List.all_eq_true.1 hsz _ (DataW.weights_mem_each (j := 1) (t := 24) rfl rfl x hx)
    rw [commit_reach] at this
    exact of_decide_eq_true this)
  obtain ⟨a0, a1, a2, a3, hC, w8, w9, w6, w7⟩ := ctx_of_met (commit_split hL).1 (commit_split hL).2 hsh
  obtain ⟨bg, wg⟩ := given_of_met (commit_split hL).1
  obtain ⟨rfl, rfl⟩ := hV.unique (vars_read5 enc Tryz.underlying118 gG tGG wg trivial gO9 tG1 w9 trivial gO6 tG2 w6 trivial gO7 tG3 w7 trivial gO8 tG0 w8 trivial _)
  have hgv : W.cell? ⟨0, 0, none⟩ = some (.iface 222 (.pointer (some bg))) := by simpa using World.var?_cell gG wg 0
  clear hA0 hV0 hval0 hsz0
  refine (lawCommit_any c0 c1 v1 ss ws bs a0 a1 a2 a3 _ _ W hs hws hbs l1 l2 l3 hC hgv).mono fun x W' ⟨he, bel⟩ => ?_
  subst he
  exact ⟨_, rfl, _, _, _, [], _, [.cell 0 0, .cell 3 0, .cell 4 0, .cell 5 0, .cell 1 0], hW', trodAll_mk1 (shut_bool Tryz.underlying4 _), trodAll_mk2 (Below.trod Disk.laidOut (by kernel_rfl) (of_decide_eq_true (by kernel_rfl)) k0 bel lt0) (Below.trod Disk.laidOut (by kernel_rfl) (of_decide_eq_true (by kernel_rfl)) k1 bel lt1),
    vars_read5 enc Tryz.underlying118 gG tGG (var_later wg bel) trivial gO9 tG1 (var_later w9 bel) trivial gO6 tG2 (var_later w6 bel) trivial gO7 tG3 (var_later w7 bel) trivial gO8 tG0 (var_later w8 bel) trivial _, bel.frame _, fun h => by cases h⟩

theorem commit_said : Rows.FnExactCommitSaid :=
  OpenClaim.holds_of_wide 6 Tryz.f6 rfl rfl rfl rfl rfl rfl rfl ⟨rfl, rfl, rfl, rfl, rfl⟩ rfl rfl rfl rfl rfl (by kernel_rfl) Tryz.func6 (by kernel_rfl)
    (of_decide_eq_true (by kernel_rfl)) (by unfold Func.isWrapper; first | (rw [if_pos (by decide +kernel)]; kernel_rfl) | (rw [if_neg (by decide +kernel)]; exact ⟨rfl, rfl⟩))
    (fun os started H enc _ => commit_lifted os started H enc)

/-- The statement. -/
theorem commit_holds : Rows.FnExactCommitCardSaid :=
  Claim7.holds_tied_plain_at .later [] [.data, .data, .data, .handle, .sentinel, .sentinel, .sentinel, .sentinel, .sentinel, .sentinel, .sentinel] true Rows.fnExactCommitCard.stood.harness true
    commit_said (fun _ h => by cases h) (by kernel_rfl) (fun _ h => by cases h) fnExactCommit_row_tie rfl ⟨rfl, rfl⟩ (by kernel_rfl) rfl
    (fun f fn hf hfn => by
      obtain rfl : f = 6 := Option.some.inj ((show Tryz.prog.funcNamed Rows.fnExactCommitRow.func = some 6 by kernel_rfl).symm.trans hf) |>.symm
      obtain rfl : fn = Tryz.f6 := (Option.some.inj (Tryz.func6.symm.trans hfn)).symm
      exact ⟨by kernel_rfl, fun j t ht => by
        rw [Tryz.params6] at ht
        have h3 : t = 56 ∨ t = 24 := by
          rcases j with _ | _ | j
          · exact .inl (by simpa using ht.symm)
          · exact .inr (by simpa using ht.symm)
          · simp at ht
        rcases h3 with rfl | rfl
        · exact (show Tryz.prog.wantsStandIn 56 = false by kernel_rfl)
        · exact (show Tryz.prog.wantsStandIn 24 = false by kernel_rfl)⟩)
    (by kernel_rfl)

#print axioms commit_holds
end Go.Proofs.YtfcenohgfhefiaaGreatDoor
