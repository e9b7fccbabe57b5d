/- The law FnWhole holds: for every code, nil too, the call returns true and the code and the named variables read as before; what is listed of the package-level variables is tied to the program's text. There are no other conditions. -/
import Derived.Test.YtjclpbaiiklhcaaGreatDoorZV26
import Derived.Test.YtjclpbaiiklhcaaGreatDoorZV27
import Derived.Test.YtjclpbaiiklhcaaGreatDoorCards
import Derived.Test.YtjclpbaiiklhcaaGreatDoorTie
import Derived.SevenTiedAt
import Derived.ChangeMaps5
namespace Go.Proofs.YtjclpbaiiklhcaaGreatDoor
open Go.ChangeShapes Go.WideShapes Go.ChangeAt Go.RowKit

theorem whole_split {W : World} (h : laidMetH Tryz.prog Rows.fnWholeRow.laid W) : laidMet Tryz.prog L11 W ∧ handlesMet Tryz.prog [(nmO 3, Rows.laid_errors_errorType)] W := h

/-- The door's own heap meets the condition. -/
theorem whole_met (os : Os) (args : Array Value) : laidMetH Tryz.prog Rows.fnWholeRow.laid ((World.doorLaid Tryz.prog 400 os).forCall (fun _ _ => 0) ⟨#[], args, []⟩).memory :=
  laidMetH_of_parts3 (fuel := 8) (laidMet_of_run' 8 (by kernel_rfl) (by kernel_rfl)) (by kernel_rfl) (by kernel_rfl)

set_option maxRecDepth 100000 in
theorem whole_lifted (os : Os) (started : os.Started) (H : Type) (enc : TypeId × Value → H) :
    ReturnsInHanded {} Tryz.checked os 4 .any (fun w args => (Rows.fnWholeSpec.pre enc Tryz.prog Tryz.f4 [] false w args ∧ laidMetH Tryz.prog Rows.fnWholeRow.laid w) ∧ sizedMet enc Tryz.prog Tryz.f4 (OpenSpec.ofChange Rows.fnWholeSpec) false w args)
      (Rows.fnWholeSpec.post enc Tryz.prog Tryz.f4 false true false false) := by
  refine handed_both (C := Tryz.checked) (X := fun w _ => laidMetH Tryz.prog Rows.fnWholeRow.laid w) (fun _ _ _ hh h => h.of_heap hh) Disk.own started (by kernel_rfl) Tryz.func4
    (ChangeSpec.witness_shaped (enc := enc) (C := Tryz.checked) (os := os) (X := fun w _ => laidMetH Tryz.prog Rows.fnWholeRow.laid w) false (World.doorLaid Tryz.prog 400 os) #[.slice none 0 0] 8 rfl (World.shaped_of_RefB (by kernel_rfl) (by kernel_rfl)) (by kernel_rfl) (by kernel_rfl) (by kernel_rfl) (whole_met os _)) ?_
  intro W base args ds gs before hval0 hW _ _ hL hsh _
  have hval : ∀ (j : Nat) t v, Tryz.f4.params[j]? = some t → args[j]? = some v → Value.okWide Tryz.prog W .any base t v := hval0
  have hW' := hW
  obtain ⟨p, q, hA0, hV0, rfl, hfz, hnd⟩ := hW
  have hA : DataW.TrodAll enc Tryz.prog W 0 (fun _ => true) true Tryz.f4.params.toList args.toList ds p := hA0
  have hV : DataW.TrodVars enc Tryz.prog W (fun _ => true) [nmG, nmO 9, nmO 6, nmO 7, nmO 8] gs q := hV0
  rw [Tryz.params4] at hA hval
  obtain ⟨v0, d0, rfl, rfl, h0⟩ := trodAll_one hA
  have k0 := h0
  have lt0 : ∀ x ∈ p, x.block < W.heap.size := by obtain ⟨m, hm⟩ := k0; exact DataW.trod_lt m _ _ _ hm
  obtain ⟨cs, hcs⟩ := open_bytes (hval 0 22 v0 rfl rfl) h0
  obtain ⟨a0, a1, a2, a3, hC, w8, w9, w6, w7⟩ := ctx_of_met (whole_split hL).1 (whole_split hL).2 hsh
  obtain ⟨bg, wg⟩ := given_of_met (whole_split hL).1
  obtain ⟨rfl, rfl⟩ := hV.unique (vars_read5 enc Tryz.underlying92 gG tGG wg trivial gO9 tG1 w9 trivial gO6 tG2 w6 trivial gO7 tG3 w7 trivial gO8 tG0 w8 trivial _)
  have hgv : W.cell? ⟨0, 0, none⟩ = some (.iface 200 (.pointer (some bg))) := by simpa using World.var?_cell gG wg 0
  clear hA0 hV0 hval0
  refine (lawWhole_any v0 cs a0 a1 a2 a3 _ _ W hcs hC hgv).mono fun x W' ⟨he, bel⟩ => ?_
  subst he
  exact ⟨_, rfl, _, _, _, [], _, [.cell 0 0, .cell 2 0, .cell 3 0, .cell 4 0, .cell 1 0], hW', trodAll_mk1 (shut_bool Tryz.underlying4 _), trodAll_mk1 (Below.trod Disk.laidOut (by kernel_rfl) (of_decide_eq_true (by kernel_rfl)) k0 bel lt0),
    vars_read5 enc Tryz.underlying92 gG tGG (var_later wg bel) trivial gO9 tG1 (var_later w9 bel) trivial gO6 tG2 (var_later w6 bel) trivial gO7 tG3 (var_later w7 bel) trivial gO8 tG0 (var_later w8 bel) trivial _, bel.frame _, fun h => by cases h⟩

theorem whole_said : Rows.FnWholeSaid :=
  OpenClaim.holds_of_wide 4 Tryz.f4 rfl rfl rfl rfl rfl rfl rfl ⟨rfl, rfl, rfl, rfl, rfl⟩ rfl rfl rfl rfl rfl (by kernel_rfl) Tryz.func4 (by kernel_rfl)
    (of_decide_eq_true (by kernel_rfl)) (by unfold Func.isWrapper; first | (rw [if_pos (by decide +kernel)]; kernel_rfl) | (rw [if_neg (by decide +kernel)]; exact ⟨rfl, rfl⟩))
    (fun os started H enc _ => whole_lifted os started H enc)

/-- The statement. -/
theorem whole_holds : Rows.FnWholeCardSaid :=
  Claim7.holds_tied_plain_at .later [] [.data, .data, .data, .handle, .sentinel, .sentinel, .sentinel, .sentinel, .sentinel, .sentinel, .sentinel] true Rows.fnWholeCard.stood.harness true
    whole_said (fun _ h => by cases h) (by kernel_rfl) (fun _ h => by cases h) fnWhole_row_tie rfl ⟨rfl, rfl⟩ (by kernel_rfl) rfl
    (fun f fn hf hfn => by
      obtain rfl : f = 4 := Option.some.inj ((show Tryz.prog.funcNamed Rows.fnWholeRow.func = some 4 by kernel_rfl).symm.trans hf) |>.symm
      obtain rfl : fn = Tryz.f4 := (Option.some.inj (Tryz.func4.symm.trans hfn)).symm
      exact ⟨by kernel_rfl, fun j t ht => by
        rw [Tryz.params4] at ht
        have h3 : t = 22 := by
          rcases j with _ | j
          · simpa using ht.symm
          · simp at ht
        subst h3
        exact (show Tryz.prog.wantsStandIn 22 = false by kernel_rfl)⟩)
    (by kernel_rfl)

#print axioms whole_holds
end Go.Proofs.YtjclpbaiiklhcaaGreatDoor
