import Derived.Test.YtjclpbaiiklhcaaGreatDoorZU24
import Derived.Test.YtjclpbaiiklhcaaGreatDoorZDBase
import Derived.Test.YtjclpbaiiklhcaaGreatDoorZU4
import Derived.Test.YtjclpbaiiklhcaaGreatDoorZLaid
import Derived.ChangeSlices
import Derived.Test.YtjclpbaiiklhcaaGreatDoorZU0
import GoSem.ClaimSeven
import Derived.LaidByTextLater
import Derived.SevenTiedAt
import Derived.LaidSub
import Derived.LaidOnce
/- What the eleven listed variables give the walks of a commit; a list of texts that came in as an argument. -/
namespace Go.Proofs.YtjclpbaiiklhcaaGreatDoor
open Go.ChangeShapes Go.WideShapes Go.ChangeAt Go.RowKit Go.Deep

def nmG : String := (Rows.fnCommittedRow.laid.map (·.1)).getD 10 ""
theorem gG : Tryz.prog.globalNamed nmG = some 0 := by kernel_rfl
theorem tGG : (Tryz.prog.globals[0]?).map (·.type) = some 92 := by kernel_rfl
abbrev L11 : List (String × DataW Unit) := L9r [(nmG, Rows.laid_loop_example_g00140_impl_errGivenUp)]

set_option maxRecDepth 100000 in
theorem given_of_met {W : World} (hL : laidMet Tryz.prog L11 W) : ∃ b, W.var? Tryz.prog nmG = some #[.iface 200 (.pointer (some b))] := by
  have L := laidMet.tail (laidMet.tail (laidMet.tail (laidMet.tail (laidMet.tail (laidMet.tail (laidMet.tail (laidMet.tail (laidMet.tail hL))))))))
  obtain ⟨b4, _, v4, _, _, _⟩ := laid_sentinel (n := nmG) L gG tGG Tryz.underlying92 row138 Tryz.underlying200 Tryz.underlying202 rfl rfl Tryz.underlying9 Tryz.cells140 Tryz.cells9
  exact ⟨b4, v4⟩
theorem vars_read5 {H : Type} (enc : TypeId × Value → H) {P : Program} {W : World} {n0 n1 n2 n3 n4 : String} {g0 g1 g2 g3 g4 : Nat} {t : TypeId} {ms : Array (String × TypeId)} {x0 x1 x2 x3 x4 : Value}
    (hi : P.underlying t = some (.interface ms))
    (hg0 : P.globalNamed n0 = some g0) (ht0 : (P.globals[g0]?).map (·.type) = some t) (h0 : W.var? P n0 = some #[x0]) (i0 : IsIface x0)
    (hg1 : P.globalNamed n1 = some g1) (ht1 : (P.globals[g1]?).map (·.type) = some t) (h1 : W.var? P n1 = some #[x1]) (i1 : IsIface x1)
    (hg2 : P.globalNamed n2 = some g2) (ht2 : (P.globals[g2]?).map (·.type) = some t) (h2 : W.var? P n2 = some #[x2]) (i2 : IsIface x2)
    (hg3 : P.globalNamed n3 = some g3) (ht3 : (P.globals[g3]?).map (·.type) = some t) (h3 : W.var? P n3 = some #[x3]) (i3 : IsIface x3)
    (hg4 : P.globalNamed n4 = some g4) (ht4 : (P.globals[g4]?).map (·.type) = some t) (h4 : W.var? P n4 = some #[x4]) (i4 : IsIface x4) (sp : Nat → Bool) :
    DataW.TrodVars enc P W sp [n0, n1, n2, n3, n4] [tok enc x0, tok enc x1, tok enc x2, tok enc x3, tok enc x4] [.cell g0 0, .cell g1 0, .cell g2 0, .cell g3 0, .cell g4 0] :=
  ⟨g0, t, #[x0], 1, [], [.cell g1 0, .cell g2 0, .cell g3 0, .cell g4 0], hg0, ht0, h0, trod_held hi i0 0, vars_read4 enc hi hg1 ht1 h1 i1 hg2 ht2 h2 i2 hg3 ht3 h3 i3 hg4 ht4 h4 i4 sp, rfl⟩

set_option maxRecDepth 100000 in
theorem open_texts {H : Type} {enc : TypeId × Value → H} {W : World} {b0 : Nat} {v : Value} {d : DataW H} {p : List MemPlace} (hv : Value.okWide Tryz.prog W .any b0 24 v)
    (h : DataW.Trod enc Tryz.prog W 0 (fun _ => true) true 24 v d p) (hsz : ∀ x ∈ DataW.weights Tryz.prog 24 d, x ≤ 140737488351232) : ∃ ss, Disk.SR W v ss ∧ ss.length ≤ 10000000000000 := by
  obtain ⟨a0, len0, cap0, rfl⟩ := okWide_slice Tryz.underlying24 hv
  obtain ⟨fuel, hf⟩ := h
  rcases open_strs Tryz.underlying24 Tryz.underlying9 Tryz.cells9 hf with ⟨hcs, _⟩ | ⟨a, len, cap, m, Sx, hcs, _, hl, hm, hmm, hx, hc⟩
  · simp [Value.cells] at hcs
    obtain ⟨rfl, rfl, rfl⟩ := hcs
    exact ⟨[], ⟨none, 0, rfl, fun i hi => by simp at hi⟩, by simp⟩
  · simp [Value.cells] at hcs
    obtain ⟨rfl, rfl, rfl⟩ := hcs
    have hmc : m = cap0 := by simpa using hmm
    have hlen : len0 ≤ 10000000000000 := by
      have := hsz ((((List.range len0).map fun i => DataW.lit (H := H) (.string (Sx i).data.toList)).length + ((List.range (m - len0)).map fun j => DataW.lit (H := H) (.string (Sx (len0 + j)).data.toList)).length) * Tryz.prog.bytesOf 9) (by
        have hx' : d = _ := congrArg Prod.fst hx
        rw [hx']
        simp [DataW.weights, Tryz.underlying24])
      rw [Disk.Tryz.bytes9] at this
      simp at this
      omega
    refine ⟨(List.range len0).map Sx, ⟨some a, cap0, by simp, fun i hi => ?_⟩, by simpa using hlen⟩
    simp only [List.length_map, List.length_range] at hi
    have hci := (hc i (by omega)).1
    obtain ⟨b, o, rfl⟩ := Disk.spotless (hc 0 (by omega)).1
    refine ⟨b, o, rfl, ?_⟩
    rw [Disk.add_eq] at hci
    rw [Disk.getD_map_range _ _ _ _ hi]
    exact hci

end Go.Proofs.YtjclpbaiiklhcaaGreatDoor

/- A slice of bytes that came in as an argument. -/
namespace Go.Proofs.YtjclpbaiiklhcaaGreatDoor
open Go.ChangeShapes Go.WideShapes Go.ChangeAt Go.RowKit

theorem Tryz.cells5 : Tryz.prog.cellsOf 5 = 1 := by kernel_rfl
theorem add_eq (b o i : Nat) : (⟨b, o, none⟩ : Addr).add i = ⟨b, o + i, none⟩ := by
  unfold Addr.add
  by_cases h : i = 0
  · simp [h]
  · simp [h]
theorem spotless {w : World} {a : Addr} {v : Value} (h : w.cell? (a.add 0) = some v) : ∃ b o, a = ⟨b, o, none⟩ := by
  obtain ⟨b, o, s⟩ := a
  have : s = none := by simpa [Addr.add] using World.cell?_spot h
  exact ⟨b, o, by rw [this]⟩

set_option maxRecDepth 100000 in
theorem open_bytes {H : Type} {enc : TypeId × Value → H} {W : World} {b0 : Nat} {v : Value} {d : DataW H} {p : List MemPlace} (hv : Value.okWide Tryz.prog W .any b0 22 v)
    (h : DataW.Trod enc Tryz.prog W 0 (fun _ => true) true 22 v d p) : ∃ l, BR W v l := by
  obtain ⟨a0, len, cap, rfl⟩ := okWide_slice Tryz.underB hv
  obtain ⟨fuel, hf⟩ := h
  rcases open_ints Tryz.underB Tryz.underlying5 Tryz.cells5 hf with ⟨hcs, hx⟩ | ⟨a, len', cap', zs, hcs, _, hl, hm, hz, hx, hcell, hwz⟩
  · simp [Value.cells] at hcs
    obtain ⟨rfl, rfl, rfl⟩ := hcs
    exact ⟨[], none, 0, rfl, Nat.le_refl _, fun i hi => by simp at hi⟩
  · simp [Value.cells] at hcs
    obtain ⟨rfl, rfl, rfl⟩ := hcs
    simp only [if_true] at hz
    have e : ((zs.take len).map fun z => UInt8.ofNat z.toNat).length = len := by rw [List.length_map, List.length_take]; omega
    refine ⟨(zs.take len).map fun z => UInt8.ofNat z.toNat, some a, cap, by rw [e], by rw [e]; exact hl, fun i hi => ?_⟩
    have hi' : i < len := by omega
    obtain ⟨b, o, rfl⟩ := spotless (hcell 0 (by omega))
    have hci := hcell i (by omega)
    rw [add_eq] at hci
    refine ⟨b, o, rfl, ?_⟩
    rw [hci]
    have hzi : i < zs.length := by omega
    have hw := hwz zs[i] (List.getElem_mem hzi)
    have hr : 0 ≤ zs[i] ∧ zs[i] ≤ 255 := by
      have m0 : IntKind.u8.min = 0 := by rfl
      have m1 : IntKind.u8.max = 255 := by rfl
      simp only [Lit.wf, Bool.and_eq_true, decide_eq_true_eq, m0, m1] at hw
      exact hw
    have e2 := byte_of zs[i] hr.1 hr.2
    simp [List.getD_eq_getElem?_getD, hzi, List.getElem_map, List.getElem_take]
    omega

end Go.Proofs.YtjclpbaiiklhcaaGreatDoor

/-
  DERIVED. GIVEN WITH THE SEED: THE CARDS: each row of YtjclpbaiiklhcaaGreatDoorRows.lean that lists a variable, with what it lists TIED to the program's text (the seventh form; the later family's looks); each row that meets fmt, with fmt's text TOLD by the authors' own Lean function (tested against real Go, not proved from fmt's source: count such statements apart). THE CARD IS WHAT COUNTS. Prove the row's statement (the work); the ties are given (YtjclpbaiiklhcaaGreatDoorTie.lean); close each card by the builder's one call (the guide's Derived/Test/ToyasCard.lean, 'card_holds'). Laid BY PROGRAM, IN A SANDBOX (cutbox-door.mjs). By AI agents, Wed Nov 11 2026. No macro, syntax, notation, axiom, sorry.
-/
namespace Go.Proofs.YtjclpbaiiklhcaaGreatDoor
namespace Rows

/-- THE TIED CARD OF 'laws.FnCommitted'. -/
def fnCommittedCard : Claim7 := { stood := { row := fnCommittedRow, standIns := [], harness := (true, "faa0c682f60a48d49f1a0a53e7fad5756ab868426e993d016d1004bc040e830a"), looks := true }, kinds := [], alts := [], laidByText := true, laidKinds := [.data, .data, .data, .handle, .sentinel, .sentinel, .sentinel, .sentinel, .sentinel, .sentinel, .sentinel], laidTests := true, laidLooks := .later }
def FnCommittedCardSaid : Prop := Claim7.holds Tryz.pinned (.plain (OpenSpec.ofChange fnCommittedSpec)) fnCommittedCard

/-- THE TIED CARD OF 'laws.FnWhole'. -/
def fnWholeCard : Claim7 := { stood := { row := fnWholeRow, standIns := [], harness := (true, "faa0c682f60a48d49f1a0a53e7fad5756ab868426e993d016d1004bc040e830a"), looks := true }, kinds := [], alts := [], laidByText := true, laidKinds := [.data, .data, .data, .handle, .sentinel, .sentinel, .sentinel, .sentinel, .sentinel, .sentinel, .sentinel], laidTests := true, laidLooks := .later }
def FnWholeCardSaid : Prop := Claim7.holds Tryz.pinned (.plain (OpenSpec.ofChange fnWholeSpec)) fnWholeCard

/-- THE SECOND FORM's CARD OF 'laws.FnCommitted'. -/
def fnCommittedUptoCard : Claim7 := { stood := { row := fnCommittedUptoRow, standIns := [], harness := (true, "faa0c682f60a48d49f1a0a53e7fad5756ab868426e993d016d1004bc040e830a"), looks := true }, kinds := [], alts := [], laidByText := true, laidKinds := [.data, .data, .data, .handle, .sentinel, .sentinel, .sentinel, .sentinel, .sentinel, .sentinel, .sentinel], laidTests := true, laidLooks := .later }
def FnCommittedUptoCardSaid : Prop := Claim7.holds Tryz.pinned (.plain (OpenSpec.upto fnCommittedSpec)) fnCommittedUptoCard

/-- THE SECOND FORM's CARD OF 'laws.FnWhole'. -/
def fnWholeUptoCard : Claim7 := { stood := { row := fnWholeUptoRow, standIns := [], harness := (true, "faa0c682f60a48d49f1a0a53e7fad5756ab868426e993d016d1004bc040e830a"), looks := true }, kinds := [], alts := [], laidByText := true, laidKinds := [.data, .data, .data, .handle, .sentinel, .sentinel, .sentinel, .sentinel, .sentinel, .sentinel, .sentinel], laidTests := true, laidLooks := .later }
def FnWholeUptoCardSaid : Prop := Claim7.holds Tryz.pinned (.plain (OpenSpec.upto fnWholeSpec)) fnWholeUptoCard
end Rows
end Go.Proofs.YtjclpbaiiklhcaaGreatDoor

/-
  DERIVED. GIVEN WITH THE SEED: THE PROGRAM's TIES (one call each: nine closed facts by the kernel) AND EACH ROW's TIE, after the 31st guide's Derived/Test/Toyas{Tie, Card}.lean. No idea stands in it: it is a product of the set-up. Laid BY PROGRAM, IN A SANDBOX (cutbox-door.mjs). By AI agents, Wed Nov 11 2026. No macro, syntax, notation, axiom, sorry.
-/
namespace Go.Proofs.YtjclpbaiiklhcaaGreatDoor
open Go
set_option maxRecDepth 100000
theorem seatTie1 : Tryz.prog.laidByTextLater [("math/bits.deBruijn32tab", Rows.laid_math_bits_deBruijn32tab), ("math/bits.deBruijn64tab", Rows.laid_math_bits_deBruijn64tab), ("internal/strconv.uint64pow10", Rows.laid_internal_strconv_uint64pow10), ("errors.errorType", Rows.laid_errors_errorType), ("strconv.ErrRange", Rows.laid_strconv_ErrRange), ("strconv.ErrSyntax", Rows.laid_strconv_ErrSyntax), ("loop.example/g00140/impl.errEmptyText", Rows.laid_loop_example_g00140_impl_errEmptyText), ("loop.example/g00140/impl.errPageForm", Rows.laid_loop_example_g00140_impl_errPageForm), ("loop.example/g00140/impl.errPageRange", Rows.laid_loop_example_g00140_impl_errPageRange), ("loop.example/g00140/impl.errPageSum", Rows.laid_loop_example_g00140_impl_errPageSum), ("loop.example/g00140/impl.errGivenUp", Rows.laid_loop_example_g00140_impl_errGivenUp)] [.data, .data, .data, .handle, .sentinel, .sentinel, .sentinel, .sentinel, .sentinel, .sentinel, .sentinel] true :=
  Program.laidByTextLater_by_one 164 8 65 (by kernel_rfl) (by kernel_rfl) (by kernel_rfl) (by kernel_rfl) (by kernel_rfl) (by kernel_rfl) (fun _ _ => by kernel_rfl)
theorem noOwnUnsafe : Tryz.pinned.checked.prog.headLifts.contains "ownunsafe" = false := by kernel_rfl
theorem tie : Tryz.prog.laidByTextLater [("math/bits.deBruijn32tab", Rows.laid_math_bits_deBruijn32tab), ("math/bits.deBruijn64tab", Rows.laid_math_bits_deBruijn64tab), ("internal/strconv.uint64pow10", Rows.laid_internal_strconv_uint64pow10), ("errors.errorType", Rows.laid_errors_errorType), ("strconv.ErrRange", Rows.laid_strconv_ErrRange), ("strconv.ErrSyntax", Rows.laid_strconv_ErrSyntax), ("loop.example/g00140/impl.errEmptyText", Rows.laid_loop_example_g00140_impl_errEmptyText), ("loop.example/g00140/impl.errPageForm", Rows.laid_loop_example_g00140_impl_errPageForm), ("loop.example/g00140/impl.errPageRange", Rows.laid_loop_example_g00140_impl_errPageRange), ("loop.example/g00140/impl.errPageSum", Rows.laid_loop_example_g00140_impl_errPageSum), ("loop.example/g00140/impl.errGivenUp", Rows.laid_loop_example_g00140_impl_errGivenUp)] [.data, .data, .data, .handle, .sentinel, .sentinel, .sentinel, .sentinel, .sentinel, .sentinel, .sentinel] true :=
  Program.laidByTextLater.sub seatTie1 ["math/bits.deBruijn32tab", "math/bits.deBruijn64tab", "internal/strconv.uint64pow10", "errors.errorType", "strconv.ErrRange", "strconv.ErrSyntax", "loop.example/g00140/impl.errEmptyText", "loop.example/g00140/impl.errPageForm", "loop.example/g00140/impl.errPageRange", "loop.example/g00140/impl.errPageSum", "loop.example/g00140/impl.errGivenUp"] (by kernel_rfl) (by kernel_rfl)
theorem fnCommitted_row_tie : Rows.fnCommittedRow.laidByTextAt .later Tryz.pinned [.data, .data, .data, .handle, .sentinel, .sentinel, .sentinel, .sentinel, .sentinel, .sentinel, .sentinel] true :=
  OpenClaim.laidByTextAt_later rfl rfl tie noOwnUnsafe
theorem fnWhole_row_tie : Rows.fnWholeRow.laidByTextAt .later Tryz.pinned [.data, .data, .data, .handle, .sentinel, .sentinel, .sentinel, .sentinel, .sentinel, .sentinel, .sentinel] true :=
  OpenClaim.laidByTextAt_later rfl rfl tie noOwnUnsafe
theorem fnCommittedUpto_row_tie : Rows.fnCommittedUptoRow.laidByTextAt .later Tryz.pinned [.data, .data, .data, .handle, .sentinel, .sentinel, .sentinel, .sentinel, .sentinel, .sentinel, .sentinel] true :=
  OpenClaim.laidByTextAt_later rfl rfl tie noOwnUnsafe
theorem fnWholeUpto_row_tie : Rows.fnWholeUptoRow.laidByTextAt .later Tryz.pinned [.data, .data, .data, .handle, .sentinel, .sentinel, .sentinel, .sentinel, .sentinel, .sentinel, .sentinel] true :=
  OpenClaim.laidByTextAt_later rfl rfl tie noOwnUnsafe
end Go.Proofs.YtjclpbaiiklhcaaGreatDoor
