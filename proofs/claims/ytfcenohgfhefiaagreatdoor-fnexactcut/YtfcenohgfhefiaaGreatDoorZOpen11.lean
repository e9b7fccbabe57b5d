/- What the eleven listed variables give the walks of a commit; a list of texts that came in as an argument. -/
import Derived.Test.YtfcenohgfhefiaaGreatDoorZOpenLaid
import Derived.Test.YtfcenohgfhefiaaGreatDoorZDBase
namespace Go.Proofs.YtfcenohgfhefiaaGreatDoor
open Go.ChangeShapes Go.WideShapes Go.ChangeAt Go.RowKit Go.Deep

def nmG : String := (Rows.fnExactScriptRow.laid.map (·.1)).getD 10 ""
theorem gG : Tryz.prog.globalNamed nmG = some 0 := by kernel_rfl
theorem tGG : (Tryz.prog.globals[0]?).map (·.type) = some 118 := by kernel_rfl
abbrev L11 : List (String × DataW Unit) := L9r [(nmG, Rows.laid_loop_example_g00140_impl_errGivenUp)]

set_option maxRecDepth 100000 in
theorem given_of_met {W : World} (hL : laidMet Tryz.prog L11 W) : ∃ b, W.var? Tryz.prog nmG = some #[.iface 222 (.pointer (some b))] := by
  have L := laidMet.tail (laidMet.tail (laidMet.tail (laidMet.tail (laidMet.tail (laidMet.tail (laidMet.tail (laidMet.tail (laidMet.tail hL))))))))
  obtain ⟨b4, _, v4, _, _, _⟩ := laid_sentinel (n := nmG) L gG tGG Tryz.underlying118 row138 Tryz.underlying222 Tryz.underlying224 rfl rfl Tryz.underlying9 Tryz.cells140 Tryz.cells9
  exact ⟨b4, v4⟩
theorem vars_read5 {H : Type} (enc : TypeId × Value → H) {P : Program} {W : World} {n0 n1 n2 n3 n4 : String} {g0 g1 g2 g3 g4 : Nat} {t : TypeId} {ms : Array (String × TypeId)} {x0 x1 x2 x3 x4 : Value}
    (hi : P.underlying t = some (.interface ms))
    (hg0 : P.globalNamed n0 = some g0) (ht0 : (P.globals[g0]?).map (·.type) = some t) (h0 : W.var? P n0 = some #[x0]) (i0 : IsIface x0)
    (hg1 : P.globalNamed n1 = some g1) (ht1 : (P.globals[g1]?).map (·.type) = some t) (h1 : W.var? P n1 = some #[x1]) (i1 : IsIface x1)
    (hg2 : P.globalNamed n2 = some g2) (ht2 : (P.globals[g2]?).map (·.type) = some t) (h2 : W.var? P n2 = some #[x2]) (i2 : IsIface x2)
    (hg3 : P.globalNamed n3 = some g3) (ht3 : (P.globals[g3]?).map (·.type) = some t) (h3 : W.var? P n3 = some #[x3]) (i3 : IsIface x3)
    (hg4 : P.globalNamed n4 = some g4) (ht4 : (P.globals[g4]?).map (·.type) = some t) (h4 : W.var? P n4 = some #[x4]) (i4 : IsIface x4) (sp : Nat → Bool) :
    DataW.TrodVars enc P W sp [n0, n1, n2, n3, n4] [tok enc x0, tok enc x1, tok enc x2, tok enc x3, tok enc x4] [.cell g0 0, .cell g1 0, .cell g2 0, .cell g3 0, .cell g4 0] :=
  ⟨g0, t, #[x0], 1, [], [.cell g1 0, .cell g2 0, .cell g3 0, .cell g4 0], hg0, ht0, h0, trod_held hi i0 0, vars_read4 enc hi hg1 ht1 h1 i1 hg2 ht2 h2 i2 hg3 ht3 h3 i3 hg4 ht4 h4 i4 sp, rfl⟩

set_option maxRecDepth 100000 in
theorem open_texts {H : Type} {enc : TypeId × Value → H} {W : World} {b0 : Nat} {v : Value} {d : DataW H} {p : List MemPlace} (hv : Value.okWide Tryz.prog W .any b0 24 v)
    (h : DataW.Trod enc Tryz.prog W 0 (fun _ => true) true 24 v d p) (hsz : ∀ x ∈ DataW.weights Tryz.prog 24 d, x ≤ 140737488351232) : ∃ ss, Disk.SR W v ss ∧ ss.length ≤ 10000000000000 := by
  obtain ⟨a0, len0, cap0, rfl⟩ := okWide_slice Tryz.underlying24 hv
  obtain ⟨fuel, hf⟩ := h
  rcases open_strs Tryz.underlying24 Tryz.underlying9 Tryz.cells9 hf with ⟨hcs, _⟩ | ⟨a, len, cap, m, Sx, hcs, _, hl, hm, hmm, hx, hc⟩
  · simp [Value.cells] at hcs
    obtain ⟨rfl, rfl, rfl⟩ := hcs
    exact ⟨[], ⟨none, 0, rfl, fun i hi => by simp at hi⟩, by simp⟩
  · simp [Value.cells] at hcs
    obtain ⟨rfl, rfl, rfl⟩ := hcs
    have hmc : m = cap0 := by simpa using hmm
    have hlen : len0 ≤ 10000000000000 := by
      have := hsz ((((List.range len0).map fun i => DataW.lit (H := H) (.string (Sx i).data.toList)).length + ((List.range (m - len0)).map fun j => DataW.lit (H := H) (.string (Sx (len0 + j)).data.toList)).length) * Tryz.prog.bytesOf 9) (by
        have hx' : d = _ := congrArg Prod.fst hx
        rw [hx']
        simp [DataW.weights, Tryz.underlying24])
      rw [Disk.Tryz.bytes9] at this
      simp at this
      omega
    refine ⟨(List.range len0).map Sx, ⟨some a, cap0, by simp, fun i hi => ?_⟩, by simpa using hlen⟩
    simp only [List.length_map, List.length_range] at hi
    have hci := (hc i (by omega)).1
    obtain ⟨b, o, rfl⟩ := Disk.spotless (hc 0 (by omega)).1
    refine ⟨b, o, rfl, ?_⟩
    rw [Disk.add_eq] at hci
    rw [Disk.getD_map_range _ _ _ _ hi]
    exact hci

end Go.Proofs.YtfcenohgfhefiaaGreatDoor
