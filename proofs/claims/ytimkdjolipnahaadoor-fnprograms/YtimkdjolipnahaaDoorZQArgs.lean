/- A slice of bytes that came in as an argument. -/
import Derived.Test.YtimkdjolipnahaaDoorZQOpenE
import Derived.Test.YtimkdjolipnahaaDoorZHDraw
import Derived.ChangeSlices
import Derived.Below
namespace Go.Proofs.YtimkdjolipnahaaDoor
open Go.ChangeShapes Go.WideShapes Go.ChangeAt Go.RowKit

theorem Tryd.underB : Tryd.prog.underlying 22 = some (.slice 5) := by kernel_rfl
theorem Tryd.cells5 : Tryd.prog.cellsOf 5 = 1 := by kernel_rfl
theorem add_eq (b o i : Nat) : (⟨b, o, none⟩ : Addr).add i = ⟨b, o + i, none⟩ := by
  unfold Addr.add
  by_cases h : i = 0
  · simp [h]
  · simp [h]
theorem spotless {w : World} {a : Addr} {v : Value} (h : w.cell? (a.add 0) = some v) : ∃ b o, a = ⟨b, o, none⟩ := by
  obtain ⟨b, o, s⟩ := a
  have : s = none := by simpa [Addr.add] using World.cell?_spot h
  exact ⟨b, o, by rw [this]⟩

set_option maxRecDepth 100000 in
theorem open_bytes {H : Type} {enc : TypeId × Value → H} {W : World} {b0 : Nat} {v : Value} {d : DataW H} {p : List MemPlace} (hv : Value.okWide Tryd.prog W .any b0 22 v)
    (h : DataW.Trod enc Tryd.prog W 0 (fun _ => true) true 22 v d p) : ∃ l, BR W v l := by
  obtain ⟨a0, len, cap, rfl⟩ := okWide_slice Tryd.underB hv
  obtain ⟨fuel, hf⟩ := h
  rcases open_ints Tryd.underB Tryd.underlying5 Tryd.cells5 hf with ⟨hcs, hx⟩ | ⟨a, len', cap', zs, hcs, _, hl, hm, hz, hx, hcell, hwz⟩
  · simp [Value.cells] at hcs
    obtain ⟨rfl, rfl, rfl⟩ := hcs
    exact ⟨[], none, 0, rfl, Nat.le_refl _, fun i hi => by simp at hi⟩
  · simp [Value.cells] at hcs
    obtain ⟨rfl, rfl, rfl⟩ := hcs
    simp only [if_true] at hz
    have e : ((zs.take len).map fun z => UInt8.ofNat z.toNat).length = len := by rw [List.length_map, List.length_take]; omega
    refine ⟨(zs.take len).map fun z => UInt8.ofNat z.toNat, some a, cap, by rw [e], by rw [e]; exact hl, fun i hi => ?_⟩
    have hi' : i < len := by omega
    obtain ⟨b, o, rfl⟩ := spotless (hcell 0 (by omega))
    have hci := hcell i (by omega)
    rw [add_eq] at hci
    refine ⟨b, o, rfl, ?_⟩
    rw [hci]
    have hzi : i < zs.length := by omega
    have hw := hwz zs[i] (List.getElem_mem hzi)
    have hr : 0 ≤ zs[i] ∧ zs[i] ≤ 255 := by
      have m0 : IntKind.u8.min = 0 := by rfl
      have m1 : IntKind.u8.max = 255 := by rfl
      simp only [Lit.wf, Bool.and_eq_true, decide_eq_true_eq, m0, m1] at hw
      exact hw
    have e2 := byte_of zs[i] hr.1 hr.2
    simp [List.getD_eq_getElem?_getD, hzi, List.getElem_map, List.getElem_take]
    omega

end Go.Proofs.YtimkdjolipnahaaDoor
