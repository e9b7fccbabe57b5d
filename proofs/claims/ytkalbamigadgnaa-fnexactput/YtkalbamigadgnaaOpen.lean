/- A disk that came in as an argument: its sectors and late writes, and that they are not too many for any machine. -/
import Derived.Test.YtkalbamigadgnaaTo
import Derived.ProofKit
import Derived.OpenShut
import Derived.SizedLaws
import Derived.Lib.SmallJoins
import Derived.Deep.Strs
import Derived.Deep.SlicePairs
namespace Go.Proofs.Ytkalbamigadgnaa
open Go.ChangeShapes Go.WideShapes Go.ChangeAt Go.RowKit Go.Joins Go.Deep

theorem own : ownKnob Try.prog.godebug = none := by kernel_rfl
theorem laidOut : laidOutB Try.prog = true := by kernel_rfl
theorem Try.cells25 : Try.prog.cellsOf 25 = 2 := by kernel_rfl
theorem Try.cells9 : Try.prog.cellsOf 9 = 1 := by kernel_rfl
theorem Try.cells2 : Try.prog.cellsOf 2 = 1 := by kernel_rfl
theorem Try.cells68 : Try.prog.cellsOf 68 = 2 := by kernel_rfl
theorem Try.bytes9 : Try.prog.bytesOf 9 = 16 := by kernel_rfl
theorem Try.bytes68 : Try.prog.bytesOf 68 = 24 := by kernel_rfl

theorem add_eq (b o i : Nat) : (⟨b, o, none⟩ : Addr).add i = ⟨b, o + i, none⟩ := by
  unfold Addr.add
  by_cases h : i = 0
  · simp [h]
  · simp [h]

theorem spotless {w : World} {a : Addr} {v : Value} (h : w.cell? (a.add 0) = some v) : ∃ b o, a = ⟨b, o, none⟩ := by
  obtain ⟨b, o, s⟩ := a
  have : s = none := by simpa [Addr.add] using World.cell?_spot h
  exact ⟨b, o, by rw [this]⟩

theorem getD_map_range {α : Type} (f : Nat → α) (n i : Nat) (d : α) (h : i < n) : ((List.range n).map f).getD i d = f i := by
  simp [h]

theorem open_disk {H : Type} {enc : TypeId × Value → H} {W : World} {b0 : Nat} {v : Value} {d : DataW H} {p : List MemPlace} (hv : Value.okWide Try.prog W .any b0 25 v)
    (h : DataW.Trod enc Try.prog W 0 (fun _ => true) true 25 v d p) (hsz : ∀ x ∈ DataW.weights Try.prog 25 d, x ≤ 140737488351232) :
    ∃ c0 c1 ss ws, v = .agg #[c0, c1] ∧ SR W c0 ss ∧ WR W c1 ws ∧ ss.length ≤ 10000000000000 ∧ ws.length ≤ 10000000000000 := by
  obtain ⟨c0, c1, y0, y1, n, rfl, rfl, rfl, hy0, hy1⟩ := open_agg2 Try.underlying25 (by kernel_rfl) Try.cells25 hv h
  have hw : ∀ x, x ∈ DataW.weights Try.prog 22 y0.1 ∨ x ∈ DataW.weights Try.prog 23 y1.1 → x ≤ 140737488351232 := fun x hx => hsz x (by
    simp [DataW.weights, DataW.weightsEach, Try.underlying25]
    exact hx)
  have e0 : ∃ ss, SR W c0 ss ∧ ss.length ≤ 10000000000000 := by
    rcases open_strs Try.underlying22 Try.underlying9 Try.cells9 hy0 with ⟨hcs, _⟩ | ⟨a, len, cap, m, Sx, hcs, _, hl, hm, hmm, hx, hc⟩
    · obtain rfl : c0 = .slice none 0 0 := by simpa using hcs
      exact ⟨[], ⟨none, 0, rfl, fun i hi => by simp at hi⟩, by simp⟩
    · obtain rfl : c0 = .slice (some a) len cap := by simpa using hcs
      have hmc : m = cap := by simpa using hmm
      have hlen : len ≤ 10000000000000 := by
        have := hw ((((List.range len).map fun i => DataW.lit (H := H) (.string (Sx i).data.toList)).length + ((List.range (m - len)).map fun j => DataW.lit (H := H) (.string (Sx (len + j)).data.toList)).length) * Try.prog.bytesOf 9) (.inl (by
          rw [hx]
          simp [DataW.weights, Try.underlying22]))
        rw [Try.bytes9] at this
        simp at this
        omega
      refine ⟨(List.range len).map Sx, ⟨some a, cap, by simp, fun i hi => ?_⟩, by simpa using hlen⟩
      simp only [List.length_map, List.length_range] at hi
      have hci := (hc i (by omega)).1
      obtain ⟨b, o, rfl⟩ := spotless (hc 0 (by omega)).1
      refine ⟨b, o, rfl, ?_⟩
      rw [add_eq] at hci
      rw [getD_map_range _ _ _ _ hi]
      exact hci
  have e1 : ∃ ws, WR W c1 ws ∧ ws.length ≤ 10000000000000 := by
    rcases open_slice_pairs Try.underlying23 Try.underlying68 Try.cells68 rfl rfl Try.cells2 Try.cells9 hy1 with ⟨hcs, _⟩ | ⟨a, len, cap, m, k, V0, V1, D0, D1, P0, P1, hcs, _, hl, hm, hmm, hx, hc⟩
    · obtain rfl : c1 = .slice none 0 0 := by simpa using hcs
      exact ⟨[], ⟨none, 0, rfl, fun i hi => by simp at hi⟩, by simp⟩
    · obtain rfl : c1 = .slice (some a) len cap := by simpa using hcs
      have hmc : m = cap := by simpa using hmm
      have hlen : len ≤ 10000000000000 := by
        have := hw ((((List.range len).map fun i => DataW.agg [D0 i, D1 i]).length + ((List.range (m - len)).map fun j => DataW.agg [D0 (len + j), D1 (len + j)]).length) * Try.prog.bytesOf 68) (.inr (by
          rw [hx]
          simp [DataW.weights, Try.underlying23]))
        rw [Try.bytes68] at this
        simp at this
        omega
      obtain ⟨f, hf⟩ : ∃ f : Nat → Wr, ∀ i, i < len → V0 i = .int .i64 (f i).1 ∧ V1 i = .string (f i).2 := by
        have hh : ∀ i, i < len → ∃ x : Wr, V0 i = .int .i64 x.1 ∧ V1 i = .string x.2 := fun i hi => by
          obtain ⟨_, _, t0, t1⟩ := hc i (by omega)
          obtain ⟨z, hz, _⟩ := DataW.trod_int Try.underlying2 t0
          obtain ⟨s, hs, _⟩ := DataW.trod_string Try.underlying9 t1
          exact ⟨(z, s), by simpa using hz, by simpa using hs⟩
        exact ⟨fun i => if hi : i < len then Classical.choose (hh i hi) else wr0, fun i hi => by simp only [dif_pos hi]; exact Classical.choose_spec (hh i hi)⟩
      refine ⟨(List.range len).map f, ⟨some a, cap, by simp, fun i hi => ?_⟩, by simpa using hlen⟩
      simp only [List.length_map, List.length_range] at hi
      obtain ⟨hc0, hc1, _, _⟩ := hc i (by omega)
      have h00 := (hc 0 (by omega)).1
      rw [Nat.zero_mul] at h00
      obtain ⟨b, o, rfl⟩ := spotless h00
      rw [add_eq] at hc0 hc1
      obtain ⟨f0, f1⟩ := hf i hi
      refine ⟨b, o, rfl, ?_, ?_⟩
      · rw [getD_map_range _ _ _ _ hi, ← f0]
        exact hc0
      · rw [getD_map_range _ _ _ _ hi, ← f1]
        exact hc1
  obtain ⟨ss, hs, ls⟩ := e0
  obtain ⟨ws, hws, lw⟩ := e1
  exact ⟨c0, c1, ss, ws, rfl, hs, hws, ls, lw⟩

end Go.Proofs.Ytkalbamigadgnaa
