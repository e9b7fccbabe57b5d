/- markGraph of the laws. -/
import Derived.Test.YtabkiihlafhanaaZGMark
namespace Go.Proofs.Ytabkiihlafhanaa
open Go.RowKit

theorem markGraph_any (B : Nat) (vr vn : Value) (fv : Nat → Value) (g : Gr) (k : Int) (w : World) (hr : w.ownsRow B 2 1 vr g.roots.length (icells g.roots)) (hn : NOwn B w vn g.nodes fv) (ha : ∀ i, i < g.nodes.length → ∀ b, vr.ownBlock = some b → (fv i).ownBlock ≠ some b)
    (h0 : 0 < k) (h1 : mkK (k + g.roots.length) g.nodes g.nodes.length ≤ 1000000000000) (h2 : g.nodes.length ≤ 1000000000000) :
    Calls Try.prog 12 #[.agg #[vr, vn, .int .i64 g.hash], .int .i64 k] w fun e w' => (e = .returned (.int .i64 (mkK (k + g.roots.length) g.nodes g.nodes.length)) ∧ IR w' vr (imarks k g.roots.length) ∧ NR w' vn (nmk (k + g.roots.length) g.nodes)) ∧ Grew w w' (fun b => vr.ownBlock = some b ∨ vn.ownBlock = some b ∨ ∃ j, j < g.nodes.length ∧ (fv j).ownBlock = some b) := by
  have bb := mkK_bounds (k + g.roots.length) g.nodes g.nodes.length (Nat.le_refl _)
  obtain ⟨ra, rc, hvr⟩ := own_shape hr
  have hcap : ∃ ao cap, vr = .slice ao g.roots.length cap ∧ g.roots.length ≤ cap := by
    obtain ⟨ao, cap, e, hc, _⟩ := own_cell hr
    exact ⟨ao, cap, e, hc⟩
  have hnv : ∃ na nc, vn = .slice na g.nodes.length nc := by
    obtain ⟨xs, ho, _⟩ := hn
    exact own_shape ho
  obtain ⟨na, nc, hnv⟩ := hnv
  have hb0 := bel_one w (.cells #[vr, vn, .int .i64 g.hash] 28)
  have R0 := graphC w vr vn g.hash 28
  have hr0 := own_later hr hb0
  have hn0 := (Grew.new hb0 (fun _ => False)).nown hn (fun _ q => q.elim)
  have E1 := markInt64S_any vr g.roots.length k _ (OS_of_owns hr0) hcap h0 (by omega)
  have vrl : ∀ b, vr.ownBlock = some b → B ≤ b ∧ b < w.heap.size := fun b e => hr.lt b e
  have NV : Hid (∀ w1, (w.alloc (.cells #[vr, vn, .int .i64 g.hash] 28)).grownBy w1 (Disk.rowOf vr g.roots.length) → NOwn B w1 vn g.nodes fv) := fun w1 g1 => by
    have G1 : Grew _ w1 (fun b => vr.ownBlock = some b) := (Grew.grown g1).mono fun b _ e => rowOf_own e
    obtain ⟨xs, ho, ht, hf, hp⟩ := hn0
    exact ⟨xs, G1.own ho (fun b e q => type_ne hr0 ho (by decide) q e), ht, fun i hi => G1.own (hf i hi) (fun b e q => ha i hi b q e), hp⟩
  have E2 := fun W q => markNodeS_any B vn g.nodes fv (k + g.roots.length) W q (by omega) h1 h2
  have TN : Hid (∀ b, vr.ownBlock = some b → vn.ownBlock ≠ some b) := fun b e => by
    obtain ⟨xs, ho, _⟩ := hn
    exact type_ne hr ho (by decide) e
  have HA : Hid (∀ i, i < g.nodes.length → ∀ b, vr.ownBlock = some b → (fv i).ownBlock ≠ some b) := ha
  have IB : Hid (∀ b, inB vr b → vr.ownBlock = some b) := fun b e => inB_own hr e
  generalize mkK (k + g.roots.length) g.nodes g.nodes.length = z at *
  clear hr hn hr0 hn0 ha hcap
  subst hvr hnv
  go_enter Try.func12, Try.ntmps12
  go_wp2_with fail
  refine E1.mono ?_
  rintro e w1 ⟨rfl, g1, m1⟩
  have G1 : Grew w w1 (fun b => Value.ownBlock (.slice ra g.roots.length rc) = some b) := (Grew.new hb0 _).trans ((Grew.grown g1).mono fun b _ e => rowOf_own e)
  have Q0 := (Grew.grown g1).row R0 (fun e => by have := (vrl _ (rowOf_own e)).2; omega)
  have a1 : w1.cell? ⟨w.heap.size, 1, none⟩ = some (.slice na g.nodes.length nc) := Q0.cell (i := 1) (by omega)
  have N1 := NV.out w1 g1
  go_wp2_with fail
  refine (E2 w1 N1).mono ?_
  rintro e w2 ⟨⟨rfl, n2⟩, g2⟩
  have FIN : Hid (IR w2 (.slice ra g.roots.length rc) (imarks k g.roots.length) ∧ Grew w w2 (fun b => Value.ownBlock (.slice ra g.roots.length rc) = some b ∨ Value.ownBlock (.slice na g.nodes.length nc) = some b ∨ ∃ j, j < g.nodes.length ∧ (fv j).ownBlock = some b)) := by
    refine ⟨g2.ir m1 (fun b e q => ?_), (G1.mono fun b _ e => .inl e).trans (g2.mono fun b _ e => .inr e)⟩
    have ev := IB.out b e
    rcases q with q | ⟨j, hj, q⟩
    · exact TN.out b ev q
    · exact HA.out j hj b ev q
  go_wp2
  go_ret
  exact ⟨⟨rfl, FIN.out.1, n2⟩, FIN.out.2⟩

end Go.Proofs.Ytabkiihlafhanaa
