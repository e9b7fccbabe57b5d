/- A heap that came in as an argument. -/
import Derived.Test.YtklafifiphbibaaGreatZHSpecP
import Derived.ChangeSlices
import Derived.ProofKit
import Derived.OpenShut
import Derived.SizedLaws
import Derived.Lib.SmallJoins
namespace Go.Proofs.YtklafifiphbibaaGreat
open Go.ChangeShapes Go.WideShapes Go.ChangeAt Go.RowKit Go.Joins

theorem Tryz.cells2 : Tryz.prog.cellsOf 2 = 1 := by kernel_rfl
theorem Tryz.bytes2 : Tryz.prog.bytesOf 2 = 8 := by kernel_rfl
theorem Tryz.cellsHp : Tryz.prog.cellsOf 36 = 8 := by kernel_rfl
theorem own : ownKnob Tryz.prog.godebug = none := by kernel_rfl
theorem laidOut : laidOutB Tryz.prog = true := by kernel_rfl
theorem reach_eq : reachBytes = 140737488351232 := rfl
theorem add_eq (b o i : Nat) : (⟨b, o, none⟩ : Addr).add i = ⟨b, o + i, none⟩ := by
  unfold Addr.add
  by_cases h : i = 0
  · simp [h]
  · simp [h]
theorem spotless {w : World} {a : Addr} {v : Value} (h : w.cell? (a.add 0) = some v) : ∃ b o, a = ⟨b, o, none⟩ := by
  obtain ⟨b, o, s⟩ := a
  have : s = none := by simpa [Addr.add] using World.cell?_spot h
  exact ⟨b, o, by rw [this]⟩
theorem array8 {α : Type} {cs : Array α} (h : cs.size = 8) : ∃ c0 c1 c2 c3 c4 c5 c6 c7, cs = #[c0, c1, c2, c3, c4, c5, c6, c7] := by
  obtain ⟨l⟩ := cs
  match l, h with
  | [c0, c1, c2, c3, c4, c5, c6, c7], _ => exact ⟨c0, c1, c2, c3, c4, c5, c6, c7, rfl⟩
theorem list8 {α : Type} {cs : List α} (h : cs.length = 8) : ∃ c0 c1 c2 c3 c4 c5 c6 c7, cs = [c0, c1, c2, c3, c4, c5, c6, c7] := by
  match cs, h with
  | [c0, c1, c2, c3, c4, c5, c6, c7], _ => exact ⟨c0, c1, c2, c3, c4, c5, c6, c7, rfl⟩

theorem open_nums {H : Type} {enc : TypeId × Value → H} {W : World} {n : Nat} {c : Value} {y : DataW H × List MemPlace} (h : DataW.trod enc Tryz.prog W 0 (fun _ => true) true n 24 [c] = some y)
    (hw : ∀ x, x ∈ DataW.weights Tryz.prog 24 y.1 → x ≤ 140737488351232) : ∃ l, IR W c l ∧ l.length ≤ 100000000000000 := by
  rcases open_ints Tryz.underlying24 Tryz.underlying2 Tryz.cells2 h with ⟨hcs, hx⟩ | ⟨a, len, cap, zs, hcs, _, hl, hm, hz, hx, hcell, hwz⟩
  · obtain rfl : c = .slice none 0 0 := by simpa using hcs
    exact ⟨[], ⟨none, 0, rfl, Nat.le_refl _, fun i hi => by simp at hi⟩, by simp⟩
  · obtain rfl : c = .slice (some a) len cap := by simpa using hcs
    simp only [if_true] at hz
    have e : (zs.take len).length = len := by rw [List.length_take]; omega
    have hlen : len ≤ 100000000000000 := by
      have := hw (((lits .i64 (zs.take len) : List (DataW H)).length + (lits .i64 (zs.drop len) : List (DataW H)).length) * Tryz.prog.bytesOf 2) (by
        rw [hx]
        simp [DataW.weights, Tryz.underlying24])
      rw [Tryz.bytes2] at this
      have q : (lits .i64 (zs.take len) : List (DataW H)).length = len := by simpa [lits] using e
      rw [q] at this
      omega
    refine ⟨zs.take len, ⟨some a, cap, by rw [e], by rw [e]; exact hl, fun i hi => ?_⟩, by rw [e]; exact hlen⟩
    have hi' : i < len := by omega
    obtain ⟨b, o, rfl⟩ := spotless (hcell 0 (by omega))
    have hci := hcell i (by omega)
    rw [add_eq] at hci
    refine ⟨b, o, rfl, ?_⟩
    rw [hci]
    simp [List.getD_eq_getElem?_getD, hi']

set_option maxRecDepth 100000 in
set_option maxHeartbeats 1600000 in
theorem open_heap {H : Type} {enc : TypeId × Value → H} {W : World} {b0 : Nat} {v : Value} {d : DataW H} {p : List MemPlace} (hv : Value.okWide Tryz.prog W .any b0 36 v)
    (h : DataW.Trod enc Tryz.prog W 0 (fun _ => true) true 36 v d p) (hsz : ∀ x ∈ DataW.weights Tryz.prog 36 d, x ≤ 140737488351232) :
    ∃ (v1 v2 v3 : Value) (hp : Hp), v = .agg #[v1, v2, .int .i64 hp.old, .int .i64 hp.eden, .int .i64 hp.surv, .bool hp.flip, .int .i64 hp.hash, v3] ∧ IR W v1 hp.words ∧ IR W v2 hp.roots ∧ IR W v3 hp.kept ∧ hp.words.length ≤ 1000000000000000 ∧ hp.roots.length ≤ 1000000000000000 ∧ hp.kept.length ≤ 1000000000000000 := by
  obtain ⟨cs, rfl, hcs⟩ := okWide_struct Tryz.underlying36 hv
  obtain ⟨c0, c1, c2, c3, c4, c5, c6, c7, rfl⟩ := array8 (hcs.trans Tryz.cellsHp)
  obtain ⟨fuel, hf⟩ := h
  obtain ⟨xs, n, _, hx, hl, hlen, hfl⟩ := DataW.trod_struct Tryz.underlying36 hf
  obtain ⟨y0, y1, y2, y3, y4, y5, y6, y7, rfl⟩ := list8 hlen
  have g0 := hfl 0 _ rfl
  have g1 := hfl 1 _ rfl
  have g2 := hfl 2 _ rfl
  have g3 := hfl 3 _ rfl
  have g4 := hfl 4 _ rfl
  have g5 := hfl 5 _ rfl
  have g6 := hfl 6 _ rfl
  have g7 := hfl 7 _ rfl
  clear hfl hlen hl
  simp only [Prod.mk.injEq, List.map_cons, List.map_nil] at hx
  obtain ⟨rfl, _⟩ := hx
  have cI : Tryz.prog.cellsOf 24 = 1 := by kernel_rfl
  have c4' : Tryz.prog.cellsOf 4 = 1 := by kernel_rfl
  simp [Value.cells, cI, c4', Tryz.cells2] at g0 g1 g2 g3 g4 g5 g6 g7
  obtain ⟨z2, e2, _⟩ := DataW.trod_int Tryz.underlying2 g2
  obtain ⟨z3, e3, _⟩ := DataW.trod_int Tryz.underlying2 g3
  obtain ⟨z4, e4, _⟩ := DataW.trod_int Tryz.underlying2 g4
  obtain ⟨z5, e5, _⟩ := DataW.trod_bool Tryz.underlying4 g5
  obtain ⟨z6, e6, _⟩ := DataW.trod_int Tryz.underlying2 g6
  simp only [List.cons.injEq, and_true] at e2 e3 e4 e5 e6
  subst e2 e3 e4 e5 e6
  obtain ⟨l1, r1, b1⟩ := open_nums g0 (fun x hx => hsz x (by simp [DataW.weights, DataW.weightsEach, Tryz.underlying36, hx]))
  obtain ⟨l2, r2, b2⟩ := open_nums g1 (fun x hx => hsz x (by simp [DataW.weights, DataW.weightsEach, Tryz.underlying36, hx]))
  obtain ⟨l3, r3, b3⟩ := open_nums g7 (fun x hx => hsz x (by simp [DataW.weights, DataW.weightsEach, Tryz.underlying36, hx]))
  exact ⟨c0, c1, c7, ⟨l1, l2, z2, z3, z4, z5, z6, l3⟩, rfl, r1, r2, r3, by show l1.length ≤ _; omega, by show l2.length ≤ _; omega, by show l3.length ≤ _; omega⟩

end Go.Proofs.YtklafifiphbibaaGreat
