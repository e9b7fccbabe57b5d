/- A graph that came in as an argument. -/
import Derived.Test.YtnppoeifhmkphaaGreatDoorZGLawK
import Derived.Lib.LaidTab
import Derived.LaidMore
import Derived.ChangeSlices
import Derived.Deep.Slices
import Derived.ProofKit
import Derived.OpenShut
import Derived.SizedLaws
import Derived.RowKitTokens
import Derived.Lib.SmallJoins
namespace Go.Proofs.YtnppoeifhmkphaaGreatDoor
open Go.ChangeShapes Go.WideShapes Go.ChangeAt Go.RowKit Go.Joins

theorem Tryz.ocells2 : Tryz.prog.cellsOf 2 = 1 := by kernel_rfl
theorem Tryz.obytes2 : Tryz.prog.bytesOf 2 = 8 := by kernel_rfl
theorem Tryz.ocellsI : Tryz.prog.cellsOf 22 = 1 := by kernel_rfl
theorem Tryz.ocellsG : Tryz.prog.cellsOf 25 = 3 := by kernel_rfl
theorem Tryz.ocellsNs : Tryz.prog.cellsOf 23 = 1 := by kernel_rfl
theorem Tryz.ocellsN : Tryz.prog.cellsOf 56 = 3 := by kernel_rfl
theorem Tryz.obytesN : Tryz.prog.bytesOf 56 = 40 := by kernel_rfl
theorem own : ownKnob Tryz.prog.godebug = none := by kernel_rfl
theorem laidOut : laidOutB Tryz.prog = true := by kernel_rfl
theorem reach_eq : reachBytes = 140737488351232 := rfl
theorem add_eq (b o i : Nat) : (⟨b, o, none⟩ : Addr).add i = ⟨b, o + i, none⟩ := by
  unfold Addr.add
  by_cases h : i = 0
  · simp [h]
  · simp [h]
theorem spotless {w : World} {a : Addr} {v : Value} (h : w.cell? (a.add 0) = some v) : ∃ b o, a = ⟨b, o, none⟩ := by
  obtain ⟨b, o, s⟩ := a
  have : s = none := by simpa [Addr.add] using World.cell?_spot h
  exact ⟨b, o, by rw [this]⟩
theorem array3 {α : Type} {cs : Array α} (h : cs.size = 3) : ∃ c0 c1 c2, cs = #[c0, c1, c2] := by
  obtain ⟨l⟩ := cs
  match l, h with
  | [c0, c1, c2], _ => exact ⟨c0, c1, c2, rfl⟩
theorem list3 {α : Type} {cs : List α} (h : cs.length = 3) : ∃ c0 c1 c2, cs = [c0, c1, c2] := by
  match cs, h with
  | [c0, c1, c2], _ => exact ⟨c0, c1, c2, rfl⟩
theorem g64_of {n : Int} (h : (Lit.int .i64 n).wf = true) : g64 n := by
  have m0 : IntKind.i64.min = -9223372036854775808 := by rfl
  have m1 : IntKind.i64.max = 9223372036854775807 := by rfl
  simp only [Lit.wf, Bool.and_eq_true, decide_eq_true_eq, m0, m1] at h
  exact h
theorem weights_all {H : Type} {P : Program} {e : TypeId} {x : Nat} : ∀ (ds : List (DataW H)) (d : DataW H), d ∈ ds → x ∈ DataW.weights P e d → x ∈ DataW.weightsAll P e ds
  | [], _, h, _ => by simp at h
  | c :: r, d, h, hx => by
    simp only [DataW.weightsAll, List.mem_append]
    rcases List.mem_cons.1 h with rfl | h
    · exact .inl hx
    · exact .inr (weights_all r d h hx)

theorem open_gnums {H : Type} {enc : TypeId × Value → H} {W : World} {n : Nat} {c : Value} {y : DataW H × List MemPlace} (h : DataW.trod enc Tryz.prog W 0 (fun _ => true) true n 22 [c] = some y)
    (hw : ∀ x, x ∈ DataW.weights Tryz.prog 22 y.1 → x ≤ 140737488351232) : ∃ l, IR W c l ∧ l.length ≤ 100000000000000 ∧ ∀ x, x ∈ l → g64 x := by
  rcases open_ints Tryz.underlying22 Tryz.underlying2 Tryz.ocells2 h with ⟨hcs, hx⟩ | ⟨a, len, cap, zs, hcs, _, hl, hm, hz, hx, hcell, hwz⟩
  · obtain rfl : c = .slice none 0 0 := by simpa using hcs
    exact ⟨[], ⟨none, 0, rfl, Nat.le_refl _, fun i hi => by simp at hi⟩, by simp, by simp⟩
  · obtain rfl : c = .slice (some a) len cap := by simpa using hcs
    simp only [if_true] at hz
    have e : (zs.take len).length = len := by rw [List.length_take]; omega
    have hlen : len ≤ 100000000000000 := by
      have := hw (((lits .i64 (zs.take len) : List (DataW H)).length + (lits .i64 (zs.drop len) : List (DataW H)).length) * Tryz.prog.bytesOf 2) (by
        rw [hx]
        simp [DataW.weights, Tryz.underlying22])
      rw [Tryz.obytes2] at this
      have q : (lits .i64 (zs.take len) : List (DataW H)).length = len := by simpa [lits] using e
      rw [q] at this
      omega
    refine ⟨zs.take len, ⟨some a, cap, by rw [e], by rw [e]; exact hl, fun i hi => ?_⟩, by rw [e]; exact hlen, fun x hx => g64_of (hwz x (List.mem_of_mem_take hx))⟩
    have hi' : i < len := by omega
    obtain ⟨b, o, rfl⟩ := spotless (hcell 0 (by omega))
    have hci := hcell i (by omega)
    rw [add_eq] at hci
    refine ⟨b, o, rfl, ?_⟩
    rw [hci]
    simp [List.getD_eq_getElem?_getD, hi']

/-- What the three cells of a node tell. -/
structure NdAt (W : World) (a : Addr) (n : Nd) : Prop where
  c0 : W.cell? (a.add 0) = some (.int .i64 n.cls)
  c1 : W.cell? (a.add 1) = some (.int .i64 n.hash)
  c2 : ∃ fa fn fc, W.cell? (a.add 2) = some (.slice fa fn fc) ∧ IR W (.slice fa fn fc) n.fl
  l : n.fl.length ≤ 1000000000000000
  b : nd64 n

set_option maxRecDepth 100000 in
set_option maxHeartbeats 1600000 in
theorem open_node {H : Type} {enc : TypeId × Value → H} {W : World} {n : Nat} {a : Addr} {cs : List Value} {y : DataW H × List MemPlace} (hc : W.cells? 0 a 3 = some cs) (h : DataW.trod enc Tryz.prog W 0 (fun _ => true) true n 56 cs = some y)
    (hw : ∀ x, x ∈ DataW.weights Tryz.prog 56 y.1 → x ≤ 140737488351232) : ∃ m, NdAt W a m := by
  obtain ⟨_, hlen, hcell⟩ := World.cells?_some hc
  obtain ⟨xs, k, _, hx, _, hxl, hfl⟩ := DataW.trod_struct Tryz.underlying56 h
  obtain ⟨y0, y1, y2, rfl⟩ := list3 hxl
  obtain ⟨v0, v1, v2, rfl⟩ := list3 hlen
  have g0 := hfl 0 _ rfl
  have g1 := hfl 1 _ rfl
  have g2 := hfl 2 _ rfl
  clear hfl hxl
  have e0 := hcell 0 (by omega)
  have e1 := hcell 1 (by omega)
  have e2 := hcell 2 (by omega)
  obtain ⟨yd, yp⟩ := y
  simp only [Prod.mk.injEq, List.map_cons, List.map_nil] at hx
  obtain ⟨rfl, _⟩ := hx
  simp [Tryz.ocellsI, Tryz.ocells2] at g0 g1 g2 e0 e1 e2
  obtain ⟨z0, q0, _, w0⟩ := DataW.trod_int Tryz.underlying2 g0
  obtain ⟨z1, q1, _, w1⟩ := DataW.trod_int Tryz.underlying2 g1
  simp only [List.cons.injEq, and_true] at q0 q1
  subst q0 q1
  obtain ⟨l, r, b, x⟩ := open_gnums g2 (fun x hx => hw x (by simp [DataW.weights, DataW.weightsEach, Tryz.underlying56, hx]))
  obtain ⟨fa, fc, rfl, _, _⟩ := id r
  exact ⟨⟨z0, z1, l⟩, e0, e1, ⟨fa, _, fc, e2, r⟩, by show l.length ≤ _; omega, g64_of w0, g64_of w1, x⟩

set_option maxRecDepth 100000 in
set_option maxHeartbeats 1600000 in
theorem open_nodes {H : Type} {enc : TypeId × Value → H} {W : World} {n : Nat} {c : Value} {y : DataW H × List MemPlace} (h : DataW.trod enc Tryz.prog W 0 (fun _ => true) true n 23 [c] = some y)
    (hw : ∀ x, x ∈ DataW.weights Tryz.prog 23 y.1 → x ≤ 140737488351232) : ∃ ns, NR W c ns ∧ ns.length ≤ 100000000000000 ∧ ∀ m, m ∈ ns → m.fl.length ≤ 1000000000000000 ∧ nd64 m := by
  rcases Deep.open_slice Tryz.underlying23 h with ⟨hcs, hx⟩ | ⟨a, len, cap, m, k, D, Pl, hcs, _, hl, hm, hmm, hx, hc⟩
  · obtain rfl : c = .slice none 0 0 := by simpa using hcs
    exact ⟨[], ⟨none, 0, rfl, Nat.le_refl _, fun i hi => by simp at hi⟩, by simp, by simp⟩
  · obtain rfl : c = .slice (some a) len cap := by simpa using hcs
    have hmc : m = cap := by simpa using hmm
    subst hmc
    rw [hx] at hw
    rw [Tryz.ocellsN] at hc
    have hlen : len ≤ 100000000000000 := by
      have := hw ((((List.range len).map D).length + ((List.range (m - len)).map fun j => D (len + j)).length) * Tryz.prog.bytesOf 56) (by
        simp [DataW.weights, Tryz.underlying23])
      rw [Tryz.obytesN] at this
      simp at this
      omega
    have hh : ∀ i, i < len → ∃ x : Nd, NdAt W (a.add (i * 3)) x := fun i hi => by
      obtain ⟨cs, h1, h2⟩ := hc i (by omega)
      refine open_node h1 h2 (fun x hx => hw x ?_)
      have := weights_all (P := Tryz.prog) (e := 56) (x := x) ((List.range len).map D) (D i) (List.mem_map.2 ⟨i, List.mem_range.2 hi, rfl⟩) hx
      simp [DataW.weights, Tryz.underlying23, this]
    obtain ⟨f, hf⟩ : ∃ f : Nat → Nd, ∀ i, i < len → NdAt W (a.add (i * 3)) (f i) := ⟨fun i => if hi : i < len then Classical.choose (hh i hi) else nd0, fun i hi => by simp only [dif_pos hi]; exact Classical.choose_spec (hh i hi)⟩
    have e : ((List.range len).map f).length = len := by simp
    refine ⟨(List.range len).map f, ⟨some a, m, by rw [e], by rw [e]; exact hl, fun i hi => ?_⟩, by rw [e]; exact hlen, fun x hx => ?_⟩
    · rw [e] at hi
      have h0 := (hf 0 (by omega)).c0
      rw [Nat.zero_mul] at h0
      obtain ⟨b, o, rfl⟩ := spotless (a := a) (by simpa [Addr.add] using h0)
      have hi' := hf i hi
      obtain ⟨fa, fn, fc, c2, r⟩ := hi'.c2
      have c0 := hi'.c0
      have c1 := hi'.c1
      rw [add_eq, add_eq] at c0 c1 c2
      have eg : ((List.range len).map f).getD i nd0 = f i := by simp [hi]
      exact ⟨b, o, fa, fn, fc, rfl, by rw [eg]; simpa using c0, by rw [eg]; exact c1, c2, by rw [eg]; exact r⟩
    · obtain ⟨i, hi, rfl⟩ := List.mem_map.1 hx
      have := hf i (List.mem_range.1 hi)
      exact ⟨this.l, this.b⟩

set_option maxRecDepth 100000 in
set_option maxHeartbeats 1600000 in
theorem open_graph {H : Type} {enc : TypeId × Value → H} {W : World} {b0 : Nat} {v : Value} {d : DataW H} {p : List MemPlace} (hv : Value.okWide Tryz.prog W .any b0 25 v)
    (h : DataW.Trod enc Tryz.prog W 0 (fun _ => true) true 25 v d p) (hsz : ∀ x ∈ DataW.weights Tryz.prog 25 d, x ≤ 140737488351232) :
    ∃ g : Gr, GR W v g ∧ GArg g := by
  obtain ⟨cs, rfl, hcs⟩ := okWide_struct Tryz.underlying25 hv
  obtain ⟨c0, c1, c2, rfl⟩ := array3 (hcs.trans Tryz.ocellsG)
  obtain ⟨fuel, hf⟩ := h
  obtain ⟨xs, n, _, hx, hl, hlen, hfl⟩ := DataW.trod_struct Tryz.underlying25 hf
  obtain ⟨y0, y1, y2, rfl⟩ := list3 hlen
  have g0 := hfl 0 _ rfl
  have g1 := hfl 1 _ rfl
  have g2 := hfl 2 _ rfl
  clear hfl hlen hl
  simp only [Prod.mk.injEq, List.map_cons, List.map_nil] at hx
  obtain ⟨rfl, _⟩ := hx
  simp [Value.cells, Tryz.ocellsI, Tryz.ocells2, Tryz.ocellsNs] at g0 g1 g2
  obtain ⟨z2, e2, _⟩ := DataW.trod_int Tryz.underlying2 g2
  simp only [List.cons.injEq, and_true] at e2
  subst e2
  obtain ⟨l0, r0, b0, rb0⟩ := open_gnums g0 (fun x hx => hsz x (by simp [DataW.weights, DataW.weightsEach, Tryz.underlying25, hx]))
  obtain ⟨l1, r1, b1, m1⟩ := open_nodes g1 (fun x hx => hsz x (by simp [DataW.weights, DataW.weightsEach, Tryz.underlying25, hx]))
  exact ⟨⟨l0, l1, z2⟩, ⟨c0, c1, rfl, r0, r1⟩, by show l0.length ≤ _; omega, by show l1.length ≤ _; omega, fun n hn => (m1 n hn).1, fun n hn => (m1 n hn).2, rb0⟩

theorem gPow : Tryz.prog.globalNamed gpow = some 0 := by kernel_rfl
theorem tPow : (Tryz.prog.globals[0]?).map (·.type) = some 150 := by kernel_rfl
theorem Tryz.ocells68 : Tryz.prog.cellsOf 121 = 1 := by kernel_rfl
theorem Tryz.ocells93 : Tryz.prog.cellsOf 150 = 20 := by kernel_rfl
theorem powDatum : Rows.laid_internal_strconv_uint64pow10 (H := Unit) = Lib.tabData .u64 Lib.pow10Tab := by kernel_rfl
theorem gtb_of_met {W : World} {r : List (String × DataW Unit)} (h : laidMet Tryz.prog ((gpow, Rows.laid_internal_strconv_uint64pow10) :: r) W) : GTb W := by
  rw [powDatum] at h
  exact Lib.tabIs_of_head gPow tPow Tryz.underlying150 Tryz.underlying121 Tryz.ocells68 Tryz.ocells93 h

end Go.Proofs.YtnppoeifhmkphaaGreatDoor
