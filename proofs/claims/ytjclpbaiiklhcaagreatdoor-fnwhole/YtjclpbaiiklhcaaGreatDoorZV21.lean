import Derived.Test.YtjclpbaiiklhcaaGreatDoorZDrawDw
import Derived.Test.YtjclpbaiiklhcaaGreatDoorZV3
import Derived.Deep.AppendSrc
import Derived.Deep.Upon
import Derived.Laws.AppendOwn
import Derived.Test.YtjclpbaiiklhcaaGreatDoorZV5
import Derived.Test.YtjclpbaiiklhcaaGreatDoorZV20
import Derived.Test.YtjclpbaiiklhcaaGreatDoorZV9
import Derived.Test.YtjclpbaiiklhcaaGreatDoorZV17
/- DrawPut of the model. -/
namespace Go.Proofs.YtjclpbaiiklhcaaGreatDoor
open Go.RowKit

theorem sr_keep {N B : Nat} {v : Value} {w w' : World} {ss : List ByteArray} (h : Disk.SR w v ss) (l : Low B v) (hN : N < B) (g : w.grownBy w' (some N)) : Disk.SR w' v ss := by
  obtain ⟨ao, cap, rfl, hc⟩ := h
  refine ⟨ao, cap, rfl, fun i hi => ?_⟩
  obtain ⟨b, o, rfl, hx⟩ := hc i hi
  have hb : B ≤ b := l _ _ _ rfl (by omega)
  exact ⟨b, o, rfl, g.cell hx (fun e => by have e2 : b = N := Option.some.inj e; omega)⟩
theorem wr_keep {N B : Nat} {v : Value} {w w' : World} {ws : List Disk.Wr} (h : Disk.WR w v ws) (l : Low B v) (hN : N < B) (g : w.grownBy w' (some N)) : Disk.WR w' v ws := by
  obtain ⟨ao, cap, rfl, hc⟩ := h
  refine ⟨ao, cap, rfl, fun i hi => ?_⟩
  obtain ⟨b, o, rfl, hx, hy⟩ := hc i hi
  have hb : B ≤ b := l _ _ _ rfl (by omega)
  exact ⟨b, o, rfl, g.cell hx (fun e => by have e2 : b = N := Option.some.inj e; omega), g.cell hy (fun e => by have e2 : b = N := Option.some.inj e; omega)⟩

theorem bx_off {W : World} {D R : Nat} {u1 u2 : Value} (h : Bx W D u1 u2) (hne : D ≠ R) (x y : Value) : Bx ((W.setCell ⟨R, 0, none⟩ x).setCell ⟨R, 1, none⟩ y) D u1 u2 := h.grown (gset (gset1 W R 0 x) 1 y) (fun e => hne (Option.some.inj e))
theorem sr_off {W : World} {R B : Nat} {v x y : Value} {ss : List ByteArray} (h : Disk.SR W v ss) (l : Low B v) (hR : R < B) : Disk.SR ((W.setCell ⟨R, 0, none⟩ x).setCell ⟨R, 1, none⟩ y) v ss := sr_keep h l hR (gset (gset1 W R 0 x) 1 y)
theorem wr_off {W : World} {R B : Nat} {v x y : Value} {ws : List Disk.Wr} (h : Disk.WR W v ws) (l : Low B v) (hR : R < B) : Disk.WR ((W.setCell ⟨R, 0, none⟩ x).setCell ⟨R, 1, none⟩ y) v ws := wr_keep h l hR (gset (gset1 W R 0 x) 1 y)


end Go.Proofs.YtjclpbaiiklhcaaGreatDoor

/- Draws below numbers beyond 256. -/
namespace Go.Proofs.YtjclpbaiiklhcaaGreatDoor
open Go.RowKit

set_option maxRecDepth 100000 in
set_option maxHeartbeats 1600000 in
theorem Dw.wide {N : Nat} {cv : Value} {cs : List UInt8} {w : World} (h : Dw N cv cs w) (n : Int) (h0 : 256 < n) (h1 : n ≤ 1000000) :
    Calls Tryz.prog 33 #[.pointer (some ⟨N, 0, none⟩), .int .i64 n] w fun x w' => (∃ z : Int, x = .returned (.int .i64 z) ∧ 0 ≤ z ∧ z < n) ∧ w.grownBy w' (some N) ∧ Dw N cv cs w' := by
  have B := h.byte
  have e1 : decide (n ≤ 0) = false := by simp; omega
  have e2 : decide (n ≤ 256) = false := by simp; omega
  go_enter Tryz.func33, Tryz.ntmps33
  go_wp2_with fail
  refine B.mono ?_
  rintro x w1 ⟨⟨z1, rfl, p1, q1⟩, g1, d1⟩
  clear B
  go_wp2_with fail
  refine d1.byte.mono ?_
  rintro x w2 ⟨⟨z2, rfl, p2, q2⟩, g2, d2⟩
  go_wp2_with fail
  refine d2.byte.mono ?_
  rintro x w3 ⟨⟨z3, rfl, p3, q3⟩, g3, d3⟩
  go_wp2_with fail
  refine d3.byte.mono ?_
  rintro x w4 ⟨⟨z4, rfl, p4, q4⟩, g4, d4⟩
  have nz : ¬ n = 0 := by omega
  have G := gtrans (gtrans (gtrans g1 g2) g3) g4
  clear g1 g2 g3 g4 d1 d2 d3
  have z0 : 0 ≤ z1 * 16777216 + z2 * 65536 + z3 * 256 + z4 := by omega
  have hm : Int.tmod (z1 * 16777216 + z2 * 65536 + z3 * 256 + z4) n = (z1 * 16777216 + z2 * 65536 + z3 * 256 + z4) % n := Int.tmod_eq_emod_of_nonneg z0
  have hm0 : 0 ≤ (z1 * 16777216 + z2 * 65536 + z3 * 256 + z4) % n := Int.emod_nonneg _ nz
  have hm1 : (z1 * 16777216 + z2 * 65536 + z3 * 256 + z4) % n < n := Int.emod_lt_of_pos _ (by omega)
  go_wp2
  go_ret
  exact ⟨⟨_, rfl, by first | omega | (rw [hm]; omega), by first | omega | (rw [hm]; omega)⟩, G, d4⟩
theorem Dw.less {N : Nat} {cv : Value} {cs : List UInt8} {w : World} (h : Dw N cv cs w) (n : Int) (h0 : 0 < n) (h1 : n ≤ 1000000) :
    Calls Tryz.prog 33 #[.pointer (some ⟨N, 0, none⟩), .int .i64 n] w fun x w' => (∃ z : Int, x = .returned (.int .i64 z) ∧ 0 ≤ z ∧ z < n) ∧ w.grownBy w' (some N) ∧ Dw N cv cs w' := by
  by_cases k : n ≤ 256
  · exact h.below n h0 k
  · exact h.wide n (by omega) h1
set_option maxHeartbeats 1600000 in
theorem Dw.fromI {N : Nat} {cv : Value} {cs : List UInt8} {w : World} (h : Dw N cv cs w) (lo hi : Int) (h0 : 0 < hi - lo + 1) (h1 : hi - lo + 1 ≤ 1000000) (l0 : -1000000 ≤ lo) (l1 : lo ≤ 1000000) :
    Calls Tryz.prog 36 #[.pointer (some ⟨N, 0, none⟩), .int .i64 lo, .int .i64 hi] w fun x w' => (∃ z : Int, x = .returned (.int .i64 z) ∧ lo ≤ z ∧ z ≤ hi) ∧ w.grownBy w' (some N) ∧ Dw N cv cs w' := by
  have B := h.less (hi - lo + 1) h0 h1
  go_enter Tryz.func36, Tryz.ntmps36
  go_wp2_with fail
  refine B.mono ?_
  rintro x w1 ⟨⟨z, rfl, z0, z1⟩, g1, d1⟩
  go_wp2
  go_ret
  exact ⟨⟨_, rfl, by omega, by omega⟩, g1, d1⟩

end Go.Proofs.YtjclpbaiiklhcaaGreatDoor

/- A text of bytes that is being bent: rows of bytes read, cut, set and appended. -/
namespace Go.Proofs.YtjclpbaiiklhcaaGreatDoor
open Go.RowKit Go.Deep

def ucq (l : List UInt8) : List Value := l.map fun x => .int .u8 (x.toNat : Int)
theorem ucq_len (l : List UInt8) : (ucq l).length = l.length := by simp [ucq]
theorem ucq_at {l : List UInt8} {i : Nat} (h : i < l.length) : (ucq l)[i]? = some (.int .u8 (l[i].toNat : Int)) := by simp [ucq, h]
theorem Tryz.infoUQ : (Tryz.prog.info? 5).map (fun i => (i.zero, i.size, i.bytes)) = some (some (.int .u8 0), 1, 1) := by kernel_rfl
theorem Tryz.underUQ : Tryz.prog.underlying 22 = some (.slice 5) := by kernel_rfl
theorem own_noneQ (w : World) (B : Nat) (hB : B ≤ w.heap.size) : (w.alloc (.cells #[] 5)).ownsRow B 5 1 (.slice (some ⟨w.heap.size, 0, none⟩) 0 0) 0 (ucq []) :=
  ⟨by simp [ucq], .inr ⟨w.heap.size, 0, #[], rfl, hB, heap_alloc_new w _, Nat.le_refl _, by unfold maxLen; omega, by simp, by simp [ucq]⟩⟩
theorem own_offQ {w w' : World} {B e size n N : Nat} {v : Value} {xs : List Value} (h : w.ownsRow B e size v n xs) (hg : w.grownBy w' (some N)) (hN : N < B) : w'.ownsRow B e size v n xs :=
  h.kept hg (by
    cases hv : v.ownBlock with
    | none => exact .inl rfl
    | some k => exact .inr (fun e => by have := (h.lt k hv).1; have e2 := Option.some.inj e; omega))

/-- Bytes that can be read: from some place on, or none at all. -/
def RdB (w : World) (so : Option Addr) (m : List UInt8) : Prop := ∀ j (h : j < m.length), ∃ b o, so = some ⟨b, o, none⟩ ∧ w.cell? ⟨b, o + j, none⟩ = some (.int .u8 (m[j].toNat : Int))
/-- Bytes appended to a row of the call's own. -/
theorem run_appB {w : World} {B : Nat} {v : Value} {l m : List UInt8} (own : w.ownsRow B 5 1 v l.length (ucq l)) (so : Option Addr) (sc : Nat) (hs : RdB w so m) (hl : l.length + m.length ≤ 1000000000) (hB : B ≤ w.heap.size) (ty : TypeId) :
    ∃ v' w', (Builtin.append_ #[22, 22] ty #[v, .slice so m.length sc]).run Tryz.prog w = .ok v' w' ∧ w'.ownsRow B 5 1 v' (l ++ m).length (ucq (l ++ m)) ∧ w.grownBy w' v.ownBlock := by
  obtain ⟨i, hi, hzz⟩ := Option.map_eq_some_iff.1 Tryz.infoUQ
  simp only [Prod.mk.injEq] at hzz
  obtain ⟨hz, hsz, hby⟩ := hzz
  by_cases h0 : m.length = 0
  · obtain rfl := List.length_eq_zero_iff.1 h0
    have hsrc : Src Tryz.prog 1 22 (.slice so 0 sc) 0 [] w := by
      cases so with
      | none => exact Src.ofNil w Tryz.underUQ sc
      | some a => exact Src.ofSlice w Tryz.underUQ a 0 sc [] rfl (fun j u hu => by simp at hu) (by simp)
    rw [List.append_nil]
    obtain ⟨va, vc, rfl, hle⟩ : ∃ a c, v = .slice a l.length c ∧ l.length ≤ c := by
      rcases own.2 with ⟨e, e2⟩ | ⟨g, cap, cur, e, _, _, hle, _⟩
      · exact ⟨none, 0, by rw [e, e2], by omega⟩
      · exact ⟨_, cap, e, hle⟩
    exact ⟨_, w, run_append_nothing w 22 22 ty 5 i Tryz.underUQ hi va l.length vc hle _ (by rw [hsz]; exact hsrc), own, World.grownBy.refl _ _⟩
  · obtain ⟨b, o, rfl, _⟩ := hs 0 (by omega)
    have hnews : ∀ (j : Nat) (u : Value), (ucq m)[j]? = some u → w.cell? ((⟨b, o, none⟩ : Addr).add j) = some u := fun j u hj => by
      have hj' : j < m.length := by
        have := (List.getElem?_eq_some_iff.1 hj).1
        simpa [ucq] using this
      obtain ⟨b', o', e, hcell⟩ := hs j hj'
      simp only [Option.some.injEq, Addr.mk.injEq, and_true] at e
      obtain ⟨rfl, rfl⟩ := e
      rw [Addr.add_lit, hcell, ← hj, ucq_at hj']
    have hone : ∀ u ∈ ucq m, u.oneCell' = true := fun u hu => by
      obtain ⟨s, _, rfl⟩ := List.mem_map.1 hu
      rfl
    obtain ⟨v', w', hr, ow, gr, _⟩ := run_append_own (P := Tryz.prog) w B 22 ty 5 i _ 1 1 Tryz.underUQ hi hz hsz hby rfl (by omega) v l.length (ucq l) own ⟨b, o, none⟩ m.length sc (ucq m) (by simp [ucq]) hnews hone (by unfold maxLen; omega) (by omega) hB
    refine ⟨v', w', hr, ?_, gr⟩
    rw [List.length_append]
    have e : ucq (l ++ m) = ucq l ++ ucq m := by simp [ucq]
    rw [e]
    exact ow
theorem exec_appQ {o : Oper} {a : Act} {w w' : World} {u : Value} (s x : Operand) (ho : o.op = .call { callee := .builtin .append, args := #[s, x], argTypes := #[22, 22] }) (v y : Value) (hs : a.eval s = v) (hx : a.eval x = y)
    (hr : (Builtin.append_ #[22, 22] o.type #[v, y]).run Tryz.prog w = .ok u w') : (execOp a.eval o).run Tryz.prog w = .ok (.value u) w' := by
  unfold execOp
  simp only [ho, resolve, invoke, builtin, Sem.run_bind, Sem.run_pure, Result.andThen_ok, List.map_toArray, List.map_cons, List.map_nil, hs, hx, hr]

/-- A slice of bytes of the function's own: its block lies from B on, and may be written. -/
def BO (B : Nat) (w : World) (v : Value) (l : List UInt8) : Prop := ∃ ao cap, v = .slice ao l.length cap ∧ l.length ≤ cap ∧ ∀ i (h : i < l.length), ∃ g, ao = some ⟨g, 0, none⟩ ∧ B ≤ g ∧ w.cell? ⟨g, i, none⟩ = some (.int .u8 (l[i].toNat : Int)) ∧ w.frozen? ⟨g, i, none⟩ = false
theorem BO.grown {B N : Nat} {w w' : World} {v : Value} {l : List UInt8} (h : BO B w v l) (g : w.grownBy w' (some N)) (hN : N < B) : BO B w' v l := by
  obtain ⟨ao, cap, e, h1, h2⟩ := h
  refine ⟨ao, cap, e, h1, fun i hi => ?_⟩
  obtain ⟨b, e1, hb, hc, hf⟩ := h2 i hi
  have hne : some b ≠ some N := fun e => by have e2 := Option.some.inj e; omega
  have lt := World.block_lt_of_cell? w _ hc
  exact ⟨b, e1, hb, g.cell hc hne, (World.frozen?_of_block (w := w) (g.block b lt hne)).trans hf⟩
theorem BO.owns {B : Nat} {w : World} {v : Value} {l : List UInt8} (h : w.ownsRow B 5 1 v l.length (ucq l)) : BO B w v l := by
  rcases h.2 with ⟨e, e2⟩ | ⟨g, cap, cur, e, hB, hh, hle, _⟩
  · exact ⟨none, 0, by rw [e, e2], by omega, fun i hi => by omega⟩
  · subst e
    refine ⟨_, cap, rfl, hle, fun i hi => ⟨g, rfl, hB, ?_, ?_⟩⟩
    · rw [h.cellAt i (by omega), ucq_at hi]
    · exact h.frozenAt i
theorem BO.take {B : Nat} {w : World} {ao : Option Addr} {cap : Nat} {l : List UInt8} (h : BO B w (.slice ao l.length cap) l) (k : Nat) (hk : k ≤ l.length) : BO B w (.slice ao k cap) (l.take k) := by
  obtain ⟨ao', cap', e, h1, h2⟩ := h
  injection e with q1 q2 q3
  subst q1 q3
  have e2 : (l.take k).length = k := by rw [List.length_take]; omega
  refine ⟨ao, cap, by rw [e2], by omega, fun i hi => ?_⟩
  obtain ⟨b, e1, hb, hc, hf⟩ := h2 i (by omega)
  exact ⟨b, e1, hb, by rw [hc, List.getElem_take], hf⟩
theorem BO.set {B g cap n : Nat} {w : World} {l : List UInt8} (h : BO B w (.slice (some ⟨g, 0, none⟩) n cap) l) (k : Nat) (x : UInt8) (z : Int) (hz : z = (x.toNat : Int)) : BO B (w.setCell ⟨g, k, none⟩ (.int .u8 z)) (.slice (some ⟨g, 0, none⟩) n cap) (l.set k x) := by
  obtain ⟨ao', cap', e, h1, h2⟩ := h
  injection e with q1 q2 q3
  subst q1 q3 hz
  refine ⟨_, cap, by rw [List.length_set, q2], by rw [List.length_set]; exact h1, fun i hi => ?_⟩
  rw [List.length_set] at hi
  obtain ⟨b, e1, hb, hc, hf⟩ := h2 i hi
  injection e1 with e1
  injection e1 with e1
  subst e1
  refine ⟨g, rfl, hb, ?_, (World.frozen?_setCell ..).trans hf⟩
  by_cases hik : k = i
  · subst hik
    rw [World.cell?_setCell_same _ _ _ hc]
    simp
  · rw [World.cell?_setCell_other _ _ _ _ (by simp), hc]
    simp [hik]
theorem BO.conv (w : World) (s : ByteArray) (C : Nat) (hC : s.size ≤ C) : BO w.heap.size ((w.alloc (.cells (bytesRow s C) 5 ((bytesRow s C).size, (bytesRow s C).size + 1))).drew) (.slice (some ⟨w.heap.size, 0, none⟩) s.size C) s.data.toList := by
  have hz : s.data.toList.length = s.size := by simp
  refine ⟨_, C, by rw [hz], by omega, fun i hi => ⟨w.heap.size, rfl, Nat.le_refl _, ?_, ?_⟩⟩
  · show (w.alloc (.cells (bytesRow s C) 5 _)).cell? _ = _
    rw [World.cell?_alloc_mark, bytesRow_at s C i (by omega)]
    simp
  · show (w.alloc (.cells (bytesRow s C) 5 ((bytesRow s C).size, (bytesRow s C).size + 1))).frozen? ⟨w.heap.size, i, none⟩ = false
    rw [World.frozen?_alloc_mark]
    have hbr : s.size ≤ (bytesRow s C).size := by
      unfold bytesRow
      rw [Array.size_append, Array.size_map]
      exact Nat.le_add_right _ _
    have : ¬ (bytesRow s C).size ≤ i := by omega
    simp [this]
/-- The text that the bytes are. -/
theorem BO.text {B : Nat} {w : World} {v : Value} {l : List UInt8} (h : BO B w v l) : (convert 22 9 v).run Tryz.prog w = .ok (.string ⟨l.toArray⟩) w := by
  obtain ⟨ao, cap, rfl, h1, h2⟩ := h
  cases ao with
  | some a => 
    refine conv_back w a cap l _ rfl fun j hj => ?_
    obtain ⟨b, e1, hb, hc, hf⟩ := h2 j hj
    injection e1 with e1
    subst e1
    rw [Addr.add_lit, Nat.zero_add, hc]
  | none =>
    have : l = [] := by
      cases l with
      | nil => rfl
      | cons x l => obtain ⟨b, e1, _⟩ := h2 0 (by simp); cases e1
    subst this
    rw [run_convert_bytes_string _ 22 9 5 _ _ _ (by kernel_rfl) (by kernel_rfl) (by kernel_rfl)]
    rfl
/-- What is read of a part. -/
theorem BO.head {B g cap n : Nat} {w : World} {l : List UInt8} (h : BO B w (.slice (some ⟨g, 0, none⟩) n cap) l) (k : Nat) : RdB w (some ⟨g, 0, none⟩) (l.take k) := by
  intro j hj
  obtain ⟨ao', cap', e, h1, h2⟩ := h
  injection e with q1 q2 q3
  subst q1 q3
  have hj' : j < l.length := by rw [List.length_take] at hj; omega
  obtain ⟨b, e1, hb, hc, hf⟩ := h2 j hj'
  injection e1 with e1
  injection e1 with e1
  subst e1
  exact ⟨g, 0, rfl, by rw [Nat.zero_add, hc, List.getElem_take]⟩
def slA (g cap k : Nat) : Addr := if cap = k then ⟨g, 0, none⟩ else ⟨g, k, none⟩
theorem BO.tail {B g cap n : Nat} {w : World} {l : List UInt8} (h : BO B w (.slice (some ⟨g, 0, none⟩) n cap) l) (k : Nat) : RdB w (some (slA g cap k)) (l.drop k) := by
  intro j hj
  obtain ⟨ao', cap', e, h1, h2⟩ := h
  injection e with q1 q2 q3
  subst q1 q3
  rw [List.length_drop] at hj
  obtain ⟨b, e1, hb, hc, hf⟩ := h2 (k + j) (by omega)
  injection e1 with e1
  injection e1 with e1
  subst e1
  have hne : ¬ cap = k := by omega
  refine ⟨g, k, by unfold slA; rw [if_neg hne], ?_⟩
  rw [hc, List.getElem_drop]
theorem RdB.later {w w' : World} {so : Option Addr} {m : List UInt8} {row : Option Nat} (h : RdB w so m) (g : w.grownBy w' row) (hne : ∀ a, so = some a → some a.block ≠ row) : RdB w' so m := by
  intro j hj
  obtain ⟨b, o, e, hc⟩ := h j hj
  exact ⟨b, o, e, g.cell hc (by have := hne _ e; exact this)⟩
theorem slA_block (g cap k : Nat) : (slA g cap k).block = g := by unfold slA; split <;> rfl
theorem cutB_h (g n cap k : Nat) (hk : k ≤ n) (hn : n ≤ cap) (w : World) : (Instr.slice 22 (.slice (some ⟨g, 0, none⟩) n cap) none (some (.int .i64 (k : Int))) none).run Tryz.prog w = .ok (.slice (some ⟨g, 0, none⟩) k cap) w := by
  have hz : (sizeOf (Tryz.prog.elem 22)).run Tryz.prog w = .ok 1 w := by kernel_rfl
  rw [run_slice_h w 22 _ n cap (by kernel_rfl) .i64 (k : Int) (by omega) (by omega), hz]
  simp only [Result.andThen_ok, sliced]
  by_cases h : cap = 0
  · simp [h]
  · simp [h, Addr.add]
theorem cutB_l (g n cap k : Nat) (hk : k ≤ n) (w : World) : (Instr.slice 22 (.slice (some ⟨g, 0, none⟩) n cap) (some (.int .i64 (k : Int))) none none).run Tryz.prog w = .ok (.slice (some (slA g cap k)) (n - k) (cap - k)) w := by
  have hz : (sizeOf (Tryz.prog.elem 22)).run Tryz.prog w = .ok 1 w := by kernel_rfl
  rw [run_slice_l w 22 _ n cap (by kernel_rfl) .i64 (k : Int) (by omega) (by omega), hz]
  simp only [Result.andThen_ok, sliced]
  unfold slA
  by_cases h : cap = k
  · simp [h]
  · simp [h, Addr.add]
    intro e
    exact e.symm

end Go.Proofs.YtjclpbaiiklhcaaGreatDoor

/- A text that is bent: l2Bend of the model. -/
namespace Go.Proofs.YtjclpbaiiklhcaaGreatDoor
open Go.RowKit

/-- A text that is being bent: the bytes v, in a world that has grown from w0. -/
structure BN (w0 : World) (N : Nat) (cv : Value) (cs : List UInt8) (w : World) (v : Value) (l : List UInt8) : Prop where
  g : w0.grownBy w (some N)
  d0 : Dw N cv cs w0
  d : Dw N cv cs w
  hN : N < w0.heap.size
  bo : BO w0.heap.size w v l
section
variable {w0 w : World} {N : Nat} {cv v : Value} {cs l : List UInt8}
theorem BN.nlt (h : BN w0 N cv cs w v l) : N < w.heap.size := Nat.lt_of_lt_of_le h.hN h.g.size
theorem BN.call {w' : World} (h : BN w0 N cv cs w v l) (g : w.grownBy w' (some N)) (d : Dw N cv cs w') : BN w0 N cv cs w' v l := ⟨gtrans h.g g, h.d0, d, h.hN, h.bo.grown g h.hN⟩
theorem BN.drew (h : BN w0 N cv cs w v l) : BN w0 N cv cs w.drew v l := h.call (gdrew (World.grownBy.refl _ _)) (h.d.grown (gdrew (World.grownBy.refl _ _)) h.d (gdrew (World.grownBy.refl _ none)) (by simp) h.nlt)
/-- Another row of the function's own in its place. -/
theorem BN.row {w' : World} {v' : Value} {l' : List UInt8} {row : Option Nat} (h : BN w0 N cv cs w v l) (g : w.grownBy w' row) (hr : ∀ k, row = some k → w0.heap.size ≤ k) (b : BO w0.heap.size w' v' l') : BN w0 N cv cs w' v' l' := by
  have g2 : w0.grownBy w' (some N) := gmix h.g g hr
  exact ⟨g2, h.d0, h.d0.grown g2 h.d g (fun e => by have := hr N e.symm; have := h.hN; omega) h.nlt, h.hN, b⟩
end
theorem BO.mono {B B' : Nat} {w : World} {v : Value} {l : List UInt8} (h : BO B w v l) (hb : B' ≤ B) : BO B' w v l := by
  obtain ⟨ao, cap, e, h1, h2⟩ := h
  exact ⟨ao, cap, e, h1, fun i hi => let ⟨g, e1, hB, hc, hf⟩ := h2 i hi; ⟨g, e1, Nat.le_trans hb hB, hc, hf⟩⟩

theorem BN.gLt {w0 w : World} {N g cap n k : Nat} {cv : Value} {cs l : List UInt8} (h : BN w0 N cv cs w (.slice (some ⟨g, 0, none⟩) n cap) l) (hk : k < l.length) : g < w.heap.size := by
  obtain ⟨ao, c, e, _, hc⟩ := h.bo
  injection e with q1 q2 q3
  subst q1
  obtain ⟨b, e1, _, hcell, _⟩ := hc k hk
  injection e1 with e1
  injection e1 with e1
  subst e1
  exact World.block_lt_of_cell? w _ hcell
theorem BO.past {B g cap n : Nat} {w w' : World} {l : List UInt8} {row : Option Nat} (h : BO B w (.slice (some ⟨g, 0, none⟩) n cap) l) (hg : w.grownBy w' row) (hne : ∀ k, row = some k → g ≠ k) : BO B w' (.slice (some ⟨g, 0, none⟩) n cap) l := by
  obtain ⟨ao, c, e, h1, hc⟩ := h
  refine ⟨ao, c, e, h1, fun i hi => ?_⟩
  injection e with q1 q2 q3
  subst q1
  obtain ⟨b, e1, hb, hcell, hf⟩ := hc i hi
  have e2 : b = g := by
    injection e1 with e1
    injection e1 with e1
    exact e1.symm
  subst e2
  have hn : some b ≠ row := fun e => hne b e.symm rfl
  exact ⟨b, rfl, hb, hg.cell hcell hn, (World.frozen?_of_block (w := w) (hg.block b (World.block_lt_of_cell? w _ hcell) hn)).trans hf⟩

set_option maxRecDepth 100000 in
set_option maxHeartbeats 3200000 in
theorem Dw.bendI {N : Nat} {cv : Value} {cs : List UInt8} {w : World} (h : Dw N cv cs w) (hN : N < w.heap.size) (s sg : ByteArray) (hs : s.size ≤ 900000) (g0 : 0 < sg.size) (g1 : sg.size ≤ 256) (I : Nat → List UInt8 → Prop) (hI : ∀ j l l', Edit l l' → I j l → I (j + 1) l') (i0 : I 0 s.data.toList) :
    Calls Tryz.prog 49 #[.pointer (some ⟨N, 0, none⟩), .string s, .string sg] w fun x w' => (∃ t : ByteArray, x = .returned (.string t) ∧ t.size ≤ s.size + 2 ∧ I 2 t.data.toList) ∧ w.grownBy w' (some N) ∧ Dw N cv cs w' := by
  have hmx : Tryz.prog.follows .mixedOrders = true := by kernel_rfl
  have iM : ∀ (l : List UInt8) (j k : Nat), I j l → I (j + k) l := fun l j k h => by
    induction k with
    | zero => exact h
    | succ k ih => exact hI _ _ _ (Edit.same l) ih
  have hI : Hid (∀ j l l', Edit l l' → I j l → I (j + 1) l') := hI
  have iM : Hid (∀ (l : List UInt8) (j k : Nat), I j l → I (j + k) l) := iM
  have hcv := conv_bytes w s
  have hcap : s.size ≤ grownCap w s.size 0 5 := grownCap_ge _ _ _ _
  have bo0 := BO.conv w s (grownCap w s.size 0 5) hcap
  have bn0 : BN w N cv cs _ _ _ := ⟨gdrew (galloc w _ _), h, h.grown (gdrew (galloc w _ _)) h (gdrew (galloc w _ none)) (by simp) hN, hN, bo0⟩
  have hz0 : s.data.toList.length = s.size := by simp
  clear bo0
  go_enter Tryz.func49, Tryz.ntmps49
  go_wp2_with fail
  refine (bn0.d.below 3 (by omega) (by omega)).mono ?_
  rintro x w1 ⟨⟨z, rfl, z0, z1⟩, gz, dz⟩
  have bn1 := bn0.call gz dz
  clear hcv bn0 gz dz
  obtain ⟨zn, rfl⟩ := Int.eq_ofNat_of_zero_le z0
  generalize grownCap w s.size 0 5 = C at *
  generalize s.data.toList = l0 at *
  go_wp2
  go_loopw [7, 8] (fun bv nv wr => ∃ (l : List UInt8) (j : Nat) (v0 : Value), nv = .int .i64 j ∧ v0 = bv ∧ j + l.length ≤ s.size + 2 ∧ BN w N cv cs wr v0 l ∧ j ≤ 2 ∧ I (2 - j) l) (fun _ nv _ => (intOf nv).toNat)
  case atStart => exact ⟨l0, zn, _, rfl, rfl, by omega, bn1, by omega, by have := iM.out l0 0 (2 - zn) i0; rwa [Nat.zero_add] at this⟩
  case round =>
    obtain ⟨l, j, bv, rfl, rfl, hj, bn, hj2, ij⟩ := hrel
    clear bn1 i0
    have IT : Hid (I 2 (⟨l.toArray⟩ : ByteArray).data.toList) := (by have := iM.out l (2 - j) j ij; rw [show 2 - j + j = 2 by omega] at this; exact this : I 2 (⟨l.toArray⟩ : ByteArray).data.toList)
    have IN : Hid (∀ l', 0 < j → Edit l l' → I (2 - (j - 1)) l') := (fun l' h0 he => by have := hI.out (2 - j) l l' he ij; rw [show 2 - j + 1 = 2 - (j - 1) by omega] at this; exact this : ∀ l', 0 < j → Edit l l' → I (2 - (j - 1)) l')
    clear ij
    obtain ⟨ao, cap, rfl, hcp, hcell⟩ := bn.bo
    have HZ : Hid ((⟨l.toArray⟩ : ByteArray).size ≤ s.size + 2) := (by show l.toArray.size ≤ s.size + 2; rw [List.size_toArray]; omega : (⟨l.toArray⟩ : ByteArray).size ≤ s.size + 2)
    by_cases hj0 : 0 < j
    · have e0 : decide ((0 : Int) < (j : Int)) = true := by simp; omega
      by_cases hl0 : 0 < l.length
      · have e1 : decide ((0 : Int) < (l.length : Int)) = true := by simp; omega
        obtain ⟨g, rfl, hB, _⟩ := hcell 0 hl0
        clear hcell
        have LS := bn.d.less (l.length : Int) (by omega) (by omega)
        go_wp2_with fail
        refine LS.mono ?_
        rintro x w2 ⟨⟨k, rfl, k0, k1⟩, g2, d2⟩
        have bn2 := bn.call g2 d2
        clear LS g2 d2 bn
        obtain ⟨kn, rfl⟩ := Int.eq_ofNat_of_zero_le k0
        go_wp2_with fail
        refine (bn2.d.below 4 (by omega) (by omega)).mono ?_
        rintro x w3 ⟨⟨y, rfl, y0, y1⟩, g3, d3⟩
        have bn3 := bn2.call g3 d3
        clear g3 d3 bn2
        have hkn : kn < l.length := by omega
        have hki : (kn : Int) < (l.length : Int) := by omega
        obtain rfl | rfl | rfl | rfl : y = 0 ∨ y = 1 ∨ y = 2 ∨ y = 3 := by omega
        · go_wp2_with fail
          refine (bn3.d.below (sg.size : Int) (by omega) (by omega)).mono ?_
          rintro x w4 ⟨⟨u, rfl, u0, u1⟩, g4, d4⟩
          have bn4 := bn3.call g4 d4
          clear g4 d4 bn3
          obtain ⟨un, rfl⟩ := Int.eq_ofNat_of_zero_le u0
          have hun : un < sg.size := by omega
          obtain ⟨ao', cap', e, _, hcell⟩ := bn4.bo
          injection e with q1 q2 q3
          subst q1 q3
          obtain ⟨g', e1', hB', hc, hf⟩ := hcell kn hkn
          injection e1' with e1'
          injection e1' with e1'
          subst e1'
          have bn5 : BN w N cv cs (w4.setCell ⟨g, kn, none⟩ (.int .u8 (sg[un].toNat : Int))) (.slice (some ⟨g, 0, none⟩) l.length cap) (l.set kn sg[un]) := bn4.row (gset1 _ _ _ _) (fun k hk => by cases hk; exact hB) (bn4.bo.set kn sg[un] _ rfl)
          replace bn5 : Hid _ := bn5
          clear hcell bn4
          go_wp2
          refine ⟨⟨l.set kn sg[un], j - 1, _, by go_num, rfl, by rw [List.length_set]; omega, bn5.out, by omega, IN.out _ hj0 (Edit.put kn _ hkn)⟩, by simp [intOf]; omega⟩
        · have cu := cutB_h g l.length cap kn (by omega) hcp
          have bn5 : Hid (BN w N cv cs w3 (.slice (some ⟨g, 0, none⟩) kn cap) (l.take kn)) := bn3.row (World.grownBy.refl _ none) (fun k hk => by cases hk) (bn3.bo.take kn (by omega))
          clear bn3
          go_wp2
          refine ⟨⟨l.take kn, j - 1, _, by go_num, rfl, by rw [List.length_take]; omega, bn5.out, by omega, IN.out _ hj0 (Edit.cut l kn)⟩, by simp [intOf]; omega⟩
        · have bn4 := bn3.drew
          have r1 := bn4.bo.head kn
          have r2 := bn4.bo.tail (kn + 1)
          have cu1 := cutB_h g l.length cap kn (by omega) hcp
          have cu2 : ∀ W, (Instr.slice 22 (.slice (some ⟨g, 0, none⟩) l.length cap) (some (.int .i64 ((kn : Int) + 1))) none none).run Tryz.prog W = .ok (.slice (some (slA g cap (kn + 1))) (l.length - (kn + 1)) (cap - (kn + 1))) W := fun W => cutB_l g l.length cap (kn + 1) (by omega) W
          have sw : IntKind.i64.wrap ((kn : Int) + 1) = (kn : Int) + 1 := by rw [IntKind.wrap_i64]; omega
          have lk : (l.take kn).length = kn := by rw [List.length_take]; omega
          have ld : (l.drop (kn + 1)).length = l.length - (kn + 1) := by rw [List.length_drop]
          have sz := bn4.g.size
          have gl : g < w3.drew.heap.size := bn4.gLt hkn
          obtain ⟨v5, w5, hr5, ow5, gr5⟩ := run_appB (own_noneQ w3.drew w3.drew.heap.size (Nat.le_refl _)) (some ⟨g, 0, none⟩) cap (m := l.take kn) (r1.later (galloc _ _ none) (fun _ _ => by simp)) (by rw [lk]; simp; omega) (by simp) 22
          rw [lk] at hr5
          have r2b := (r2.later (galloc w3.drew (.cells #[] 5) none) (fun _ _ => by simp)).later gr5 (fun a e => by
            injection e with e
            subst e
            rw [slA_block]
            intro e2
            have e3 : g = w3.drew.heap.size := Option.some.inj e2
            omega)
          obtain ⟨v6, w6, hr6, ow6, gr6⟩ := run_appB ow5 (some (slA g cap (kn + 1))) (cap - (kn + 1)) (m := l.drop (kn + 1)) r2b (by rw [ld, List.nil_append, lk]; omega) (by have := gr5.size; rw [World.size_alloc] at this; omega) 22
          rw [ld] at hr6
          have bn6 : Hid (BN w N cv cs w6 v6 (([] ++ l.take kn) ++ l.drop (kn + 1))) := (bn4.row (galloc _ _ none) (fun k hk => by cases hk) ((bn4.bo.grown (galloc _ _ _) bn4.hN))).row gr5 (fun k hk => by cases hk; exact sz) (BO.mono (BO.owns ow5) sz) |>.row gr6 (fun k hk => Nat.le_trans sz (ow5.lt k hk).1) (BO.mono (BO.owns ow6) sz)
          have ln : Hid ((([] ++ l.take kn) ++ l.drop (kn + 1)).length ≤ l.length) := (by simp; omega : (([] ++ l.take kn) ++ l.drop (kn + 1)).length ≤ l.length)
          clear r1 r2 r2b ow5 gr5 ow6 gr6 bn4 bn3 lk ld
          go_wp2_with fail
          refine Disk.z_plain 99 (fun _ => True) hmx trivial (fun hS => ?_)
          refine Disk.z_take 1 48 (v := .slice (some ⟨g, 0, none⟩) l.length cap) rfl rfl (by kernel_rfl) (by kernel_rfl) (by kernel_rfl) (by kernel_rfl) (by rfl) hS (fun W' _ => (by
            go_simp; first | done | with_reducible rfl | with_reducible rfl)) ?_
          simp only [List.setIfInBounds_toArray, List.set_cons_zero, List.set_cons_succ]
          refine Disk.z_take 2 49 (v := .int .i64 (kn : Int)) rfl rfl (by kernel_rfl) (by kernel_rfl) (by kernel_rfl) (by kernel_rfl) (by rfl) hS (fun W' _ => (by
            go_simp; first | done | with_reducible rfl | with_reducible rfl)) ?_
          simp only [List.setIfInBounds_toArray, List.set_cons_zero, List.set_cons_succ]
          refine Disk.z_take 3 50 (v := .slice (some ⟨g, 0, none⟩) kn cap) rfl rfl (by kernel_rfl) (by kernel_rfl) (by kernel_rfl) (by kernel_rfl) (by rfl) hS (fun W' _ => (by
            go_simp; first | done | exact cu1 _ | with_reducible rfl)) ?_
          simp only [List.setIfInBounds_toArray, List.set_cons_zero, List.set_cons_succ]
          refine Disk.z_take 5 52 (v := .slice (some ⟨g, 0, none⟩) l.length cap) rfl rfl (by kernel_rfl) (by kernel_rfl) (by kernel_rfl) (by kernel_rfl) (by rfl) hS (fun W' _ => (by
            go_simp; first | done | with_reducible rfl | with_reducible rfl)) ?_
          simp only [List.setIfInBounds_toArray, List.set_cons_zero, List.set_cons_succ]
          refine Disk.z_take 6 53 (v := .int .i64 (kn : Int)) rfl rfl (by kernel_rfl) (by kernel_rfl) (by kernel_rfl) (by kernel_rfl) (by rfl) hS (fun W' _ => (by
            go_simp; first | done | with_reducible rfl | with_reducible rfl)) ?_
          simp only [List.setIfInBounds_toArray, List.set_cons_zero, List.set_cons_succ]
          refine Disk.z_take 7 54 (v := .int .i64 ((kn : Int) + 1)) rfl rfl (by kernel_rfl) (by kernel_rfl) (by kernel_rfl) (by kernel_rfl) (by rfl) hS (fun W' _ => (by
            go_simp; first | done | exact sw | with_reducible rfl)) ?_
          simp only [List.setIfInBounds_toArray, List.set_cons_zero, List.set_cons_succ]
          refine Disk.z_take 8 55 (v := .slice (some (slA g cap (kn + 1))) (l.length - (kn + 1)) (cap - (kn + 1))) rfl rfl (by kernel_rfl) (by kernel_rfl) (by kernel_rfl) (by kernel_rfl) (by rfl) hS (fun W' _ => (by
            go_simp; first | done | exact cu2 _ | with_reducible rfl)) ?_
          simp only [List.setIfInBounds_toArray, List.set_cons_zero, List.set_cons_succ]
          refine Disk.z_run 0 47 (v := .slice (some ⟨w3.drew.heap.size, 0, none⟩) 0 0) rfl rfl (by kernel_rfl) (by rfl) (by go_simp; first | done | with_reducible rfl | with_reducible rfl) (.inr trivial) ?_
          simp only [List.setIfInBounds_toArray, List.set_cons_zero, List.set_cons_succ]
          refine Disk.z_run 4 51 rfl rfl (by kernel_rfl) (by rfl) (exec_appQ _ _ rfl _ _ rfl rfl hr5) (.inr trivial) ?_
          simp only [List.setIfInBounds_toArray, List.set_cons_zero, List.set_cons_succ]
          refine Disk.z_run 9 56 rfl rfl (by kernel_rfl) (by rfl) (exec_appQ _ _ rfl _ _ rfl rfl hr6) (.inr trivial) ?_
          simp only [List.setIfInBounds_toArray, List.set_cons_zero, List.set_cons_succ]
          refine Disk.z_run 10 7 (v := v6) rfl rfl (by kernel_rfl) (by rfl) (by go_simp; first | done | with_reducible rfl | with_reducible rfl) (.inr trivial) ?_
          simp only [List.setIfInBounds_toArray, List.set_cons_zero, List.set_cons_succ]
          refine Disk.z_done (by kernel_rfl) ?_ _
          clear hr5 hr6 cu1 cu2 hS sw
          go_wp2
          exact ⟨⟨_, j - 1, _, by go_num, rfl, by have := ln.out; omega, bn6.out, by omega, IN.out _ hj0 (by rw [List.nil_append]; exact Edit.drop kn hkn)⟩, by simp [intOf]; omega⟩
        · have bn4 := bn3.drew
          have r1 := bn4.bo.head kn
          have cu1 := cutB_h g l.length cap kn (by omega) hcp
          have cu2 := cutB_l g l.length cap kn (by omega)
          have lk : (l.take kn).length = kn := by rw [List.length_take]; omega
          have ld : (l.drop kn).length = l.length - kn := by rw [List.length_drop]
          have sz := bn4.g.size
          have gl : g < w3.drew.heap.size := bn4.gLt hkn
          obtain ⟨v5, w5, hr5, ow5, gr5⟩ := run_appB (own_noneQ w3.drew w3.drew.heap.size (Nat.le_refl _)) (some ⟨g, 0, none⟩) cap (m := l.take kn) (r1.later (galloc _ _ none) (fun _ _ => by simp)) (by rw [lk]; simp; omega) (by simp) 22
          rw [lk] at hr5
          have bo5 : BO w.heap.size w5 (.slice (some ⟨g, 0, none⟩) l.length cap) l := (bn4.bo.grown (galloc w3.drew (.cells #[] 5) (some N)) bn4.hN).past gr5 (fun k hk => by cases hk; exact fun e => by have e3 : g = w3.drew.heap.size := e; omega)
          have bn5 : BN w N cv cs w5 (.slice (some ⟨g, 0, none⟩) l.length cap) l := (bn4.row (galloc w3.drew (.cells #[] 5) none) (fun k hk => by cases hk) ((bn4.bo.grown (galloc _ _ _) bn4.hN))).row gr5 (fun k hk => by cases hk; exact sz) bo5
          have sz5 : w3.drew.heap.size < w5.heap.size := by have := gr5.size; rw [World.size_alloc] at this; omega
          have hNB : N < w3.drew.heap.size := bn4.nlt
          have BL := bn5.d.below (sg.size : Int) (by omega) (by omega)
          clear r1 gr5 bn3
          go_wp2_with fail
          refine Disk.z_plain 99 (fun _ => True) hmx trivial (fun hS => ?_)
          refine Disk.z_take 1 60 (v := .slice (some ⟨g, 0, none⟩) l.length cap) rfl rfl (by kernel_rfl) (by kernel_rfl) (by kernel_rfl) (by kernel_rfl) (by rfl) hS (fun W' _ => (by
            go_simp; first | done | with_reducible rfl | with_reducible rfl)) ?_
          simp only [List.setIfInBounds_toArray, List.set_cons_zero, List.set_cons_succ]
          refine Disk.z_take 2 61 (v := .int .i64 (kn : Int)) rfl rfl (by kernel_rfl) (by kernel_rfl) (by kernel_rfl) (by kernel_rfl) (by rfl) hS (fun W' _ => (by
            go_simp; first | done | with_reducible rfl | with_reducible rfl)) ?_
          simp only [List.setIfInBounds_toArray, List.set_cons_zero, List.set_cons_succ]
          refine Disk.z_take 3 62 (v := .slice (some ⟨g, 0, none⟩) kn cap) rfl rfl (by kernel_rfl) (by kernel_rfl) (by kernel_rfl) (by kernel_rfl) (by rfl) hS (fun W' _ => (by
            go_simp; first | done | exact cu1 _ | with_reducible rfl)) ?_
          simp only [List.setIfInBounds_toArray, List.set_cons_zero, List.set_cons_succ]
          refine Disk.z_take 5 64 (v := .string sg) rfl rfl (by kernel_rfl) (by kernel_rfl) (by kernel_rfl) (by kernel_rfl) (by rfl) hS (fun W' _ => (by
            go_simp; first | done | with_reducible rfl | with_reducible rfl)) ?_
          simp only [List.setIfInBounds_toArray, List.set_cons_zero, List.set_cons_succ]
          refine Disk.z_take 6 65 (v := .pointer (some ⟨N, 0, none⟩)) rfl rfl (by kernel_rfl) (by kernel_rfl) (by kernel_rfl) (by kernel_rfl) (by rfl) hS (fun W' _ => (by
            go_simp; first | done | with_reducible rfl | with_reducible rfl)) ?_
          simp only [List.setIfInBounds_toArray, List.set_cons_zero, List.set_cons_succ]
          refine Disk.z_take 7 66 (v := .string sg) rfl rfl (by kernel_rfl) (by kernel_rfl) (by kernel_rfl) (by kernel_rfl) (by rfl) hS (fun W' _ => (by
            go_simp; first | done | with_reducible rfl | with_reducible rfl)) ?_
          simp only [List.setIfInBounds_toArray, List.set_cons_zero, List.set_cons_succ]
          refine Disk.z_take 8 67 (v := .int .i64 (sg.size : Int)) rfl rfl (by kernel_rfl) (by kernel_rfl) (by kernel_rfl) (by kernel_rfl) (by rfl) hS (fun W' _ => (by
            go_simp; first | done | with_reducible rfl | with_reducible rfl)) ?_
          simp only [List.setIfInBounds_toArray, List.set_cons_zero, List.set_cons_succ]
          refine Disk.z_take 13 72 (v := .slice (some ⟨g, 0, none⟩) l.length cap) rfl rfl (by kernel_rfl) (by kernel_rfl) (by kernel_rfl) (by kernel_rfl) (by rfl) hS (fun W' _ => (by
            go_simp; first | done | with_reducible rfl | with_reducible rfl)) ?_
          simp only [List.setIfInBounds_toArray, List.set_cons_zero, List.set_cons_succ]
          refine Disk.z_take 14 73 (v := .int .i64 (kn : Int)) rfl rfl (by kernel_rfl) (by kernel_rfl) (by kernel_rfl) (by kernel_rfl) (by rfl) hS (fun W' _ => (by
            go_simp; first | done | with_reducible rfl | with_reducible rfl)) ?_
          simp only [List.setIfInBounds_toArray, List.set_cons_zero, List.set_cons_succ]
          refine Disk.z_take 15 74 (v := .slice (some (slA g cap kn)) (l.length - kn) (cap - kn)) rfl rfl (by kernel_rfl) (by kernel_rfl) (by kernel_rfl) (by kernel_rfl) (by rfl) hS (fun W' _ => (by
            go_simp; first | done | exact cu2 _ | with_reducible rfl)) ?_
          simp only [List.setIfInBounds_toArray, List.set_cons_zero, List.set_cons_succ]
          refine Disk.z_run 0 59 (v := .slice (some ⟨w3.drew.heap.size, 0, none⟩) 0 0) rfl rfl (by kernel_rfl) (by rfl) (by go_simp; first | done | with_reducible rfl | with_reducible rfl) (.inr trivial) ?_
          simp only [List.setIfInBounds_toArray, List.set_cons_zero, List.set_cons_succ]
          refine Disk.z_run 4 63 rfl rfl (by kernel_rfl) (by rfl) (exec_appQ _ _ rfl _ _ rfl rfl hr5) (.inr trivial) ?_
          simp only [List.setIfInBounds_toArray, List.set_cons_zero, List.set_cons_succ]
          refine Disk.z_call 9 68 rfl rfl (by kernel_rfl) (by rfl) (f := 33) (args := #[.pointer (some ⟨N, 0, none⟩), .int .i64 (sg.size : Int)]) (w0 := w5) (by go_simp; first | done | with_reducible rfl) ?_
          refine BL.mono ?_
          rintro x w6 ⟨⟨u, rfl, u0, u1⟩, g6, d6⟩
          refine ⟨_, rfl, .inr trivial, ?_⟩
          simp only [List.setIfInBounds_toArray, List.set_cons_zero, List.set_cons_succ]
          obtain ⟨un, rfl⟩ := Int.eq_ofNat_of_zero_le u0
          have hun : un < sg.size := by omega
          have bn6 := bn5.call g6 d6
          have ow6 := own_offQ ow5 g6 hNB
          have sz6 := g6.size
          clear BL bn5 bo5 bn4 g6 d6 ow5 hr5
          have one : RdB (w6.alloc (.cells #[.int .u8 (sg[un].toNat : Int)] 5)) (some ⟨w6.heap.size, 0, none⟩) [sg[un]] := fun j hj => ⟨w6.heap.size, 0, rfl, by
            obtain rfl : j = 0 := by simpa using hj
            simp⟩
          have ow7 := ow6.alloc (.cells #[.int .u8 (sg[un].toNat : Int)] 5)
          obtain ⟨v8, w8, hr8, ow8, gr8⟩ := run_appB ow7 (some ⟨w6.heap.size, 0, none⟩) 1 one (by rw [List.nil_append, lk]; simp; omega) (by rw [World.size_alloc]; omega) 22
          have vb : ∀ k, v5.ownBlock = some k → w3.drew.heap.size ≤ k := fun k hk => (ow7.lt k hk).1
          have r8 : RdB w8 (some (slA g cap kn)) (l.drop kn) := ((bn6.bo.tail kn).later (galloc w6 (.cells #[.int .u8 (sg[un].toNat : Int)] 5) none) (fun _ _ => by simp)).later gr8 (fun a e => by
            injection e with e
            subst e
            rw [slA_block]
            intro e2
            have := vb g e2.symm
            omega)
          obtain ⟨v9, w9, hr9, ow9, gr9⟩ := run_appB ow8 (some (slA g cap kn)) (cap - kn) r8 (by rw [ld, List.length_append, List.nil_append, lk]; simp; omega) (by have := gr8.size; rw [World.size_alloc] at this; omega) 22
          rw [ld] at hr9
          have bn9 : Hid (BN w N cv cs w9 v9 ((([] ++ l.take kn) ++ [sg[un]]) ++ l.drop kn)) := ((bn6.row (galloc w6 (.cells #[.int .u8 (sg[un].toNat : Int)] 5) none) (fun k hk => by cases hk) (bn6.bo.grown (galloc _ _ _) bn6.hN)).row gr8 (fun k hk => Nat.le_trans sz (vb k hk)) (BO.mono (BO.owns ow8) sz)).row gr9 (fun k hk => Nat.le_trans sz (ow8.lt k hk).1) (BO.mono (BO.owns ow9) sz)
          have ln : Hid (((([] ++ l.take kn) ++ [sg[un]]) ++ l.drop kn).length ≤ l.length + 1) := (by simp; omega : ((([] ++ l.take kn) ++ [sg[un]]) ++ l.drop kn).length ≤ l.length + 1)
          clear r8 ow8 gr8 ow9 gr9 ow7 ow6 one vb bn6 lk ld
          refine Disk.z_run 10 69 (v := .int .u8 (sg[un].toNat : Int)) rfl rfl (by kernel_rfl) (by rfl) (by go_simp; first | done | with_reducible rfl | with_reducible rfl) (.inr trivial) ?_
          simp only [List.setIfInBounds_toArray, List.set_cons_zero, List.set_cons_succ]
          refine Disk.z_run 11 70 (v := .slice (some ⟨w6.heap.size, 0, none⟩) 1 1) rfl rfl (by kernel_rfl) (by rfl) (by go_simp; first | done | with_reducible rfl | with_reducible rfl) (.inr trivial) ?_
          simp only [List.setIfInBounds_toArray, List.set_cons_zero, List.set_cons_succ]
          refine Disk.z_run 12 71 rfl rfl (by kernel_rfl) (by rfl) (exec_appQ _ _ rfl _ _ rfl rfl hr8) (.inr trivial) ?_
          simp only [List.setIfInBounds_toArray, List.set_cons_zero, List.set_cons_succ]
          refine Disk.z_run 16 75 rfl rfl (by kernel_rfl) (by rfl) (exec_appQ _ _ rfl _ _ rfl rfl hr9) (.inr trivial) ?_
          simp only [List.setIfInBounds_toArray, List.set_cons_zero, List.set_cons_succ]
          refine Disk.z_run 17 7 (v := v9) rfl rfl (by kernel_rfl) (by rfl) (by go_simp; first | done | with_reducible rfl | with_reducible rfl) (.inr trivial) ?_
          simp only [List.setIfInBounds_toArray, List.set_cons_zero, List.set_cons_succ]
          refine Disk.z_done (by kernel_rfl) ?_ _
          clear hr8 hr9 cu1 cu2 hS
          go_wp2
          exact ⟨⟨_, j - 1, _, by go_num, rfl, by have := ln.out; omega, bn9.out, by omega, IN.out _ hj0 (by rw [List.nil_append]; exact Edit.ins l kn _)⟩, by simp [intOf]; omega⟩
      · have e1 : decide ((0 : Int) < (l.length : Int)) = false := decide_eq_false (by omega)
        have TX := bn.bo.text
        have F : Hid (w.grownBy wr (some N) ∧ Dw N cv cs wr) := ⟨bn.g, bn.d⟩
        clear bn hcell
        go_wp2
        go_ret
        exact ⟨⟨_, rfl, HZ.out, IT.out⟩, F.out⟩
    · have e0 : decide ((0 : Int) < (j : Int)) = false := by simp; omega
      have TX := bn.bo.text
      have F : Hid (w.grownBy wr (some N) ∧ Dw N cv cs wr) := ⟨bn.g, bn.d⟩
      clear bn hcell
      go_wp2
      go_ret
      exact ⟨⟨_, rfl, HZ.out, IT.out⟩, F.out⟩

end Go.Proofs.YtjclpbaiiklhcaaGreatDoor

/- A disk drawn for Newest, and for Commit: DrawNewest, DrawCommit of the model. -/
namespace Go.Proofs.YtjclpbaiiklhcaaGreatDoor
open Go.RowKit

/-- A disk under way: drawn from N, its box in D, the result's box in R. -/
structure Nn (w1 : World) (N D R : Nat) (cv : Value) (cs : List UInt8) (W : World) (u1 u2 : Value) (ss : List ByteArray) (ws : List Disk.Wr) : Prop where
  d0 : Dw N cv cs w1
  dw : Dw N cv cs W
  gr : w1.grownBy W (some N)
  bx : Bx W D u1 u2
  rs : Bx W R (.slice none 0 0) (.slice none 0 0)
  lo : w1.heap.size ≤ D
  hN : N < w1.heap.size
  hR : R < w1.heap.size
  ne : R ≠ N
  sr : Disk.SR W u1 ss
  wr : Disk.WR W u2 ws
  o1 : Low w1.heap.size u1
  o2 : Low w1.heap.size u2
  l1 : ss.length ≤ 64
  l2 : ws.length ≤ 300
  cp : Disk.CapS u1
  fx : ss.length = 64 → ∀ i, i < 2 → DPt (textAt ss i)
  k6 : ss.length = 64 → Disk.NS w1.heap.size W u1 ss ∧ Disk.NO w1.heap.size W u2 ws
section
variable {w1 W W' : World} {N D R : Nat} {cv u1 u2 : Value} {cs : List UInt8} {ss : List ByteArray} {ws : List Disk.Wr}
theorem Nn.nlt (h : Nn w1 N D R cv cs W u1 u2 ss ws) : N < W.heap.size := Nat.lt_of_lt_of_le h.hN h.gr.size
theorem Nn.step (h : Nn w1 N D R cv cs W u1 u2 ss ws) (g : W.grownBy W' (some N)) (d : Dw N cv cs W') : Nn w1 N D R cv cs W' u1 u2 ss ws :=
  ⟨h.d0, d, gtrans h.gr g, h.bx.grown g (fun e => by have := Option.some.inj e; have := h.lo; have := h.hN; omega), h.rs.grown g (fun e => h.ne (Option.some.inj e)), h.lo, h.hN, h.hR, h.ne, sr_keep h.sr h.o1 h.hN g, wr_keep h.wr h.o2 h.hN g, h.o1, h.o2, h.l1, h.l2, h.cp, h.fx,
    fun e => ⟨ns_off (h.k6 e).1 g h.hN, no_off (h.k6 e).2 g h.hN⟩⟩
theorem Nn.drew (h : Nn w1 N D R cv cs W u1 u2 ss ws) : Nn w1 N D R cv cs W.drew u1 u2 ss ws := h.step (gdrew (World.grownBy.refl _ _)) h.dw.drew
theorem Nn.al (h : Nn w1 N D R cv cs W u1 u2 ss ws) (o : Obj) : Nn w1 N D R cv cs (W.alloc o) u1 u2 ss ws :=
  h.step (galloc _ _ _) (h.dw.grown (galloc _ _ _) h.dw (galloc _ _ none) (by simp) h.nlt)
theorem Nn.below (h : Nn w1 N D R cv cs W u1 u2 ss ws) (hb : Below W.heap.size W W') : Nn w1 N D R cv cs W' u1 u2 ss ws :=
  h.step ⟨hb.os, hb.tape, hb.output, hb.size, fun k hk _ => hb.block k hk⟩ (h.dw.later hb h.nlt)
theorem Nn.store {rb n cap i : Nat} (h : Nn w1 N D R cv cs W (.slice (some ⟨rb, 0, none⟩) n cap) u2 ss ws) (h6 : ss.length = 64) (hi : i < ss.length) (t : ByteArray) (ht : i < 2 → DPt t) :
    Nn w1 N D R cv cs (W.setCell ⟨rb, i, none⟩ (.string t)) (.slice (some ⟨rb, 0, none⟩) n cap) u2 (ss.set i t) ws := by
  obtain ⟨ns, no⟩ := h.k6 h6
  have hsz := h.gr.size
  have hlo := h.lo
  have hN := h.hN
  have hR := h.hR
  obtain ⟨ao, cp, e, hh⟩ := id ns.1
  cases e
  obtain ⟨M, f, hM, hf⟩ : ∃ M f, ss.length * 1 ≤ M ∧ W.rowIs rb 9 M f := by
    rcases hh with hh | ⟨b, M, f, e, hM, hf⟩
    · omega
    · cases e
      exact ⟨M, f, hM, hf⟩
  have hrow : Disk.rowOf (.slice (some ⟨rb, 0, none⟩) ss.length cap) ss.length = some rb := by rw [Disk.rowOf, if_neg (by omega)]; rfl
  have hrb := ns.2.2 rb hrow
  have hne := os_sep ns.1 h.bx (by decide) rb hrow
  have k : W.grownBy (W.setCell ⟨rb, i, none⟩ (.string t)) (some rb) := gset1 W rb i (.string t)
  have g : w1.grownBy (W.setCell ⟨rb, i, none⟩ (.string t)) (some N) := gmix h.gr k (fun e he => by have := Option.some.inj he; omega)
  obtain ⟨c, hc, _⟩ := id hf
  have ns' := Disk.NS.put t ns hi
  have no' := no_sep no k hc (by decide)
  refine ⟨h.d0, ⟨br_off h.d0.br h.dw.br hrb k, h.dw.len, h.dw.dr.grown k (fun e => by have := Option.some.inj e; omega) h.nlt, h.dw.off⟩, g, h.bx.grown k (fun e => hne (Option.some.inj e).symm), h.rs.grown k (fun e => by have := Option.some.inj e; omega), h.lo, hN, hR, h.ne, ns'.2.1, no'.nw.2.1, h.o1, h.o2, by rw [List.length_set]; exact h.l1, h.l2, h.cp, fun _ j hj => ?_, fun _ => ⟨ns', no'⟩⟩
  unfold textAt
  by_cases e : i = j
  · subst e; rw [getD_set_self hi]; exact ht hj
  · rw [getD_set_ne e]; exact h.fx h6 j hj
theorem Nn.sector {rb n cap i : Nat} {C : Prop} (h : Nn w1 N D R cv cs W (.slice (some ⟨rb, 0, none⟩) n cap) u2 ss ws) (h6 : ss.length = 64) (hi : i < 64)
    (k : ∀ s, s ∈ ss → s = textAt ss i → W.cell? ⟨rb, i, none⟩ = some (.string s) → W.frozen? ⟨rb, i, none⟩ = false → C) : C := by
  obtain ⟨b, cp, e, _, _, hc, hf⟩ := (h.k6 h6).1.form (by omega)
  cases e
  have hi' : i < ss.length := by omega
  refine k (ss.getD i ByteArray.empty) ?_ rfl (hc i hi') (hf i)
  rw [List.getD_eq_getElem?_getD, List.getElem?_eq_getElem hi']
  exact List.getElem_mem hi'
theorem Nn.rbN {rb n cap : Nat} (h : Nn w1 N D R cv cs W (.slice (some ⟨rb, 0, none⟩) n cap) u2 ss ws) (h6 : ss.length = 64) : rb ≠ N := by
  obtain ⟨b, cp, e, hB, _⟩ := (h.k6 h6).1.form (by omega)
  cases e
  have := h.hN
  omega
/-- The disk goes into the result. -/
theorem Nn.ret {w : World} (h : Nn w1 N D R cv cs W u1 u2 ss ws) (hb : Below w.heap.size w w1) (hwR : w.heap.size ≤ R) (hwN : w.heap.size ≤ N) :
    Disk.SR ((W.setCell ⟨R, 0, none⟩ u1).setCell ⟨R, 1, none⟩ u2) u1 ss ∧ Disk.WR ((W.setCell ⟨R, 0, none⟩ u1).setCell ⟨R, 1, none⟩ u2) u2 ws ∧ Bx ((W.setCell ⟨R, 0, none⟩ u1).setCell ⟨R, 1, none⟩ u2) R u1 u2 ∧ Below w.heap.size w ((W.setCell ⟨R, 0, none⟩ u1).setCell ⟨R, 1, none⟩ u2) ∧ Low w.heap.size u1 ∧ Low w.heap.size u2 :=
  ⟨sr_off h.sr h.o1 h.hR, wr_off h.wr h.o2 h.hR, h.rs.set u1 u2, gbel (gbel hb h.gr hb.size hwN) (gset (gset1 W R 0 u1) 1 u2) (Nat.le_trans hb.size h.gr.size) hwR,
    fun a n c e hn => Nat.le_trans hb.size (h.o1 a n c e hn), fun a n c e hn => Nat.le_trans hb.size (h.o2 a n c e hn)⟩
end

end Go.Proofs.YtjclpbaiiklhcaaGreatDoor
