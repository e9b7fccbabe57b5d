import Derived.Test.YtjclpbaiiklhcaaGreatDoorZDrawDw
import Derived.Test.YtjclpbaiiklhcaaGreatDoorZV4
import Derived.Deep.AppendSrc
import Derived.Deep.Upon
import Derived.Laws.AppendOwn
/- DrawPut of the model. -/
namespace Go.Proofs.YtjclpbaiiklhcaaGreatDoor
open Go.RowKit

theorem sr_keep {N B : Nat} {v : Value} {w w' : World} {ss : List ByteArray} (h : Disk.SR w v ss) (l : Low B v) (hN : N < B) (g : w.grownBy w' (some N)) : Disk.SR w' v ss := by
  obtain ⟨ao, cap, rfl, hc⟩ := h
  refine ⟨ao, cap, rfl, fun i hi => ?_⟩
  obtain ⟨b, o, rfl, hx⟩ := hc i hi
  have hb : B ≤ b := l _ _ _ rfl (by omega)
  exact ⟨b, o, rfl, g.cell hx (fun e => by have e2 : b = N := Option.some.inj e; omega)⟩
theorem wr_keep {N B : Nat} {v : Value} {w w' : World} {ws : List Disk.Wr} (h : Disk.WR w v ws) (l : Low B v) (hN : N < B) (g : w.grownBy w' (some N)) : Disk.WR w' v ws := by
  obtain ⟨ao, cap, rfl, hc⟩ := h
  refine ⟨ao, cap, rfl, fun i hi => ?_⟩
  obtain ⟨b, o, rfl, hx, hy⟩ := hc i hi
  have hb : B ≤ b := l _ _ _ rfl (by omega)
  exact ⟨b, o, rfl, g.cell hx (fun e => by have e2 : b = N := Option.some.inj e; omega), g.cell hy (fun e => by have e2 : b = N := Option.some.inj e; omega)⟩

theorem bx_off {W : World} {D R : Nat} {u1 u2 : Value} (h : Bx W D u1 u2) (hne : D ≠ R) (x y : Value) : Bx ((W.setCell ⟨R, 0, none⟩ x).setCell ⟨R, 1, none⟩ y) D u1 u2 := h.grown (gset (gset1 W R 0 x) 1 y) (fun e => hne (Option.some.inj e))
theorem sr_off {W : World} {R B : Nat} {v x y : Value} {ss : List ByteArray} (h : Disk.SR W v ss) (l : Low B v) (hR : R < B) : Disk.SR ((W.setCell ⟨R, 0, none⟩ x).setCell ⟨R, 1, none⟩ y) v ss := sr_keep h l hR (gset (gset1 W R 0 x) 1 y)
theorem wr_off {W : World} {R B : Nat} {v x y : Value} {ws : List Disk.Wr} (h : Disk.WR W v ws) (l : Low B v) (hR : R < B) : Disk.WR ((W.setCell ⟨R, 0, none⟩ x).setCell ⟨R, 1, none⟩ y) v ws := wr_keep h l hR (gset (gset1 W R 0 x) 1 y)


end Go.Proofs.YtjclpbaiiklhcaaGreatDoor

/- Draws below numbers beyond 256. -/
namespace Go.Proofs.YtjclpbaiiklhcaaGreatDoor
open Go.RowKit

set_option maxRecDepth 100000 in
set_option maxHeartbeats 1600000 in
theorem Dw.wide {N : Nat} {cv : Value} {cs : List UInt8} {w : World} (h : Dw N cv cs w) (n : Int) (h0 : 256 < n) (h1 : n ≤ 1000000) :
    Calls Tryz.prog 33 #[.pointer (some ⟨N, 0, none⟩), .int .i64 n] w fun x w' => (∃ z : Int, x = .returned (.int .i64 z) ∧ 0 ≤ z ∧ z < n) ∧ w.grownBy w' (some N) ∧ Dw N cv cs w' := by
  have B := h.byte
  have e1 : decide (n ≤ 0) = false := by simp; omega
  have e2 : decide (n ≤ 256) = false := by simp; omega
  go_enter Tryz.func33, Tryz.ntmps33
  go_wp2_with fail
  refine B.mono ?_
  rintro x w1 ⟨⟨z1, rfl, p1, q1⟩, g1, d1⟩
  clear B
  go_wp2_with fail
  refine d1.byte.mono ?_
  rintro x w2 ⟨⟨z2, rfl, p2, q2⟩, g2, d2⟩
  go_wp2_with fail
  refine d2.byte.mono ?_
  rintro x w3 ⟨⟨z3, rfl, p3, q3⟩, g3, d3⟩
  go_wp2_with fail
  refine d3.byte.mono ?_
  rintro x w4 ⟨⟨z4, rfl, p4, q4⟩, g4, d4⟩
  have nz : ¬ n = 0 := by omega
  have G := gtrans (gtrans (gtrans g1 g2) g3) g4
  clear g1 g2 g3 g4 d1 d2 d3
  have z0 : 0 ≤ z1 * 16777216 + z2 * 65536 + z3 * 256 + z4 := by omega
  have hm : Int.tmod (z1 * 16777216 + z2 * 65536 + z3 * 256 + z4) n = (z1 * 16777216 + z2 * 65536 + z3 * 256 + z4) % n := Int.tmod_eq_emod_of_nonneg z0
  have hm0 : 0 ≤ (z1 * 16777216 + z2 * 65536 + z3 * 256 + z4) % n := Int.emod_nonneg _ nz
  have hm1 : (z1 * 16777216 + z2 * 65536 + z3 * 256 + z4) % n < n := Int.emod_lt_of_pos _ (by omega)
  go_wp2
  go_ret
  exact ⟨⟨_, rfl, by first | omega | (rw [hm]; omega), by first | omega | (rw [hm]; omega)⟩, G, d4⟩
theorem Dw.less {N : Nat} {cv : Value} {cs : List UInt8} {w : World} (h : Dw N cv cs w) (n : Int) (h0 : 0 < n) (h1 : n ≤ 1000000) :
    Calls Tryz.prog 33 #[.pointer (some ⟨N, 0, none⟩), .int .i64 n] w fun x w' => (∃ z : Int, x = .returned (.int .i64 z) ∧ 0 ≤ z ∧ z < n) ∧ w.grownBy w' (some N) ∧ Dw N cv cs w' := by
  by_cases k : n ≤ 256
  · exact h.below n h0 k
  · exact h.wide n (by omega) h1
set_option maxHeartbeats 1600000 in
theorem Dw.fromI {N : Nat} {cv : Value} {cs : List UInt8} {w : World} (h : Dw N cv cs w) (lo hi : Int) (h0 : 0 < hi - lo + 1) (h1 : hi - lo + 1 ≤ 1000000) (l0 : -1000000 ≤ lo) (l1 : lo ≤ 1000000) :
    Calls Tryz.prog 36 #[.pointer (some ⟨N, 0, none⟩), .int .i64 lo, .int .i64 hi] w fun x w' => (∃ z : Int, x = .returned (.int .i64 z) ∧ lo ≤ z ∧ z ≤ hi) ∧ w.grownBy w' (some N) ∧ Dw N cv cs w' := by
  have B := h.less (hi - lo + 1) h0 h1
  go_enter Tryz.func36, Tryz.ntmps36
  go_wp2_with fail
  refine B.mono ?_
  rintro x w1 ⟨⟨z, rfl, z0, z1⟩, g1, d1⟩
  go_wp2
  go_ret
  exact ⟨⟨_, rfl, by omega, by omega⟩, g1, d1⟩

end Go.Proofs.YtjclpbaiiklhcaaGreatDoor

/- A text of bytes that is being bent: rows of bytes read, cut, set and appended. -/
namespace Go.Proofs.YtjclpbaiiklhcaaGreatDoor
open Go.RowKit Go.Deep

def ucq (l : List UInt8) : List Value := l.map fun x => .int .u8 (x.toNat : Int)
theorem ucq_len (l : List UInt8) : (ucq l).length = l.length := by simp [ucq]
theorem ucq_at {l : List UInt8} {i : Nat} (h : i < l.length) : (ucq l)[i]? = some (.int .u8 (l[i].toNat : Int)) := by simp [ucq, h]
theorem Tryz.infoUQ : (Tryz.prog.info? 5).map (fun i => (i.zero, i.size, i.bytes)) = some (some (.int .u8 0), 1, 1) := by kernel_rfl
theorem Tryz.underUQ : Tryz.prog.underlying 22 = some (.slice 5) := by kernel_rfl
theorem own_noneQ (w : World) (B : Nat) (hB : B ≤ w.heap.size) : (w.alloc (.cells #[] 5)).ownsRow B 5 1 (.slice (some ⟨w.heap.size, 0, none⟩) 0 0) 0 (ucq []) :=
  ⟨by simp [ucq], .inr ⟨w.heap.size, 0, #[], rfl, hB, heap_alloc_new w _, Nat.le_refl _, by unfold maxLen; omega, by simp, by simp [ucq]⟩⟩
theorem own_offQ {w w' : World} {B e size n N : Nat} {v : Value} {xs : List Value} (h : w.ownsRow B e size v n xs) (hg : w.grownBy w' (some N)) (hN : N < B) : w'.ownsRow B e size v n xs :=
  h.kept hg (by
    cases hv : v.ownBlock with
    | none => exact .inl rfl
    | some k => exact .inr (fun e => by have := (h.lt k hv).1; have e2 := Option.some.inj e; omega))

/-- Bytes that can be read: from some place on, or none at all. -/
def RdB (w : World) (so : Option Addr) (m : List UInt8) : Prop := ∀ j (h : j < m.length), ∃ b o, so = some ⟨b, o, none⟩ ∧ w.cell? ⟨b, o + j, none⟩ = some (.int .u8 (m[j].toNat : Int))
/-- Bytes appended to a row of the call's own. -/
theorem run_appB {w : World} {B : Nat} {v : Value} {l m : List UInt8} (own : w.ownsRow B 5 1 v l.length (ucq l)) (so : Option Addr) (sc : Nat) (hs : RdB w so m) (hl : l.length + m.length ≤ 1000000000) (hB : B ≤ w.heap.size) (ty : TypeId) :
    ∃ v' w', (Builtin.append_ #[22, 22] ty #[v, .slice so m.length sc]).run Tryz.prog w = .ok v' w' ∧ w'.ownsRow B 5 1 v' (l ++ m).length (ucq (l ++ m)) ∧ w.grownBy w' v.ownBlock := by
  obtain ⟨i, hi, hzz⟩ := Option.map_eq_some_iff.1 Tryz.infoUQ
  simp only [Prod.mk.injEq] at hzz
  obtain ⟨hz, hsz, hby⟩ := hzz
  by_cases h0 : m.length = 0
  · obtain rfl := List.length_eq_zero_iff.1 h0
    have hsrc : Src Tryz.prog 1 22 (.slice so 0 sc) 0 [] w := by
      cases so with
      | none => exact Src.ofNil w Tryz.underUQ sc
      | some a => exact Src.ofSlice w Tryz.underUQ a 0 sc [] rfl (fun j u hu => by simp at hu) (by simp)
    rw [List.append_nil]
    obtain ⟨va, vc, rfl, hle⟩ : ∃ a c, v = .slice a l.length c ∧ l.length ≤ c := by
      rcases own.2 with ⟨e, e2⟩ | ⟨g, cap, cur, e, _, _, hle, _⟩
      · exact ⟨none, 0, by rw [e, e2], by omega⟩
      · exact ⟨_, cap, e, hle⟩
    exact ⟨_, w, run_append_nothing w 22 22 ty 5 i Tryz.underUQ hi va l.length vc hle _ (by rw [hsz]; exact hsrc), own, World.grownBy.refl _ _⟩
  · obtain ⟨b, o, rfl, _⟩ := hs 0 (by omega)
    have hnews : ∀ (j : Nat) (u : Value), (ucq m)[j]? = some u → w.cell? ((⟨b, o, none⟩ : Addr).add j) = some u := fun j u hj => by
      have hj' : j < m.length := by
        have := (List.getElem?_eq_some_iff.1 hj).1
        simpa [ucq] using this
      obtain ⟨b', o', e, hcell⟩ := hs j hj'
      simp only [Option.some.injEq, Addr.mk.injEq, and_true] at e
      obtain ⟨rfl, rfl⟩ := e
      rw [Addr.add_lit, hcell, ← hj, ucq_at hj']
    have hone : ∀ u ∈ ucq m, u.oneCell' = true := fun u hu => by
      obtain ⟨s, _, rfl⟩ := List.mem_map.1 hu
      rfl
    obtain ⟨v', w', hr, ow, gr, _⟩ := run_append_own (P := Tryz.prog) w B 22 ty 5 i _ 1 1 Tryz.underUQ hi hz hsz hby rfl (by omega) v l.length (ucq l) own ⟨b, o, none⟩ m.length sc (ucq m) (by simp [ucq]) hnews hone (by unfold maxLen; omega) (by omega) hB
    refine ⟨v', w', hr, ?_, gr⟩
    rw [List.length_append]
    have e : ucq (l ++ m) = ucq l ++ ucq m := by simp [ucq]
    rw [e]
    exact ow
theorem exec_appQ {o : Oper} {a : Act} {w w' : World} {u : Value} (s x : Operand) (ho : o.op = .call { callee := .builtin .append, args := #[s, x], argTypes := #[22, 22] }) (v y : Value) (hs : a.eval s = v) (hx : a.eval x = y)
    (hr : (Builtin.append_ #[22, 22] o.type #[v, y]).run Tryz.prog w = .ok u w') : (execOp a.eval o).run Tryz.prog w = .ok (.value u) w' := by
  unfold execOp
  simp only [ho, resolve, invoke, builtin, Sem.run_bind, Sem.run_pure, Result.andThen_ok, List.map_toArray, List.map_cons, List.map_nil, hs, hx, hr]

/-- A slice of bytes of the function's own: its block lies from B on, and may be written. -/
def BO (B : Nat) (w : World) (v : Value) (l : List UInt8) : Prop := ∃ ao cap, v = .slice ao l.length cap ∧ l.length ≤ cap ∧ ∀ i (h : i < l.length), ∃ g, ao = some ⟨g, 0, none⟩ ∧ B ≤ g ∧ w.cell? ⟨g, i, none⟩ = some (.int .u8 (l[i].toNat : Int)) ∧ w.frozen? ⟨g, i, none⟩ = false
theorem BO.grown {B N : Nat} {w w' : World} {v : Value} {l : List UInt8} (h : BO B w v l) (g : w.grownBy w' (some N)) (hN : N < B) : BO B w' v l := by
  obtain ⟨ao, cap, e, h1, h2⟩ := h
  refine ⟨ao, cap, e, h1, fun i hi => ?_⟩
  obtain ⟨b, e1, hb, hc, hf⟩ := h2 i hi
  have hne : some b ≠ some N := fun e => by have e2 := Option.some.inj e; omega
  have lt := World.block_lt_of_cell? w _ hc
  exact ⟨b, e1, hb, g.cell hc hne, (World.frozen?_of_block (w := w) (g.block b lt hne)).trans hf⟩
theorem BO.owns {B : Nat} {w : World} {v : Value} {l : List UInt8} (h : w.ownsRow B 5 1 v l.length (ucq l)) : BO B w v l := by
  rcases h.2 with ⟨e, e2⟩ | ⟨g, cap, cur, e, hB, hh, hle, _⟩
  · exact ⟨none, 0, by rw [e, e2], by omega, fun i hi => by omega⟩
  · subst e
    refine ⟨_, cap, rfl, hle, fun i hi => ⟨g, rfl, hB, ?_, ?_⟩⟩
    · rw [h.cellAt i (by omega), ucq_at hi]
    · exact h.frozenAt i
theorem BO.take {B : Nat} {w : World} {ao : Option Addr} {cap : Nat} {l : List UInt8} (h : BO B w (.slice ao l.length cap) l) (k : Nat) (hk : k ≤ l.length) : BO B w (.slice ao k cap) (l.take k) := by
  obtain ⟨ao', cap', e, h1, h2⟩ := h
  injection e with q1 q2 q3
  subst q1 q3
  have e2 : (l.take k).length = k := by rw [List.length_take]; omega
  refine ⟨ao, cap, by rw [e2], by omega, fun i hi => ?_⟩
  obtain ⟨b, e1, hb, hc, hf⟩ := h2 i (by omega)
  exact ⟨b, e1, hb, by rw [hc, List.getElem_take], hf⟩
theorem BO.set {B g cap n : Nat} {w : World} {l : List UInt8} (h : BO B w (.slice (some ⟨g, 0, none⟩) n cap) l) (k : Nat) (x : UInt8) (z : Int) (hz : z = (x.toNat : Int)) : BO B (w.setCell ⟨g, k, none⟩ (.int .u8 z)) (.slice (some ⟨g, 0, none⟩) n cap) (l.set k x) := by
  obtain ⟨ao', cap', e, h1, h2⟩ := h
  injection e with q1 q2 q3
  subst q1 q3 hz
  refine ⟨_, cap, by rw [List.length_set, q2], by rw [List.length_set]; exact h1, fun i hi => ?_⟩
  rw [List.length_set] at hi
  obtain ⟨b, e1, hb, hc, hf⟩ := h2 i hi
  injection e1 with e1
  injection e1 with e1
  subst e1
  refine ⟨g, rfl, hb, ?_, (World.frozen?_setCell ..).trans hf⟩
  by_cases hik : k = i
  · subst hik
    rw [World.cell?_setCell_same _ _ _ hc]
    simp
  · rw [World.cell?_setCell_other _ _ _ _ (by simp), hc]
    simp [hik]
theorem BO.conv (w : World) (s : ByteArray) (C : Nat) (hC : s.size ≤ C) : BO w.heap.size ((w.alloc (.cells (bytesRow s C) 5 ((bytesRow s C).size, (bytesRow s C).size + 1))).drew) (.slice (some ⟨w.heap.size, 0, none⟩) s.size C) s.data.toList := by
  have hz : s.data.toList.length = s.size := by simp
  refine ⟨_, C, by rw [hz], by omega, fun i hi => ⟨w.heap.size, rfl, Nat.le_refl _, ?_, ?_⟩⟩
  · show (w.alloc (.cells (bytesRow s C) 5 _)).cell? _ = _
    rw [World.cell?_alloc_mark, bytesRow_at s C i (by omega)]
    simp
  · show (w.alloc (.cells (bytesRow s C) 5 ((bytesRow s C).size, (bytesRow s C).size + 1))).frozen? ⟨w.heap.size, i, none⟩ = false
    rw [World.frozen?_alloc_mark]
    have hbr : s.size ≤ (bytesRow s C).size := by
      unfold bytesRow
      rw [Array.size_append, Array.size_map]
      exact Nat.le_add_right _ _
    have : ¬ (bytesRow s C).size ≤ i := by omega
    simp [this]
/-- The text that the bytes are. -/
theorem BO.text {B : Nat} {w : World} {v : Value} {l : List UInt8} (h : BO B w v l) : (convert 22 9 v).run Tryz.prog w = .ok (.string ⟨l.toArray⟩) w := by
  obtain ⟨ao, cap, rfl, h1, h2⟩ := h
  cases ao with
  | some a => 
    refine conv_back w a cap l _ rfl fun j hj => ?_
    obtain ⟨b, e1, hb, hc, hf⟩ := h2 j hj
    injection e1 with e1
    subst e1
    rw [Addr.add_lit, Nat.zero_add, hc]
  | none =>
    have : l = [] := by
      cases l with
      | nil => rfl
      | cons x l => obtain ⟨b, e1, _⟩ := h2 0 (by simp); cases e1
    subst this
    rw [run_convert_bytes_string _ 22 9 5 _ _ _ (by kernel_rfl) (by kernel_rfl) (by kernel_rfl)]
    rfl
/-- What is read of a part. -/
theorem BO.head {B g cap n : Nat} {w : World} {l : List UInt8} (h : BO B w (.slice (some ⟨g, 0, none⟩) n cap) l) (k : Nat) : RdB w (some ⟨g, 0, none⟩) (l.take k) := by
  intro j hj
  obtain ⟨ao', cap', e, h1, h2⟩ := h
  injection e with q1 q2 q3
  subst q1 q3
  have hj' : j < l.length := by rw [List.length_take] at hj; omega
  obtain ⟨b, e1, hb, hc, hf⟩ := h2 j hj'
  injection e1 with e1
  injection e1 with e1
  subst e1
  exact ⟨g, 0, rfl, by rw [Nat.zero_add, hc, List.getElem_take]⟩
def slA (g cap k : Nat) : Addr := if cap = k then ⟨g, 0, none⟩ else ⟨g, k, none⟩
theorem BO.tail {B g cap n : Nat} {w : World} {l : List UInt8} (h : BO B w (.slice (some ⟨g, 0, none⟩) n cap) l) (k : Nat) : RdB w (some (slA g cap k)) (l.drop k) := by
  intro j hj
  obtain ⟨ao', cap', e, h1, h2⟩ := h
  injection e with q1 q2 q3
  subst q1 q3
  rw [List.length_drop] at hj
  obtain ⟨b, e1, hb, hc, hf⟩ := h2 (k + j) (by omega)
  injection e1 with e1
  injection e1 with e1
  subst e1
  have hne : ¬ cap = k := by omega
  refine ⟨g, k, by unfold slA; rw [if_neg hne], ?_⟩
  rw [hc, List.getElem_drop]
theorem RdB.later {w w' : World} {so : Option Addr} {m : List UInt8} {row : Option Nat} (h : RdB w so m) (g : w.grownBy w' row) (hne : ∀ a, so = some a → some a.block ≠ row) : RdB w' so m := by
  intro j hj
  obtain ⟨b, o, e, hc⟩ := h j hj
  exact ⟨b, o, e, g.cell hc (by have := hne _ e; exact this)⟩
theorem slA_block (g cap k : Nat) : (slA g cap k).block = g := by unfold slA; split <;> rfl
theorem cutB_h (g n cap k : Nat) (hk : k ≤ n) (hn : n ≤ cap) (w : World) : (Instr.slice 22 (.slice (some ⟨g, 0, none⟩) n cap) none (some (.int .i64 (k : Int))) none).run Tryz.prog w = .ok (.slice (some ⟨g, 0, none⟩) k cap) w := by
  have hz : (sizeOf (Tryz.prog.elem 22)).run Tryz.prog w = .ok 1 w := by kernel_rfl
  rw [run_slice_h w 22 _ n cap (by kernel_rfl) .i64 (k : Int) (by omega) (by omega), hz]
  simp only [Result.andThen_ok, sliced]
  by_cases h : cap = 0
  · simp [h]
  · simp [h, Addr.add]
theorem cutB_l (g n cap k : Nat) (hk : k ≤ n) (w : World) : (Instr.slice 22 (.slice (some ⟨g, 0, none⟩) n cap) (some (.int .i64 (k : Int))) none none).run Tryz.prog w = .ok (.slice (some (slA g cap k)) (n - k) (cap - k)) w := by
  have hz : (sizeOf (Tryz.prog.elem 22)).run Tryz.prog w = .ok 1 w := by kernel_rfl
  rw [run_slice_l w 22 _ n cap (by kernel_rfl) .i64 (k : Int) (by omega) (by omega), hz]
  simp only [Result.andThen_ok, sliced]
  unfold slA
  by_cases h : cap = k
  · simp [h]
  · simp [h, Addr.add]
    intro e
    exact e.symm

end Go.Proofs.YtjclpbaiiklhcaaGreatDoor
