/- Rows of numbers that a call has made: read, written, copied; heaps of such rows. -/
import Derived.Test.YtgacacbncefeaaaGreatZHLawC
import Derived.Laws.CopyOwn
namespace Go.Proofs.YtgacacbncefeaaaGreat
open Go.RowKit

/-- The row g, of c cells, holds these numbers from its beginning on, and may be written. -/
def RI (w : World) (g : Nat) (l : List Int) (c : Nat) : Prop := ∃ f, w.rowIs g 2 c f ∧ l.length ≤ c ∧ ∀ i, i < l.length → f i = .int .i64 (l.getD i 0)
theorem RI.lt {w : World} {g c : Nat} {l : List Int} (h : RI w g l c) : g < w.heap.size := by
  obtain ⟨f, h, _⟩ := h
  exact h.lt
theorem RI.le {w : World} {g c : Nat} {l : List Int} (h : RI w g l c) : l.length ≤ c := by
  obtain ⟨f, h, k, _⟩ := h
  exact k
theorem RI.block {w w' : World} {g c : Nat} {l : List Int} (h : RI w g l c) (hb : w'.heap[g]? = w.heap[g]?) : RI w' g l c := by
  obtain ⟨f, h, r⟩ := h
  exact ⟨f, h.of_block hb, r⟩
theorem RI.later {w w' : World} {g c : Nat} {l : List Int} (h : RI w g l c) (hb : Below w.heap.size w w') : RI w' g l c := h.block (hb.block g h.lt)
theorem RI.grown {w w' : World} {g c : Nat} {l : List Int} {r : Option Nat} (h : RI w g l c) (hg : w.grownBy w' r) (hr : some g ≠ r) : RI w' g l c := h.block (hg.block g h.lt hr)
theorem RI.cell {w : World} {g c : Nat} {l : List Int} (h : RI w g l c) {i : Nat} (hi : i < l.length) : w.cell? ⟨g, i, none⟩ = some (.int .i64 (l.getD i 0)) := by
  obtain ⟨f, h, hN, e⟩ := h
  rw [h.cell (by omega), e i hi]
theorem RI.frozen {w : World} {g c : Nat} {l : List Int} (h : RI w g l c) (i : Nat) : w.frozen? ⟨g, i, none⟩ = false := by
  obtain ⟨f, h, hN, e⟩ := h
  exact h.frozen i
theorem RI.ir {w : World} {g c cap : Nat} {l : List Int} (h : RI w g l c) (hc : l.length ≤ cap) : IR w (.slice (some ⟨g, 0, none⟩) l.length cap) l :=
  ⟨_, _, rfl, hc, fun i hi => ⟨g, 0, rfl, by rw [Nat.zero_add]; exact h.cell hi⟩⟩
theorem IR.keep' {w w' : World} {v : Value} {l : List Int} (h : IR w v l) (hk : ∀ a n c, v = .slice (some a) n c → 0 < n → w'.heap[a.block]? = w.heap[a.block]?) : IR w' v l := by
  obtain ⟨ao, cap, rfl, hle, h⟩ := h
  refine ⟨ao, cap, rfl, hle, fun i hi => ?_⟩
  obtain ⟨b, o, rfl, hc⟩ := h i hi
  have q : w'.heap[b]? = w.heap[b]? := hk _ _ _ rfl (by omega)
  exact ⟨b, o, rfl, (World.cell?_of_block (w := w) (a := ⟨b, o + i, none⟩) q).trans hc⟩
theorem RI.os {w : World} {g c cap : Nat} {l : List Int} (h : RI w g l c) : Disk.OS w 2 1 (.slice (some ⟨g, 0, none⟩) l.length cap) l.length := by
  obtain ⟨f, h, hN, e⟩ := h
  exact ⟨_, _, rfl, .inr ⟨g, c, f, rfl, by omega, h⟩⟩
theorem RI.set {w : World} {g c : Nat} {l : List Int} (h : RI w g l c) (i : Nat) (x : Int) : RI (w.setCell ⟨g, i, none⟩ (.int .i64 x)) g (l.set i x) c := by
  obtain ⟨f, h, hN, e⟩ := h
  refine ⟨_, h.set i _, by rw [List.length_set]; exact hN, fun j hj => ?_⟩
  rw [List.length_set] at hj
  show (if j = i then Value.int .i64 x else f j) = _
  by_cases q : j = i
  · subst q
    rw [if_pos rfl]
    simp [hj]
  · rw [if_neg q, e j hj]
    simp [List.getD_eq_getElem?_getD, Ne.symm q]
theorem RI.setOther {w : World} {g b i c : Nat} {l : List Int} (h : RI w g l c) (hb : g ≠ b) (v : Value) : RI (w.setCell ⟨b, i, none⟩ v) g l c := by
  obtain ⟨f, h, r⟩ := h
  exact ⟨f, h.setOther (a := ⟨b, i, none⟩) hb v, r⟩
theorem RI.of_owns {w : World} {B g cap : Nat} {l : List Int} (h : w.ownsRow B 2 1 (.slice (some ⟨g, 0, none⟩) l.length cap) l.length (icells l)) : RI w g l cap ∧ B ≤ g ∧ cap ≤ maxLen := by
  obtain ⟨hl, h⟩ := h
  rcases h with ⟨e, _⟩ | ⟨g', cap', cur, e, hB, hh, h1, h2, h3, h4⟩
  · cases e
  · simp only [Value.slice.injEq, Option.some.injEq, Addr.mk.injEq, true_and, and_true] at e
    obtain ⟨rfl, rfl⟩ := e
    refine ⟨⟨fun i => cur[i]?.getD undef, ⟨cur, hh, by omega, fun i hi => by have q : i < cur.size := (by omega); simp [q]⟩, h1, fun i hi => ?_⟩, hB, h2⟩
    have q : (cur.toList.take (l.length * 1))[i]? = (icells l)[i]? := by rw [h4]
    rw [List.getElem?_take_of_lt (by omega)] at q
    show cur[i]?.getD undef = _
    rw [← Array.getElem?_toList, q]
    simp [icells, hi]
theorem RI.owns {w : World} {B g cap : Nat} {l : List Int} (h : RI w g l cap) (hB : B ≤ g) (hm : cap ≤ maxLen) : w.ownsRow B 2 1 (.slice (some ⟨g, 0, none⟩) l.length cap) l.length (icells l) := by
  obtain ⟨f, ⟨cur, hh, hs, hc⟩, hle, e⟩ := h
  refine ⟨by rw [icells_length]; omega, .inr ⟨g, cap, cur, rfl, hB, hh, hle, hm, by omega, ?_⟩⟩
  refine List.ext_getElem? fun i => ?_
  by_cases hi : i < l.length
  · rw [List.getElem?_take_of_lt (by omega), Array.getElem?_toList, hc i (by omega), e i hi]
    simp [icells, hi]
  · rw [List.getElem?_eq_none (by rw [List.length_take]; omega), List.getElem?_eq_none (by rw [icells_length]; omega)]

theorem splice_get (W l : List Int) (off i : Nat) (h : off + l.length ≤ W.length) : (splice W off l).getD i 0 = if i < off then W.getD i 0 else if i < off + l.length then l.getD (i - off) 0 else W.getD i 0 := by
  unfold splice
  simp only [List.getD_eq_getElem?_getD]
  by_cases h1 : i < off
  · rw [if_pos h1, List.getElem?_append_left (by rw [List.length_take]; omega), List.getElem?_take_of_lt h1]
  · rw [if_neg h1, List.getElem?_append_right (by rw [List.length_take]; omega), List.length_take, show min off W.length = off from by omega]
    by_cases h2 : i < off + l.length
    · rw [if_pos h2, List.getElem?_append_left (by omega)]
    · rw [if_neg h2, List.getElem?_append_right (by omega), List.getElem?_drop, show off + l.length + (i - off - l.length) = i from by omega]

theorem set_row_ri {w : World} {g off : Nat} {W l : List Int} {cur : Array Value} (hg : w.heap[g]? = some (.cells cur 2 (0, 0))) (hW : W.length ≤ cur.size) (hc : ∀ i, i < W.length → cur[i]? = some (.int .i64 (W.getD i 0))) (h : off + l.length ≤ W.length) :
    RI (w.setRow g (cur.toList.take off ++ (icells l ++ cur.toList.drop (off + (icells l).length))).toArray) g (splice W off l) cur.size := by
  have hlen := length_splice W off l h
  have hl := icells_length l
  refine ⟨fun i => (cur.toList.take off ++ (icells l ++ cur.toList.drop (off + (icells l).length)))[i]?.getD undef, ⟨_, setRow_heap w g cur _ 2 _ hg, ?_, fun i hi => ?_⟩, by omega, fun i hi => ?_⟩
  · simp
    omega
  · have : i < (cur.toList.take off ++ (icells l ++ cur.toList.drop (off + (icells l).length))).length := by simp; omega
    rw [List.getElem?_toArray]
    show (cur.toList.take off ++ (icells l ++ cur.toList.drop (off + (icells l).length)))[i]? = some ((cur.toList.take off ++ (icells l ++ cur.toList.drop (off + (icells l).length)))[i]?.getD undef)
    rw [List.getElem?_eq_getElem this]
    rfl
  · rw [hlen] at hi
    rw [splice_get W l off i h]
    show (cur.toList.take off ++ (icells l ++ cur.toList.drop (off + (icells l).length)))[i]?.getD undef = _
    have hci : cur.toList[i]? = some (.int .i64 (W.getD i 0)) := by rw [Array.getElem?_toList]; exact hc i hi
    have hcl : cur.toList.length = cur.size := by simp
    by_cases h1 : i < off
    · rw [if_pos h1, List.getElem?_append_left (by rw [List.length_take]; omega), List.getElem?_take_of_lt h1, hci]
      rfl
    · rw [if_neg h1, List.getElem?_append_right (by rw [List.length_take]; omega), List.length_take, show min off cur.toList.length = off from by omega]
      by_cases h2 : i < off + l.length
      · rw [if_pos h2, List.getElem?_append_left (by omega)]
        have : i - off < l.length := by omega
        simp [icells, this]
      · rw [if_neg h2, List.getElem?_append_right (by omega), List.getElem?_drop, show off + (icells l).length + (i - off - (icells l).length) = i from by omega, hci]
        rfl

theorem grown_setRow (w : World) (g : Nat) (cs : Array Value) : w.grownBy (w.setRow g cs) (some g) :=
  ⟨rfl, rfl, rfl, by simp [World.setRow], fun k _ hr => setRow_other w g k cs (fun e => hr (by rw [e]))⟩

/-- copy into a row of the call's own. -/
theorem copy_ints {ops : Array Oper} {rest : List Oper} {o : Oper} {a : Act} {Q : Exit → Act → World → Prop} (w : World) (hgd : o.guard = none) (d s : Operand)
    (ho : o.op = .call { callee := .builtin .copy, args := #[d, s], argTypes := #[26, 26] })
    (g off dLen dCap : Nat) (hd : a.eval d = .slice (some ⟨g, off, none⟩) dLen dCap) (W : List Int) (c : Nat) (hrow : RI w g W c) (hW : off + dLen ≤ W.length)
    (l : List Int) (sp : Option Addr) (sCap : Nat) (hs : a.eval s = .slice sp l.length sCap) (hsv : IR w (.slice sp l.length sCap) l) (hl : l.length ≤ dLen)
    (h : ∀ w', RI w' g (splice W off l) c → w.grownBy w' (some g) → wpList Tryz.prog ops Q rest (a.put o.dst (goInt l.length)) w') : wpList Tryz.prog ops Q (o :: rest) a w := by
  have hsz : (Tryz.prog.info? 2).map (·.size) = some 1 := by kernel_rfl
  by_cases h0 : l.length = 0
  · obtain rfl : l = [] := List.eq_nil_of_length_eq_zero h0
    refine wpList_copy_nothing hgd d s 26 26 ho 2 Tryz.underlying26 hsz _ _ _ _ _ _ hd hs (by simp) ?_
    refine h w ?_ ⟨rfl, rfl, rfl, Nat.le_refl _, fun _ _ _ => rfl⟩
    rw [show splice W off [] = W from by simp [splice]]
    exact hrow
  · obtain ⟨f, ⟨cur, hg, hcs, hcf⟩, hN, e⟩ := hrow
    obtain ⟨ao, cap, e1, _, hc⟩ := hsv
    simp only [Value.slice.injEq, true_and] at e1
    obtain ⟨rfl, rfl⟩ := e1
    obtain ⟨b, q, rfl, _⟩ := hc 0 (by omega)
    have hcl := icells_length l
    refine wpList_copy_own hgd d s 26 26 ho 2 Tryz.underlying26 hsz g off dLen dCap ⟨b, q, none⟩ l.length sCap hd hs cur 2 hg (icells l) (by rw [hcl]; exact (Nat.min_eq_left hl).symm) (fun j v hj => ?_) (by omega) (fun v hv => ?_) ?_
    · have hj' : j < l.length := by
        rcases Nat.lt_or_ge j l.length with k | k
        · exact k
        · rw [List.getElem?_eq_none (by omega)] at hj; cases hj
      obtain ⟨b', q', e2, hcell⟩ := hc j hj'
      simp only [Option.some.injEq, Addr.mk.injEq, and_true] at e2
      obtain ⟨rfl, rfl⟩ := e2
      have hv : v = .int .i64 (l.getD j 0) := by
        simp [icells, hj'] at hj
        rw [← hj]
        simp [hj']
      rw [hv, ← hcell]
      unfold Addr.add
      split
      · subst j; rfl
      · simp
    · obtain ⟨z, _, rfl⟩ := List.mem_map.1 hv
      rfl
    · rw [hcl]
      have R := set_row_ri (w := w) (g := g) (off := off) (W := W) (l := l) hg (by omega) (fun i hi => by rw [hcf i (by omega), e i hi]) (by omega)
      rw [hcl, hcs] at R
      exact h _ R (grown_setRow w g _)

theorem splice_all (W l : List Int) (h : l.length = W.length) : splice W 0 l = l := by
  unfold splice
  rw [List.take_zero, List.nil_append, Nat.zero_add, h, List.drop_length, List.append_nil]

theorem made_ri (w : World) (n : Nat) : RI (w.alloc (.cells (madeCells #[.int .i64 0] n) 2)) w.heap.size (List.replicate n 0) n := by
  refine ⟨_, World.rowIs_made w _ n 2, by simp, fun i hi => ?_⟩
  simp at hi
  simp [hi]

set_option maxRecDepth 100000 in
set_option maxHeartbeats 800000 in
theorem copyList_any (v : Value) (l : List Int) (w : World) (hv : IR w v l) (h1 : l.length ≤ 1000000000000) :
    Calls Tryz.prog 76 #[v] w fun x w' => (x = .returned (.slice (some ⟨w.heap.size, 0, none⟩) l.length l.length) ∧ RI w' w.heap.size l l.length ∧ w.heap.size < w'.heap.size) ∧ Below w.heap.size w w' := by
  obtain ⟨ao, cap, rfl, hle, hc⟩ := id hv
  have hmk := make28 l.length (by omega)
  have hR := made_ri w l.length
  have hb0 := bel_one w (.cells (madeCells #[.int .i64 0] l.length) 2)
  have hv0 := hv.later hb0
  have SP : Hid (splice (List.replicate l.length 0) 0 l = l) := splice_all _ _ (by simp)
  clear hv hc
  go_enter Tryz.func76, Tryz.ntmps76
  go_wp2_with (refine copy_ints _ rfl _ _ rfl w.heap.size 0 l.length l.length rfl _ _ hR (by simp) l ao cap rfl hv0 (Nat.le_refl _) ?_; intro w1 R1 g1)
  have hb1 : Below w.heap.size w w1 := Below.grown hb0 g1 (by simp) (fun k hk => by cases hk; exact Nat.le_refl _)
  rw [SP.out] at R1
  have lt := R1.lt
  go_ret
  exact ⟨⟨rfl, R1, lt⟩, hb1⟩

def zeroH : Hp := ⟨[], [], 0, 0, 0, false, 0, []⟩
theorem zero_row {b : Nat} (k : Disk.rowOf (.slice none 0 0) 0 = some b) : False := by
  unfold Disk.rowOf at k
  rw [if_pos rfl] at k
  cases k
theorem zero_hn (B : Nat) (w : World) : HN B w (.agg #[.slice none 0 0, .slice none 0 0, .int .i64 0, .int .i64 0, .int .i64 0, .bool false, .int .i64 0, .slice none 0 0]) zeroH :=
  ⟨_, _, _, rfl, ⟨⟨_, _, rfl, .inl rfl⟩, ⟨_, _, rfl, .inl rfl⟩, ⟨_, _, rfl, .inl rfl⟩⟩, ⟨⟨_, _, rfl, Nat.le_refl _, fun i hi => absurd hi (Nat.not_lt_zero i)⟩, ⟨_, _, rfl, Nat.le_refl _, fun i hi => absurd hi (Nat.not_lt_zero i)⟩, ⟨_, _, rfl, Nat.le_refl _, fun i hi => absurd hi (Nat.not_lt_zero i)⟩⟩,
    ⟨fun _ k => (zero_row k).elim, fun _ k => (zero_row k).elim, fun _ k => (zero_row k).elim⟩, fun _ _ k => zero_row k, fun _ _ k => zero_row k, fun _ _ k => zero_row k⟩
theorem HN.of_rows {B g1 g2 g3 c1 c2 c3 : Nat} {w : World} {h : Hp} (r1 : RI w g1 h.words c1) (r2 : RI w g2 h.roots c2) (r3 : RI w g3 h.kept c3)
    (b1 : B ≤ g1) (b2 : B ≤ g2) (b3 : B ≤ g3) (d12 : g1 ≠ g2) (d13 : g1 ≠ g3) (d23 : g2 ≠ g3) :
    HN B w (.agg #[.slice (some ⟨g1, 0, none⟩) h.words.length c1, .slice (some ⟨g2, 0, none⟩) h.roots.length c2, .int .i64 h.old, .int .i64 h.eden, .int .i64 h.surv, .bool h.flip, .int .i64 h.hash, .slice (some ⟨g3, 0, none⟩) h.kept.length c3]) h :=
  ⟨_, _, _, rfl, ⟨r1.os, r2.os, r3.os⟩, ⟨r1.ir r1.le, r2.ir r2.le, r3.ir r3.le⟩, ⟨fun b k => by have := rowof k; omega, fun b k => by have := rowof k; omega, fun b k => by have := rowof k; omega⟩,
    fun b k k' => by have := rowof k; have := rowof k'; omega, fun b k k' => by have := rowof k; have := rowof k'; omega, fun b k k' => by have := rowof k; have := rowof k'; omega⟩

end Go.Proofs.YtgacacbncefeaaaGreat
