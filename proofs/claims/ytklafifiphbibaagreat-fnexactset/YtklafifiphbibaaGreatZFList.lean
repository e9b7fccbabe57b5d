/- A list that rises, with a number in it or without: slices.Insert and slices.Delete at rows of the call's own, listWith of the program. -/
import Derived.Test.YtklafifiphbibaaGreatZMIAdd
import Derived.Test.YtklafifiphbibaaGreatZMCopyR
import Derived.Test.YtklafifiphbibaaGreatZHImpF
import Derived.Test.YtklafifiphbibaaGreatZFPlain
import Derived.Lib.AppendZerosOnto
import Derived.Shelf.SlicesG.Delete
namespace Go.Proofs.YtklafifiphbibaaGreat
open Go.RowKit

/-- append of noughts behind the first numbers of a row that has no room for them. -/
theorem app_zeros {ops : Array Oper} {rest : List Oper} {o : Oper} {a : Act} {Q : Exit → Act → World → Prop} (w : World) (hgd : o.guard = none) (s x : Operand)
    (ho : o.op = .call { callee := .builtin .append, args := #[s, x], argTypes := #[24, 3] })
    (g cap n : Nat) (k : List Int) (hs : a.eval s = .slice (some ⟨g, 0, none⟩) n cap) (hR : RI w g k cap) (hn : n ≤ k.length) (m : Nat) (z : Int) (hz : z = m) (hx : a.eval x = .int .i64 z) (h0 : 0 < m) (hc : cap < n + m) (hb : n + m ≤ 1000000000)
    (h : ∀ c' w', RI w' w.heap.size (k.take n ++ List.replicate m 0) c' → n + m ≤ c' → c' ≤ maxLen → Below w.heap.size w w' → w.heap.size < w'.heap.size → wpList Tryz.prog ops Q rest (a.put o.dst (.slice (some ⟨w.heap.size, 0, none⟩) (n + m) c')) w') :
    wpList Tryz.prog ops Q (o :: rest) a w := by
  subst hz
  obtain ⟨i, hi, hzz⟩ := Option.map_eq_some_iff.1 Tryz.infoI
  simp only [Prod.mk.injEq] at hzz
  obtain ⟨hz, hsz, hby⟩ := hzz
  have hold : (Builtin.firstCells i.size n (.slice (some ⟨g, 0, none⟩) n cap)).run Tryz.prog w.drew = .ok (icells (k.take n)).toArray w.drew := by
    rw [hsz]
    refine run_firstCells_some w.drew 1 n ⟨g, 0, none⟩ n cap (icells (k.take n)) (by rw [icells_length, List.length_take]; omega) (fun j v hj => ?_)
    have hj' : j < n := by
      rcases Nat.lt_or_ge j n with q | q
      · exact q
      · rw [List.getElem?_eq_none (by rw [icells_length, List.length_take]; omega)] at hj; cases hj
    have e := hR.cell (i := j) (by omega)
    have hv : v = .int .i64 (k.getD j 0) := by
      have q : j < k.length := by omega
      simp [icells, hj', q] at hj
      rw [← hj]
      simp [q]
    rw [hv]
    show w.cell? _ = _
    rw [← e]
    unfold Addr.add
    split
    · subst j; rfl
    · simp
  have run := Lib.run_append_grow_zeros (P := Tryz.prog) w 24 3 o.type 2 i (.int .i64 0) .i64 .i64 Tryz.underlying24 Tryz.underlying3 hi hz (some ⟨g, 0, none⟩) n cap (icells (k.take n)) hold m h0 (by omega) hc (by omega) (by rw [hby]; omega) (by rw [hby]; exact growslice_fits hc (by omega))
  have hge := grownCap_ge w (n + m) cap 2
  have hle := grownCap_le_maxLen w (n + m) cap 2 (by unfold maxLen; omega)
  generalize hG : grownCap w (n + m) cap 2 = G at *
  have hlk : (icells (k.take n)).length = n := by rw [icells_length, List.length_take]; omega
  have row : RI (w.drew.alloc (.cells ((icells (k.take n)).toArray ++ Builtin.zeroCells (Value.int .i64 0).cells m ++ Builtin.zeroCells (Value.int .i64 0).cells (G - (n + m))) 2)) w.heap.size (k.take n ++ List.replicate m 0) G := by
    have sz : ((icells (k.take n)).toArray ++ Builtin.zeroCells (Value.int .i64 0).cells m ++ Builtin.zeroCells (Value.int .i64 0).cells (G - (n + m))).size = G := by
      simp [Builtin.zeroCells, Value.cells, hlk]
      omega
    have q := row_any w.drew ((icells (k.take n)).toArray ++ Builtin.zeroCells (Value.int .i64 0).cells m ++ Builtin.zeroCells (Value.int .i64 0).cells (G - (n + m))) 2
    rw [sz] at q
    refine ⟨_, q, by simp; omega, fun j hj => ?_⟩
    simp at hj
    have hj2 : j < n + m := by omega
    show ((icells (k.take n)).toArray ++ Builtin.zeroCells (Value.int .i64 0).cells m ++ Builtin.zeroCells (Value.int .i64 0).cells (G - (n + m)))[j]?.getD undef = _
    rw [Array.getElem?_append_left (by simp [Builtin.zeroCells, Value.cells, hlk]; omega)]
    by_cases h1 : j < n
    · have q2 : j < k.length := by omega
      rw [Array.getElem?_append_left (by simp [hlk]; omega)]
      simp [icells, h1, q2]
      rw [List.getElem?_append_left (by simp; omega)]
      simp [h1, q2]
    · rw [Array.getElem?_append_right (by simp [hlk]; omega)]
      have q3 : j - n < m := by omega
      simp [Builtin.zeroCells, Value.cells, hlk, q3]
      rw [List.getElem?_append_right (by simp; omega)]
      have q4 : j - min n k.length < m := by omega
      simp [q4, Nat.mod_one]
  refine wpList_plain hgd fun K hK => ?_
  unfold Oper.wp execOp
  simp only [ho, resolve, invoke, builtin, Sem.run_bind, Sem.run_pure, Result.andThen_ok, List.map_toArray, List.map_cons, List.map_nil, hs, hx, run]
  exact hK _ _ (h G _ row hge hle ((Below.refl _ _).drew.alloc (by exact Nat.le_refl _) _) (by simp))

theorem ins_row (k : List Int) (i : Nat) (x : Int) (h : i < k.length) : splice (splice (k.take i ++ List.replicate (k.length + 1 - i) 0) i [x]) (i + 1) (k.drop i) = k.take i ++ x :: k.drop i := by
  have l0 : (k.take i ++ List.replicate (k.length + 1 - i) (0 : Int)).length = k.length + 1 := by simp; omega
  have l1 : (splice (k.take i ++ List.replicate (k.length + 1 - i) (0 : Int)) i [x]).length = k.length + 1 := by rw [length_splice _ _ _ (by rw [l0]; simp; omega), l0]
  have l2 : (splice (splice (k.take i ++ List.replicate (k.length + 1 - i) (0 : Int)) i [x]) (i + 1) (k.drop i)).length = k.length + 1 := by rw [length_splice _ _ _ (by rw [l1]; simp; omega), l1]
  refine ilists_eq (by rw [l2]; simp; omega) fun j hj => ?_
  rw [l2] at hj
  rw [splice_get _ _ _ _ (by rw [l1]; simp; omega), splice_get _ _ _ _ (by rw [l0]; simp; omega)]
  simp only [List.length_drop, List.length_singleton, List.getD_eq_getElem?_getD]
  by_cases h1 : j < i
  · rw [if_pos (by omega), if_pos h1, List.getElem?_append_left (by simp; omega), List.getElem?_append_left (by simp; omega)]
  · by_cases h2 : j = i
    · subst h2
      rw [if_pos (by omega), if_neg h1, if_pos (by omega), List.getElem?_append_right (by simp; omega)]
      simp [show min j k.length = j from by omega]
    · rw [if_neg (by omega), if_pos (by omega), List.getElem?_append_right (by simp; omega)]
      simp only [List.length_take, show min i k.length = i from by omega]
      rw [show j - i = (j - (i + 1)) + 1 from by omega, List.getElem?_cons_succ]

set_option maxRecDepth 100000 in
set_option maxHeartbeats 3200000 in
/-- slices.Insert of one number into a row that has no room for it. -/
theorem insert_ri (g vb : Nat) (k : List Int) (i : Nat) (x : Int) (w : World) (hR : RI w g k k.length) (hV : RI w vb [x] 1) (hi : i ≤ k.length) (hk : k.length ≤ 1000000) :
    Calls Tryz.prog 72 #[.slice (some ⟨g, 0, none⟩) k.length k.length, .int .i64 i, .slice (some ⟨vb, 0, none⟩) 1 1] w fun e w' => (∃ g' c', e = .returned (.slice (some ⟨g', 0, none⟩) (k.length + 1) c') ∧ RI w' g' (k.take i ++ x :: k.drop i) c' ∧ (g' = g ∨ (g' = w.heap.size ∧ w.heap.size < w'.heap.size)) ∧ c' ≤ maxLen) ∧ w.grownBy w' (some g) := by
  have iV : IR w (.slice (some ⟨vb, 0, none⟩) 1 1) [x] := hV.ir (Nat.le_refl _)
  by_cases he : i = k.length
  · subst he
    go_enter Tryz.func72, Tryz.ntmps72
    go_wp2_with (at_builtin; refine app_ri _ rfl _ _ rfl g k.length k.length k rfl rfl hR (by omega) (by unfold maxLen; omega) (some ⟨vb, 0, none⟩) 1 1 [x] rfl rfl iV (by simp) ?_; intro g' c' w4 P4 G4 wh mc)
    all_goals (go_ret; exact ⟨⟨g', c', rfl, by rw [List.take_length, List.drop_length]; exact P4, wh, mc⟩, G4⟩)
  · have hlt : i < k.length := by omega
    have lg := hR.lt
    have lv := hV.lt
    have hz2 : ¬ ((i : Int) = (k.length : Int)) := by omega
    have h1 : (k.length : Int) + 1 > k.length := by omega
    have n1 : ¬ k.length = i := by omega
    have i0 : (0 : Int) ≤ i := by omega
    have i1 : (i : Int) ≤ k.length := by omega
    have hcut : IR w (.slice (some ⟨g, i, none⟩) (k.length - i) (k.length - i)) (k.drop i) := hR.cut (Nat.le_refl _)
    have RW : Hid (splice (splice (k.take i ++ List.replicate (k.length + 1 - i) 0) i [x]) (i + 1) (k.drop i) = k.take i ++ x :: k.drop i) := ins_row k i x hlt
    have hsub : (k.length : Int) + 1 - i = ((k.length + 1 - i : Nat) : Int) := by omega
    go_enter Tryz.func72, Tryz.ntmps72
    go_wp2_with (first
      | (at_builtin; refine app_zeros _ rfl _ _ rfl g k.length i k rfl hR hi (k.length + 1 - i) _ rfl rfl (by omega) (by omega) (by omega) ?_; intro c1 w1 R1 cg cm B1 sz1; have nc1 : ¬ c1 = i := (by omega); have nc2 : ¬ c1 = i + 1 := (by omega); have nl : i + (k.length + 1 - i) = k.length + 1 := (by omega); have c63 : c1 ≤ 9223372036854775807 := (by unfold maxLen at cm; omega); have iV1 := iV.later B1; have hR1 := hR.later B1; rw [nl])
      | (refine copy_ints _ rfl _ _ rfl w.heap.size i (k.length + 1 - i) (c1 - i) rfl _ _ R1 (by simp; omega) [x] (some ⟨vb, 0, none⟩) 1 rfl iV1 (by simp; omega) ?_; intro w2 R2 G2))
    have hR2 := hR1.grown G2 (by intro e; cases e; omega)
    have cut2 : IR w2 (.slice (some ⟨g, i, none⟩) (k.length - i) (k.length - i)) (k.drop i) := hR2.cut (Nat.le_refl _)
    have len2 : (splice (k.take i ++ List.replicate (k.length + 1 - i) 0) i [x]).length = k.length + 1 := by
      rw [length_splice _ _ _ (by simp; omega)]
      simp
      omega
    have e2 : k.length + 1 - (i + 1) = k.length - i := by omega
    have k63 : (k.length : Int) + 1 ≤ 9223372036854775807 := by omega
    have i1' : (i : Int) + 1 ≤ (k.length : Int) + 1 := by omega
    have iw : IntKind.i64.wrap ((i : Int) + 1) = (i : Int) + 1 := by rw [IntKind.wrap_i64]; omega
    have in1 : (0 : Int) ≤ (i : Int) + 1 := by omega
    have it1 : ((i : Int) + 1).toNat = i + 1 := by omega
    have hB2 : Below w.heap.size w w2 := Below.grown B1 G2 (by omega) (fun q hq => by cases hq; exact Nat.le_refl _)
    replace RW : Hid (∀ w', RI w' w.heap.size (splice (splice (k.take i ++ List.replicate (k.length + 1 - i) 0) i [x]) (i + 1) (k.drop i)) c1 → RI w' w.heap.size (k.take i ++ x :: k.drop i) c1) := fun w' q => by rw [← RW.out]; exact q
    generalize splice (k.take i ++ List.replicate (k.length + 1 - i) 0) i [x] = Z at *
    clear hcut R1 hR1 iV1 iV B1 G2 hR hV
    go_region_law (refine step_copy_ints rfl _ _ rfl w.heap.size (i + 1) (k.length - i) (c1 - (i + 1)) (by simp [Act.eval, Act.put]) Z c1 (by assumption) (by omega) (k.drop i) (some ⟨g, i, none⟩) (k.length - i) (k.length - i) (by rw [List.length_drop]) (by simp [Act.eval, Act.put]) (by assumption) (Nat.le_refl _) ?_; intro w3 R3 G3)
    go_wp2
    go_ret
    have lt3 := R3.lt
    exact ⟨⟨_, c1, rfl, RW.out _ R3, .inr ⟨rfl, lt3⟩, cm⟩, ⟨G3.os.trans hB2.os, G3.tape.trans hB2.tape, G3.output.trans hB2.output, by omega, fun q lq nq => (G3.block q (by have := hB2.size; show q < w2.heap.size; omega) (by intro e; cases e; omega)).trans (hB2.block q lq)⟩⟩

theorem grown_put (w : World) (q g : Nat) (d : Array Int) : w.grownBy (Sort.putRow (Value.int .i64) (Sort.ahead w q) g 0 d) (some g) :=
  ⟨rfl, rfl, rfl, by simp [Sort.ahead], fun k _ hr => by
    have hne : ¬ g = k := fun e => hr (by rw [e])
    simp [Sort.putRow, Sort.mapBlock, Sort.ahead, Array.getElem?_modify, hne]⟩
theorem grown_of {w w1 w2 : World} {g : Nat} (hb : Below w.heap.size w w1) (hG : w1.grownBy w2 (some g)) : w.grownBy w2 (some g) :=
  ⟨hG.os.trans hb.os, hG.tape.trans hb.tape, hG.output.trans hb.output, Nat.le_trans hb.size hG.size, fun k lk nk => (hG.block k (by have := hb.size; omega) nk).trans (hb.block k lk)⟩
theorem grown_none {w w1 : World} {r : Option Nat} (hb : Below w.heap.size w w1) : w.grownBy w1 r :=
  ⟨hb.os, hb.tape, hb.output, hb.size, fun k lk _ => hb.block k lk⟩

theorem delete_ri (g : Nat) (k : List Int) (p : Nat) (w : World) (hR : RI w g k k.length) (hp : p < k.length) (hk : k.length ≤ 1000000) :
    Calls Tryz.prog 73 #[.slice (some ⟨g, 0, none⟩) k.length k.length, .int .i64 p, .int .i64 ((p : Int) + 1)] w fun e w' => (∃ n, e = .returned (.slice (some ⟨g, 0, none⟩) n k.length) ∧ n = (k.take p ++ k.drop (p + 1)).length ∧ RI w' g (k.take p ++ k.drop (p + 1)) k.length) ∧ w.grownBy w' (some g) := by
  have ho := hR.owns (B := g) (Nat.le_refl _) (by unfold maxLen; omega)
  have hv : (Value.slice (some ⟨g, 0, none⟩) k.length k.length) ≠ .slice none 0 0 := by intro e; cases e
  obtain ⟨g', cap, e, hB, hg, hn, hm, _, hH⟩ := Lib.holds_of_ownsRow (enc := Value.int .i64) (zs := k) ho hv
  simp only [Value.slice.injEq, Option.some.injEq, Addr.mk.injEq, true_and, and_true] at e
  obtain ⟨rfl, rfl⟩ := e
  have C := AnyG.slices_Delete_int Tryz.laysDeleteI g 0 k.length p (p + 1) k w hH (Nat.le_refl _) (by omega) (by omega) (by omega)
  rw [show (((p + 1 : Nat) : Int)) = (p : Int) + 1 from rfl] at C
  refine C.mono ?_
  rintro e w' ⟨rfl, q, rfl⟩
  have len : (k.take p ++ k.drop (p + 1)).length = k.length - 1 := by simp; omega
  have h1 := Lib.ownsRow_putRow (enc := Value.int .i64) (q := q) (k := k.length - 1) (ys := k.take p ++ k.drop (p + 1) ++ List.replicate (p + 1 - p) 0) ho (by simp; omega) (by omega)
  have te : (k.take p ++ k.drop (p + 1) ++ List.replicate (p + 1 - p) 0).take (k.length - 1) = k.take p ++ k.drop (p + 1) := by rw [List.take_append_of_le_length (by omega), List.take_of_length_le (by omega)]
  rw [te] at h1
  refine ⟨⟨_, rfl, by rw [len]; omega, ?_⟩, grown_put w q g _⟩
  rw [← len] at h1
  exact (RI.of_owns h1).1

theorem search_at (g c : Nat) (k : List Int) (x : Int) (w : World) (hR : RI w g k c) (hs : k.Pairwise (· ≤ ·)) (h1 : k.length ≤ 1000000000000) :
    Calls Tryz.prog 71 #[.slice (some ⟨g, 0, none⟩) k.length c, .int .i64 x] w fun e w' => e = .returned (.tuple #[.int .i64 ((k.countP (· < x) : Nat) : Int), .bool (k.contains x)]) ∧ Below w.heap.size w w' := by
  refine (AnyG.slices_BinarySearch_int Tryz.laysSearchI g 0 k.length c k x w (Nat.le_refl _) (by omega) (fun j hj => by rw [Nat.zero_add]; exact hR.cell hj) (by rw [List.take_length]; exact hs)).mono ?_
  rintro e w' ⟨rfl, q, rfl⟩
  rw [List.take_length]
  exact ⟨rfl, below_drewN (Below.refl _ _) _⟩

theorem count_has {k : List Int} {x : Int} (h : k.contains x = true) : k.countP (· < x) < k.length := by
  rcases Nat.lt_or_ge (k.countP (· < x)) k.length with q | q
  · exact q
  · have e := List.countP_eq_length.1 (Nat.le_antisymm List.countP_le_length q) x (List.contains_iff_mem.1 h)
    simp at e

set_option maxRecDepth 100000 in
set_option maxHeartbeats 3200000 in
theorem listWith_any (g : Nat) (k : List Int) (x : Int) (b : Bool) (w : World) (hR : RI w g k k.length) (hs : k.Pairwise (· ≤ ·)) (hk : k.length ≤ 1000000) :
    Calls Tryz.prog 52 #[.slice (some ⟨g, 0, none⟩) k.length k.length, .int .i64 x, .bool b] w fun e w' => (∃ g' n c', e = .returned (.slice (some ⟨g', 0, none⟩) n c') ∧ n = (lw k x b).length ∧ RI w' g' (lw k x b) c' ∧ (g' = g ∨ w.heap.size ≤ g')) ∧ w.grownBy w' (some g) := by
  have S := search_at g k.length k x w hR hs (by omega)
  have cl : k.countP (· < x) ≤ k.length := List.countP_le_length
  have ch := fun q => count_has (k := k) (x := x) q
  have LW : Hid (lw k x b = if b = true then (if k.contains x = true then k else k.take (k.countP (· < x)) ++ x :: k.drop (k.countP (· < x))) else (if k.contains x = true then k.take (k.countP (· < x)) ++ k.drop (k.countP (· < x) + 1) else k)) := (rfl : _ = _)
  generalize lw k x b = L at *
  generalize k.countP (· < x) = p at *
  clear hs
  cases hh : k.contains x
  · rw [hh] at S LW
    clear ch
    cases b
    · go_enter Tryz.func52, Tryz.ntmps52
      go_wp2_with fail
      refine S.mono ?_
      rintro e w1 ⟨rfl, hb1⟩
      go_wp2
      go_ret
      obtain rfl : L = k := LW.out
      exact ⟨⟨g, _, _, rfl, rfl, hR.later hb1, .inl rfl⟩, grown_none hb1⟩
    · go_enter Tryz.func52, Tryz.ntmps52
      go_wp2_with fail
      refine S.mono ?_
      rintro e w1 ⟨rfl, hb1⟩
      have al := bel_one w1 (.cells #[.int .i64 x] 2)
      have hb2 := bel_after hb1 al
      have I := insert_ri g w1.heap.size k p x _ (hR.later hb2) (row_one w1 x) cl hk
      go_wp2_with fail
      refine I.mono ?_
      rintro e w2 ⟨⟨g', c', rfl, R2, wh, mc⟩, G2⟩
      go_wp2
      go_ret
      obtain rfl : L = k.take p ++ x :: k.drop p := LW.out
      refine ⟨⟨g', _, c', rfl, by simp; omega, R2, ?_⟩, grown_of hb2 G2⟩
      rcases wh with e | ⟨e, _⟩
      · exact .inl e
      · right
        rw [e]
        exact hb2.size
  · have hp := ch hh
    rw [hh] at S LW
    clear ch
    cases b
    · go_enter Tryz.func52, Tryz.ntmps52
      go_wp2_with fail
      refine S.mono ?_
      rintro e w1 ⟨rfl, hb1⟩
      have I := delete_ri g k p w1 (hR.later hb1) hp hk
      go_wp2_with fail
      refine I.mono ?_
      rintro e w2 ⟨⟨n, rfl, hn, R2⟩, G2⟩
      replace hn : Hid (n = (k.take p ++ k.drop (p + 1)).length) := hn
      go_wp2
      go_ret
      obtain rfl : L = k.take p ++ k.drop (p + 1) := LW.out
      exact ⟨⟨g, n, _, rfl, hn.out, R2, .inl rfl⟩, grown_of hb1 G2⟩
    · go_enter Tryz.func52, Tryz.ntmps52
      go_wp2_with fail
      refine S.mono ?_
      rintro e w1 ⟨rfl, hb1⟩
      go_wp2
      go_ret
      obtain rfl : L = k := LW.out
      exact ⟨⟨g, _, _, rfl, rfl, hR.later hb1, .inl rfl⟩, grown_none hb1⟩

end Go.Proofs.YtklafifiphbibaaGreat
