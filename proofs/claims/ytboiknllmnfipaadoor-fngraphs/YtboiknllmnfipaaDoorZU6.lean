
import Derived.Test.YtboiknllmnfipaaDoorZU5
import Derived.Laws.CopyOwn
import Derived.Test.YtboiknllmnfipaaDoorZU4
/- Rows of numbers that a call has made: read, written, copied; heaps of such rows. -/
namespace Go.Proofs.YtboiknllmnfipaaDoor
open Go.RowKit

/-- The row g, of c cells, holds these numbers from its beginning on, and may be written. -/
def RI (w : World) (g : Nat) (l : List Int) (c : Nat) : Prop := ∃ f, w.rowIs g 2 c f ∧ l.length ≤ c ∧ ∀ i, i < l.length → f i = .int .i64 (l.getD i 0)
theorem RI.lt {w : World} {g c : Nat} {l : List Int} (h : RI w g l c) : g < w.heap.size := by
  obtain ⟨f, h, _⟩ := h
  exact h.lt
theorem RI.le {w : World} {g c : Nat} {l : List Int} (h : RI w g l c) : l.length ≤ c := by
  obtain ⟨f, h, k, _⟩ := h
  exact k
theorem RI.block {w w' : World} {g c : Nat} {l : List Int} (h : RI w g l c) (hb : w'.heap[g]? = w.heap[g]?) : RI w' g l c := by
  obtain ⟨f, h, r⟩ := h
  exact ⟨f, h.of_block hb, r⟩
theorem RI.later {w w' : World} {g c : Nat} {l : List Int} (h : RI w g l c) (hb : Below w.heap.size w w') : RI w' g l c := h.block (hb.block g h.lt)
theorem RI.grown {w w' : World} {g c : Nat} {l : List Int} {r : Option Nat} (h : RI w g l c) (hg : w.grownBy w' r) (hr : some g ≠ r) : RI w' g l c := h.block (hg.block g h.lt hr)
theorem RI.cell {w : World} {g c : Nat} {l : List Int} (h : RI w g l c) {i : Nat} (hi : i < l.length) : w.cell? ⟨g, i, none⟩ = some (.int .i64 (l.getD i 0)) := by
  obtain ⟨f, h, hN, e⟩ := h
  rw [h.cell (by omega), e i hi]
theorem RI.frozen {w : World} {g c : Nat} {l : List Int} (h : RI w g l c) (i : Nat) : w.frozen? ⟨g, i, none⟩ = false := by
  obtain ⟨f, h, hN, e⟩ := h
  exact h.frozen i
theorem RI.ir {w : World} {g c cap : Nat} {l : List Int} (h : RI w g l c) (hc : l.length ≤ cap) : IR w (.slice (some ⟨g, 0, none⟩) l.length cap) l :=
  ⟨_, _, rfl, hc, fun i hi => ⟨g, 0, rfl, by rw [Nat.zero_add]; exact h.cell hi⟩⟩
theorem IR.keep' {w w' : World} {v : Value} {l : List Int} (h : IR w v l) (hk : ∀ a n c, v = .slice (some a) n c → 0 < n → w'.heap[a.block]? = w.heap[a.block]?) : IR w' v l := by
  obtain ⟨ao, cap, rfl, hle, h⟩ := h
  refine ⟨ao, cap, rfl, hle, fun i hi => ?_⟩
  obtain ⟨b, o, rfl, hc⟩ := h i hi
  have q : w'.heap[b]? = w.heap[b]? := hk _ _ _ rfl (by omega)
  exact ⟨b, o, rfl, (World.cell?_of_block (w := w) (a := ⟨b, o + i, none⟩) q).trans hc⟩
theorem RI.os {w : World} {g c cap : Nat} {l : List Int} (h : RI w g l c) : Disk.OS w 2 1 (.slice (some ⟨g, 0, none⟩) l.length cap) l.length := by
  obtain ⟨f, h, hN, e⟩ := h
  exact ⟨_, _, rfl, .inr ⟨g, c, f, rfl, by omega, h⟩⟩
theorem RI.set {w : World} {g c : Nat} {l : List Int} (h : RI w g l c) (i : Nat) (x : Int) : RI (w.setCell ⟨g, i, none⟩ (.int .i64 x)) g (l.set i x) c := by
  obtain ⟨f, h, hN, e⟩ := h
  refine ⟨_, h.set i _, by rw [List.length_set]; exact hN, fun j hj => ?_⟩
  rw [List.length_set] at hj
  show (if j = i then Value.int .i64 x else f j) = _
  by_cases q : j = i
  · subst q
    rw [if_pos rfl]
    simp [hj]
  · rw [if_neg q, e j hj]
    simp [List.getD_eq_getElem?_getD, Ne.symm q]
theorem RI.setOther {w : World} {g b i c : Nat} {l : List Int} (h : RI w g l c) (hb : g ≠ b) (v : Value) : RI (w.setCell ⟨b, i, none⟩ v) g l c := by
  obtain ⟨f, h, r⟩ := h
  exact ⟨f, h.setOther (a := ⟨b, i, none⟩) hb v, r⟩
theorem RI.of_owns {w : World} {B g cap : Nat} {l : List Int} (h : w.ownsRow B 2 1 (.slice (some ⟨g, 0, none⟩) l.length cap) l.length (icells l)) : RI w g l cap ∧ B ≤ g ∧ cap ≤ maxLen := by
  obtain ⟨hl, h⟩ := h
  rcases h with ⟨e, _⟩ | ⟨g', cap', cur, e, hB, hh, h1, h2, h3, h4⟩
  · cases e
  · simp only [Value.slice.injEq, Option.some.injEq, Addr.mk.injEq, true_and, and_true] at e
    obtain ⟨rfl, rfl⟩ := e
    refine ⟨⟨fun i => cur[i]?.getD undef, ⟨cur, hh, by omega, fun i hi => by have q : i < cur.size := (by omega); simp [q]⟩, h1, fun i hi => ?_⟩, hB, h2⟩
    have q : (cur.toList.take (l.length * 1))[i]? = (icells l)[i]? := by rw [h4]
    rw [List.getElem?_take_of_lt (by omega)] at q
    show cur[i]?.getD undef = _
    rw [← Array.getElem?_toList, q]
    simp [icells, hi]
theorem RI.owns {w : World} {B g cap : Nat} {l : List Int} (h : RI w g l cap) (hB : B ≤ g) (hm : cap ≤ maxLen) : w.ownsRow B 2 1 (.slice (some ⟨g, 0, none⟩) l.length cap) l.length (icells l) := by
  obtain ⟨f, ⟨cur, hh, hs, hc⟩, hle, e⟩ := h
  refine ⟨by rw [icells_length]; omega, .inr ⟨g, cap, cur, rfl, hB, hh, hle, hm, by omega, ?_⟩⟩
  refine List.ext_getElem? fun i => ?_
  by_cases hi : i < l.length
  · rw [List.getElem?_take_of_lt (by omega), Array.getElem?_toList, hc i (by omega), e i hi]
    simp [icells, hi]
  · rw [List.getElem?_eq_none (by rw [List.length_take]; omega), List.getElem?_eq_none (by rw [icells_length]; omega)]

theorem splice_get (W l : List Int) (off i : Nat) (h : off + l.length ≤ W.length) : (splice W off l).getD i 0 = if i < off then W.getD i 0 else if i < off + l.length then l.getD (i - off) 0 else W.getD i 0 := by
  unfold splice
  simp only [List.getD_eq_getElem?_getD]
  by_cases h1 : i < off
  · rw [if_pos h1, List.getElem?_append_left (by rw [List.length_take]; omega), List.getElem?_take_of_lt h1]
  · rw [if_neg h1, List.getElem?_append_right (by rw [List.length_take]; omega), List.length_take, show min off W.length = off from by omega]
    by_cases h2 : i < off + l.length
    · rw [if_pos h2, List.getElem?_append_left (by omega)]
    · rw [if_neg h2, List.getElem?_append_right (by omega), List.getElem?_drop, show off + l.length + (i - off - l.length) = i from by omega]

theorem set_row_ri {w : World} {g off : Nat} {W l : List Int} {cur : Array Value} (hg : w.heap[g]? = some (.cells cur 2 (0, 0))) (hW : W.length ≤ cur.size) (hc : ∀ i, i < W.length → cur[i]? = some (.int .i64 (W.getD i 0))) (h : off + l.length ≤ W.length) :
    RI (w.setRow g (cur.toList.take off ++ (icells l ++ cur.toList.drop (off + (icells l).length))).toArray) g (splice W off l) cur.size := by
  have hlen := length_splice W off l h
  have hl := icells_length l
  refine ⟨fun i => (cur.toList.take off ++ (icells l ++ cur.toList.drop (off + (icells l).length)))[i]?.getD undef, ⟨_, setRow_heap w g cur _ 2 _ hg, ?_, fun i hi => ?_⟩, by omega, fun i hi => ?_⟩
  · simp
    omega
  · have : i < (cur.toList.take off ++ (icells l ++ cur.toList.drop (off + (icells l).length))).length := by simp; omega
    rw [List.getElem?_toArray]
    show (cur.toList.take off ++ (icells l ++ cur.toList.drop (off + (icells l).length)))[i]? = some ((cur.toList.take off ++ (icells l ++ cur.toList.drop (off + (icells l).length)))[i]?.getD undef)
    rw [List.getElem?_eq_getElem this]
    rfl
  · rw [hlen] at hi
    rw [splice_get W l off i h]
    show (cur.toList.take off ++ (icells l ++ cur.toList.drop (off + (icells l).length)))[i]?.getD undef = _
    have hci : cur.toList[i]? = some (.int .i64 (W.getD i 0)) := by rw [Array.getElem?_toList]; exact hc i hi
    have hcl : cur.toList.length = cur.size := by simp
    by_cases h1 : i < off
    · rw [if_pos h1, List.getElem?_append_left (by rw [List.length_take]; omega), List.getElem?_take_of_lt h1, hci]
      rfl
    · rw [if_neg h1, List.getElem?_append_right (by rw [List.length_take]; omega), List.length_take, show min off cur.toList.length = off from by omega]
      by_cases h2 : i < off + l.length
      · rw [if_pos h2, List.getElem?_append_left (by omega)]
        have : i - off < l.length := by omega
        simp [icells, this]
      · rw [if_neg h2, List.getElem?_append_right (by omega), List.getElem?_drop, show off + (icells l).length + (i - off - (icells l).length) = i from by omega, hci]
        rfl

theorem grown_setRow (w : World) (g : Nat) (cs : Array Value) : w.grownBy (w.setRow g cs) (some g) :=
  ⟨rfl, rfl, rfl, by simp [World.setRow], fun k _ hr => setRow_other w g k cs (fun e => hr (by rw [e]))⟩

theorem made_ri (w : World) (n : Nat) : RI (w.alloc (.cells (madeCells #[.int .i64 0] n) 2)) w.heap.size (List.replicate n 0) n := by
  refine ⟨_, World.rowIs_made w _ n 2, by simp, fun i hi => ?_⟩
  simp at hi
  simp [hi]


def zeroH : Hp := ⟨[], [], 0, 0, 0, false, 0, []⟩
theorem zero_row {b : Nat} (k : Disk.rowOf (.slice none 0 0) 0 = some b) : False := by
  unfold Disk.rowOf at k
  rw [if_pos rfl] at k
  cases k
theorem HN.of_rows {B g1 g2 g3 c1 c2 c3 : Nat} {w : World} {h : Hp} (r1 : RI w g1 h.words c1) (r2 : RI w g2 h.roots c2) (r3 : RI w g3 h.kept c3)
    (b1 : B ≤ g1) (b2 : B ≤ g2) (b3 : B ≤ g3) (d12 : g1 ≠ g2) (d13 : g1 ≠ g3) (d23 : g2 ≠ g3) :
    HN B w (.agg #[.slice (some ⟨g1, 0, none⟩) h.words.length c1, .slice (some ⟨g2, 0, none⟩) h.roots.length c2, .int .i64 h.old, .int .i64 h.eden, .int .i64 h.surv, .bool h.flip, .int .i64 h.hash, .slice (some ⟨g3, 0, none⟩) h.kept.length c3]) h :=
  ⟨_, _, _, rfl, ⟨r1.os, r2.os, r3.os⟩, ⟨r1.ir r1.le, r2.ir r2.le, r3.ir r3.le⟩, ⟨fun b k => by have := rowof k; omega, fun b k => by have := rowof k; omega, fun b k => by have := rowof k; omega⟩,
    fun b k k' => by have := rowof k; have := rowof k'; omega, fun b k k' => by have := rowof k; have := rowof k'; omega, fun b k k' => by have := rowof k; have := rowof k'; omega⟩

end Go.Proofs.YtboiknllmnfipaaDoor

/- Header of the model and of the program. -/
namespace Go.Proofs.YtboiknllmnfipaaDoor
open Go.RowKit

theorem mem_stop {l : List Nat} {k : Nat} {x : Int} (h : k < l.length) (e : ((l.getD k 0 : Nat) : Int) = x) : (ints l).contains x = true := by
  rw [List.contains_iff_mem, ← e]
  exact List.mem_map.2 ⟨_, lget_mem l k h, rfl⟩
theorem mem_done {l : List Nat} {x : Int} (h : ∀ j, j < l.length → ((l.getD j 0 : Nat) : Int) ≠ x) : (ints l).contains x = false := by
  rw [Bool.eq_false_iff]
  intro q
  rw [List.contains_iff_mem] at q
  obtain ⟨a, ha, rfl⟩ := List.mem_map.1 q
  obtain ⟨i, hi, e⟩ := List.getElem_of_mem ha
  exact h i hi (by simp [hi, e])

set_option maxHeartbeats 800000 in
theorem l5Is_c (v : Value) (h : Hp) (x : Int) (w : World) (hv : HR w v h) (hk : okC h = true) :
    Calls Tryd.prog 51 #[v, .int .i64 x] w fun e w' => e = .returned (.bool (isC h x)) ∧ Below w.heap.size w w' := by
  obtain ⟨v1, v2, v3, rfl, i1, i2, i3⟩ := id hv
  have hb0 := bel_one w (.cells #[v1, v2, .int .i64 h.old, .int .i64 h.eden, .int .i64 h.surv, .bool h.flip, .int .i64 h.hash, v3] 45)
  have A := all_c _ h _ (hv.later hb0) hk
  have hs := ob_short h
  have IE : Hid (isC h x = (ints (obC h)).contains x) := (rfl : isC h x = (ints (obC h)).contains x)
  generalize isC h x = r at *
  generalize obC h = l at *
  clear i1 i2 i3 hk
  go_enter Tryd.func51, Tryd.ntmps51
  go_wp2_with fail
  refine A.mono ?_
  rintro e w1 ⟨⟨v', rfl, ho⟩, hb1⟩
  have hbw := bel_after hb0 hb1
  obtain ⟨ao, cp, rfl, hc⟩ := intsI ho
  go_wp2
  go_loopw [6] (fun kv wr => ∃ k : Nat, k ≤ l.length ∧ kv = .int .i64 k ∧ Hid (∀ j, j < k → ((l.getD j 0 : Nat) : Int) ≠ x) ∧ wr = w1) (fun kv _ => l.length - (intOf kv).toNat)
  case atStart => exact ⟨0, Nat.zero_le _, rfl, fun j hj => by omega, rfl⟩
  case round =>
    obtain ⟨k, hk, rfl, hj, hwr⟩ := hrel
    obtain rfl := hwr.symm
    clear hwr
    by_cases hlt : k < l.length
    · obtain ⟨b, o, rfl, ci⟩ := hc k hlt
      have NX : Hid (((l.getD k 0 : Nat) : Int) ≠ x → ∀ j, j < k + 1 → ((l.getD j 0 : Nat) : Int) ≠ x) := fun e => all_upto hj.out e
      have YES : Hid (((l.getD k 0 : Nat) : Int) = x → (ints l).contains x = true) := fun e => mem_stop hlt e
      clear hj
      generalize ((l.getD k 0 : Nat) : Int) = a at *
      by_cases hx : a = x
      · have G : Hid (r = true) := (by rw [IE.out]; exact YES.out hx : r = true)
        have hb : (a == x) = true := by simpa using hx
        clear NX YES
        subst hx
        go_wp2
        go_ret
        exact ⟨wret_bool G.out.symm, hbw⟩
      · have N := NX.out hx
        have hb : (a == x) = false := by simpa using hx
        clear NX YES
        go_wp2
        exact ⟨⟨k + 1, by omega, by go_num, N, trivial⟩, by simp [intOf]; omega⟩
    · obtain rfl : k = l.length := by omega
      have G : Hid (r = false) := (by rw [IE.out]; exact mem_done hj.out : r = false)
      go_wp2
      go_ret
      exact ⟨wret_bool G.out.symm, hbw⟩

end Go.Proofs.YtboiknllmnfipaaDoor

/- New, Room, AddRoot and SetRoot in plain words. -/
namespace Go.Proofs.YtboiknllmnfipaaDoor
open Go.RowKit

noncomputable def addB (h : Hp) (x : Int) : Bool := okC h && (fitB (obC h) x && !decide (h.roots.length = 20))
noncomputable def addC (h : Hp) (x : Int) : Hp := if addB h x = true then { h with roots := h.roots ++ [x] } else zeroH
noncomputable def setB (h : Hp) (i x : Int) : Bool := okC h && (fitB (obC h) x && decide (0 ≤ i ∧ i < h.roots.length))
noncomputable def setC (h : Hp) (i x : Int) : Hp := if setB h i x = true then { h with roots := h.roots.set i.toNat x } else zeroH
noncomputable def newB (h : Hp) (k n : Int) : Bool := okC h && (decide (0 ≤ k ∧ k ≤ 99) && (decide (0 ≤ n ∧ n ≤ 60) && (!decide (h.hash = 1000000000) && decide (h.eden + 4 + n ≤ 2600))))
def newHp (h : Hp) (k n : Int) : Hp := { h with words := ((h.words.set h.eden.toNat n).set (h.eden.toNat + 1) k).set (h.eden.toNat + 2) h.hash, hash := h.hash + 1, eden := h.eden + 4 + n }
noncomputable def newC (h : Hp) (k n : Int) : Hp := if newB h k n = true then newHp h k n else zeroH
noncomputable def newW' (h : Hp) (k n : Int) : Int := if newB h k n = true then 2 * h.eden + 1 else 0

theorem ok_len {h : Hp} (k : okC h = true) : h.words.length = 3200 ∧ 2000 ≤ h.eden ∧ h.eden ≤ 2600 ∧ 1 ≤ h.hash ∧ h.hash ≤ 1000000000 ∧ h.roots.length ≤ 20 := by
  have q := c_right k
  exact ⟨q.1.1, q.1.2.2.1.1, q.1.2.2.1.2, q.2.2.1.1, q.2.2.1.2, q.2.2.2.2.2.1⟩
theorem ok_nought {h : Hp} (k : okC h = true) (i : Nat) (h1 : h.eden ≤ i) (h2 : i < 2600) : h.words.getD i 0 = 0 := by
  have q := (c_right k).2.1
  have e := ok_len k
  refine q i (by omega) ?_
  have hs : 2600 ≤ survB h.flip := by unfold survB; split <;> omega
  have ho := (c_right k).1.2.1
  unfold inUse
  omega
end Go.Proofs.YtboiknllmnfipaaDoor

/- Get, Set, ClassOf and HashOf in plain words: a heap in which one field is set is right, and what is kept of it. -/
namespace Go.Proofs.YtboiknllmnfipaaDoor
open Go.RowKit

/-- A word is the address of an object. -/
noncomputable def refB (h : Hp) (x : Int) : Bool := decide (kindW x = 2) && (ints (obC h)).contains (x / 2)
noncomputable def putB (h : Hp) (x i y : Int) : Bool := okC h && (fitB (obC h) y && (refB h x && decide (0 ≤ i ∧ i < gw h.words (x / 2).toNat)))
noncomputable def putH (h : Hp) (a i : Nat) (y : Int) : Hp := { h with words := h.words.set (a + 4 + i) y, kept := keptOf (h.words.set (a + 4 + i) y) (obC h) }
noncomputable def putC (h : Hp) (x i y : Int) : Hp := if putB h x i y = true then putH h (x / 2).toNat i.toNat y else zeroH

theorem put_no {h : Hp} {x i y : Int} (k : putB h x i y = false) : putC h x i y = zeroH := by unfold putC; rw [k]; rfl
theorem put_yes {h : Hp} {x i y : Int} (k : putB h x i y = true) : putC h x i y = putH h (x / 2).toNat i.toNat y := by unfold putC; rw [k]; rfl
theorem ref_mem {h : Hp} {x : Int} (k : refB h x = true) : kindW x = 2 ∧ ∃ a : Nat, a ∈ obC h ∧ x / 2 = a := by
  unfold refB at k
  rw [Bool.and_eq_true, List.contains_iff_mem] at k
  obtain ⟨a, ha, e⟩ := List.mem_map.1 k.2
  exact ⟨of_decide_eq_true k.1, a, ha, e.symm⟩
theorem gw_set (W : List Int) (k j : Nat) (y : Int) (h : k < W.length) : gw (W.set k y) j = if j = k then y else gw W j := by
  unfold gw
  simp only [List.getD_eq_getElem?_getD, List.getElem?_set]
  by_cases e : k = j
  · subst e
    simp [h]
  · rw [if_neg e, if_neg (Ne.symm e)]

/-- Objects lie apart, in the order of the list. -/
theorem its_apart {W : List Int} {f n a b : Nat} (ha : a ∈ its W f n) (hb : b ∈ its W f n) (h : a < b) : nx W a ≤ b := by
  obtain ⟨i, _, rfl⟩ := mem_its.1 ha
  obtain ⟨j, _, rfl⟩ := mem_its.1 hb
  exact it_next (it_lt h)
theorem goes_in {W : List Int} {f t n a : Nat} (g : Goes W f t n) (ha : a ∈ its W f n) : f ≤ a ∧ nx W a ≤ t ∧ a + 4 ≤ nx W a := by
  obtain ⟨i, hi, rfl⟩ := mem_its.1 ha
  have h1 := it_next (W := W) (f := f) hi
  have h2 := it_base W f i
  have h3 := it_step W f i
  rw [g.1] at h1
  exact ⟨by omega, h1, h3⟩
theorem PartsAt.used {h : Hp} {l : List Nat} (k : PartsAt h l) {a j : Nat} (ha : a ∈ l) (h1 : a ≤ j) (h2 : j < nx h.words a) : inUse h j := by
  obtain ⟨_, r0, r1, r2, n0, n1, n2, g0, g1, g2, rfl⟩ := k
  rw [List.mem_append, List.mem_append] at ha
  unfold inUse
  rcases ha with (ha | ha) | ha
  · have := goes_in g0 ha; omega
  · have := goes_in g1 ha; omega
  · have := goes_in g2 ha; omega
theorem PartsAt.apart {h : Hp} {l : List Nat} (k : PartsAt h l) {a b : Nat} (ha : a ∈ l) (hb : b ∈ l) (hab : a < b) : nx h.words a ≤ b := by
  obtain ⟨_, r0, r1, r2, n0, n1, n2, g0, g1, g2, rfl⟩ := k
  have hs : 2600 ≤ survB h.flip := by unfold survB; split <;> omega
  rw [List.mem_append, List.mem_append] at ha hb
  rcases ha with (ha | ha) | ha
  · have q := goes_in g0 ha
    rcases hb with (hb | hb) | hb
    · exact its_apart ha hb hab
    · have := goes_in g1 hb; omega
    · have := goes_in g2 hb; omega
  · have q := goes_in g1 ha
    rcases hb with (hb | hb) | hb
    · have := goes_in g0 hb; omega
    · exact its_apart ha hb hab
    · have := goes_in g2 hb; omega
  · have q := goes_in g2 ha
    rcases hb with (hb | hb) | hb
    · have := goes_in g0 hb; omega
    · have := goes_in g1 hb; omega
    · exact its_apart ha hb hab

/-- Words that differ in fields alone. -/
theorem it_same {W V : List Int} {f n : Nat} (h : ∀ i, i < n → gw V (it W f i) = gw W (it W f i)) : ∀ i, i ≤ n → it V f i = it W f i
  | 0, _ => rfl
  | i + 1, hi => by
    have q := it_same h i (by omega)
    show nx V (it V f i) = nx W (it W f i)
    rw [q]
    unfold nx
    rw [h i (by omega)]
theorem its_same {W V : List Int} {f n : Nat} (h : ∀ i, i < n → gw V (it W f i) = gw W (it W f i)) : its V f n = its W f n := by
  unfold its
  refine List.map_congr_left fun i hi => it_same h i ?_
  rw [List.mem_range] at hi
  omega
theorem head_same {W V : List Int} {a : Nat} (h : ∀ k, k < 4 → gw V (a + k) = gw W (a + k)) : headB V a = headB W a := by
  unfold headB
  rw [show gw V a = gw W a from h 0 (by omega), h 1 (by omega), h 3 (by omega)]
theorem goes_same {W V : List Int} {f t n : Nat} (g : Goes W f t n) (h : ∀ a, a ∈ its W f n → ∀ k, k < 4 → gw V (a + k) = gw W (a + k)) : Goes V f t n ∧ its V f n = its W f n := by
  have q : ∀ i, i < n → gw V (it W f i) = gw W (it W f i) := fun i hi => h _ (mem_its.2 ⟨i, hi, rfl⟩) 0 (by omega)
  refine ⟨⟨(it_same q n (Nat.le_refl _)).trans g.1, fun i hi => ?_⟩, its_same q⟩
  rw [it_same q i (by omega), head_same (h _ (mem_its.2 ⟨i, hi, rfl⟩))]
  exact g.2 i hi
/-- The same objects where their headers are the same. -/
theorem parts_same {h : Hp} {l : List Nat} (k : PartsAt h l) (V kp rt : List Int) (hs : Int) (hl : V.length = h.words.length) (hh : ∀ a, a ∈ l → ∀ k, k < 4 → gw V (a + k) = gw h.words (a + k)) : PartsAt { h with words := V, kept := kp, roots := rt, hash := hs } l := by
  obtain ⟨h0, r0, r1, r2, n0, n1, n2, g0, g1, g2, rfl⟩ := k
  have G0 := goes_same g0 (fun a ha => hh a (by simp [ha]))
  have G1 := goes_same g1 (fun a ha => hh a (by simp [ha]))
  have G2 := goes_same g2 (fun a ha => hh a (by simp [ha]))
  refine ⟨hl.trans h0, r0, r1, r2, n0, n1, n2, G0.1, G1.1, G2.1, ?_⟩
  show _ = its V 0 n0 ++ its V 2000 n1 ++ its V (survB h.flip) n2
  rw [G0.2, G1.2, G2.2]

section
variable {h : Hp} {l : List Nat} (R : RightAt h l) {a i : Nat} (ha : a ∈ l) (hi : (i : Int) < gw h.words a) (y : Int)
include R ha hi
theorem put_lt : a + 4 + i < nx h.words a ∧ a + 4 + i < 3200 := by
  have q := R.1.obj ha
  have : nx h.words a = a + 4 + (gw h.words a).toNat := rfl
  omega
theorem put_gw (j : Nat) : gw (h.words.set (a + 4 + i) y) j = if j = a + 4 + i then y else gw h.words j :=
  gw_set _ _ _ _ (by have := put_lt R ha hi; have := R.1.1; omega)
theorem put_far {b j : Nat} (hb : b ∈ l) (hb' : b ≠ a) (h1 : b ≤ j) (h2 : j < nx h.words b) : j ≠ a + 4 + i := by
  have q := put_lt R ha hi
  rcases Nat.lt_or_gt_of_ne hb' with k | k
  · have := R.1.apart hb ha k; omega
  · have := R.1.apart ha hb k; omega
theorem put_head {b k : Nat} (hb : b ∈ l) (hk : k < 4) : gw (h.words.set (a + 4 + i) y) (b + k) = gw h.words (b + k) := by
  rw [put_gw R ha hi, if_neg]
  by_cases e : b = a
  · omega
  · refine put_far R ha hi hb e (by omega) ?_
    have : nx h.words b = b + 4 + (gw h.words b).toNat := rfl
    omega
theorem put_nx {b : Nat} (hb : b ∈ l) : nx (h.words.set (a + 4 + i) y) b = nx h.words b := by
  unfold nx
  rw [show gw (h.words.set (a + 4 + i) y) b = gw h.words b from put_head R ha hi y hb (k := 0) (by omega)]
/-- A field that is set leaves the heap right. -/
theorem put_right (hy : fitB l y = true) : RightAt { h with words := h.words.set (a + 4 + i) y, kept := keptOf (h.words.set (a + 4 + i) y) l } l := by
  obtain ⟨p, z, hh, h1, h2, r1, r2, f, k⟩ := id R
  refine ⟨parts_same p _ _ h.roots h.hash (by simp) (fun b hb k hk => put_head R ha hi y hb hk), fun j hj hn => ?_, hh, fun b hb => ?_, ⟨fun b hb => ?_, ?_⟩, r1, r2, fun b hb => ?_, rfl⟩
  · show gw (h.words.set (a + 4 + i) y) j = 0
    rw [put_gw R ha hi, if_neg]
    · exact z j hj hn
    · rintro rfl
      exact hn (p.used ha (by omega) (put_lt R ha hi).1)
  · show 1 ≤ gw (h.words.set (a + 4 + i) y) (b + 2)
    rw [put_head R ha hi y hb (by omega)]
    exact h1 b hb
  · show gw (h.words.set (a + 4 + i) y) (b + 2) < h.hash
    rw [put_head R ha hi y hb (by omega)]
    exact h2.1 b hb
  · have e : hashesOf (h.words.set (a + 4 + i) y) l = hashesOf h.words l := List.map_congr_left fun b hb => put_head R ha hi y hb (by omega)
    show (hashesOf (h.words.set (a + 4 + i) y) l).Nodup
    rw [e]
    exact h2.2
  · intro j j1 j2
    show fitB l (gw (h.words.set (a + 4 + i) y) j) = true
    have j2' : j < nx (h.words.set (a + 4 + i) y) b := j2
    rw [put_nx R ha hi y hb] at j2'
    rw [put_gw R ha hi]
    split
    · exact hy
    · exact f b hb j j1 j2'
end

/-- A list that rises, with a number in it or without. -/
def lw (k : List Int) (n : Int) (b : Bool) : List Int :=
  if b = true then (if k.contains n = true then k else k.take (k.countP (· < n)) ++ n :: k.drop (k.countP (· < n))) else (if k.contains n = true then k.take (k.countP (· < n)) ++ k.drop (k.countP (· < n) + 1) else k)
theorem kept_short {h : Hp} {l : List Nat} (R : RightAt h l) : h.kept.length ≤ 3200 := by
  rw [← R.2.2.2.2.2.2.2.2]
  unfold keptOf
  rw [ints_length]
  exact Nat.le_trans (List.length_filter_le _ _) R.1.short

end Go.Proofs.YtboiknllmnfipaaDoor
