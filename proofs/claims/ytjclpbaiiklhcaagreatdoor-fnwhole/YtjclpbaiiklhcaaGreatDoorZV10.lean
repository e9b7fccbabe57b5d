import Derived.Test.YtjclpbaiiklhcaaGreatDoorZV9
import Derived.Test.YtjclpbaiiklhcaaGreatDoorZDBase
import Derived.Deep.RegionHeld3
/- The newest superblock of a disk, in plain words. -/
namespace Go.Proofs.YtjclpbaiiklhcaaGreatDoor
open Go.RowKit

def pageAt (ss : List ByteArray) (l : List Int) (i : Nat) : Int × Int × ByteArray × Int := openR (ss.getD (l.getD i 0).toNat ByteArray.empty)
/-- Sector number i of the list holds the page of that number, not younger than e. -/
def soundAt (ss : List ByteArray) (e : Int) (l : List Int) (i : Nat) : Bool := decide ((pageAt ss l i).2.2.2 = 0) && decide ((pageAt ss l i).1 = i) && decide ((pageAt ss l i).2.1 ≤ e)
def soundB (ss : List ByteArray) (e : Int) (l : List Int) (k : Nat) : Bool := (List.range k).all (soundAt ss e l)
def superR (ss : List ByteArray) (s : ByteArray) : Option (Int × List Int) :=
  match supR s with
  | none => none
  | some (e, l) => if soundB ss e l l.length = true then some (e, l) else none
def textAt (ss : List ByteArray) (i : Nat) : ByteArray := ss.getD i ByteArray.empty
def newR (ss : List ByteArray) : Int × List Int :=
  if (orNone (superR ss (textAt ss 0))).1 < (orNone (superR ss (textAt ss 1))).1 then orNone (superR ss (textAt ss 1)) else orNone (superR ss (textAt ss 0))

theorem soundB_succ (ss : List ByteArray) (e : Int) (l : List Int) (k : Nat) : soundB ss e l (k + 1) = (soundB ss e l k && soundAt ss e l k) := by
  unfold soundB
  rw [List.range_succ, List.all_append]
  simp
theorem soundB_false {ss : List ByteArray} {e : Int} {l : List Int} {i n : Nat} (h : soundAt ss e l i = false) (hi : i < n) : soundB ss e l n = false := by
  rw [Bool.eq_false_iff]
  intro hc
  unfold soundB at hc
  rw [List.all_eq_true.1 hc i (List.mem_range.2 hi)] at h
  exact absurd h (by simp)
theorem superR_or (ss : List ByteArray) (s : ByteArray) : orNone (superR ss s) = if soundB ss (orNone (supR s)).1 (orNone (supR s)).2 (orNone (supR s)).2.length = true then orNone (supR s) else (0, []) := by
  unfold superR
  cases h : supR s with
  | none => rfl
  | some x =>
    obtain ⟨e, l⟩ := x
    show orNone (if soundB ss e l l.length = true then some (e, l) else none) = if soundB ss e l l.length = true then (e, l) else (0, [])
    split <;> rfl
theorem or_mem (s : ByteArray) : ∀ i, i < (orNone (supR s)).2.length → 2 ≤ (orNone (supR s)).2.getD i 0 ∧ (orNone (supR s)).2.getD i 0 ≤ 63 := by
  cases h : supR s with
  | none => intro i hi; simp [orNone] at hi
  | some x =>
    obtain ⟨e, l⟩ := x
    intro i hi
    change i < l.length at hi
    have := supOk_mem (supR_is h).1 (l.getD i 0) (by simp [hi])
    exact this
theorem or_len (s : ByteArray) : (orNone (supR s)).2.length ≤ 30 := by
  cases h : supR s with
  | none => simp [orNone]
  | some x => exact (supOk_parts (supR_is h).1).2.2.1
theorem or_pos {s : ByteArray} {e : Int} {l : List Int} (h : supR s = some (e, l)) : 1 ≤ e := (supOk_parts (supR_is h).1).1
/-- A disk's sectors, all of which fit. -/
structure Ss (w : World) (v1 : Value) (ss : List ByteArray) : Prop where
  sr : Disk.SR w v1 ss
  len : ss.length = 64
  fit : ∀ k, k < 64 → (textAt ss k).size ≤ 256
theorem Ss.later {w w' : World} {v : Value} {ss : List ByteArray} (h : Ss w v ss) (hb : Below w.heap.size w w') : Ss w' v ss := ⟨h.sr.later hb, h.len, h.fit⟩

end Go.Proofs.YtjclpbaiiklhcaaGreatDoor

/- l3Super of the model. -/
namespace Go.Proofs.YtjclpbaiiklhcaaGreatDoor
open Go.RowKit

theorem keep3 {W a b : World} {x y z : Addr} {u v t : Value} (k : Below a.heap.size a b) (h : Below W.heap.size W a ∧ a.cell? x = some u ∧ a.cell? y = some v ∧ a.cell? z = some t) :
    Below W.heap.size W b ∧ b.cell? x = some u ∧ b.cell? y = some v ∧ b.cell? z = some t := by
  have f : ∀ {x : Addr} {u : Value}, a.cell? x = some u → b.cell? x = some u := fun {x u} h => by
    have hlt : x.block < a.heap.size := by
      rcases Nat.lt_or_ge x.block a.heap.size with h' | h'
      · exact h'
      · simp [World.cell?, Array.getElem?_eq_none h'] at h
    rw [k.cell hlt]
    exact h
  exact ⟨bel_after h.1 k, f h.2.1, f h.2.2.1, f h.2.2.2⟩

set_option maxRecDepth 100000 in
set_option maxHeartbeats 6400000 in
theorem l3Super_any (v1 v2 : Value) (ss : List ByteArray) (s : ByteArray) (w : World) (hs : s.size ≤ 1000000) (hv : Ss w v1 ss) :
    Calls Tryz.prog 67 #[.agg #[v1, v2], .string s] w fun x w' => (∃ v, x = .returned (.tuple #[.int .i64 (orNone (superR ss s)).1, v]) ∧ IR w' v (orNone (superR ss s)).2) ∧ Below w.heap.size w w' := by
  have hb0 := bel_one w (.cells #[v1, v2] 27)
  have FM := l3Form_any s (w.alloc (.cells #[v1, v2] 27)) (by omega)
  have SO := superR_or ss s
  have OM := or_mem s
  have OL := or_len s
  generalize orNone (supR s) = el at *
  obtain ⟨e, l⟩ := el
  simp only at FM SO OM OL
  have HSO : Hid (orNone (superR ss s) = if soundB ss e l l.length = true then (e, l) else (0, [])) := SO
  clear SO
  go_enter Tryz.func67, Tryz.ntmps67
  go_wp2_with fail
  refine FM.mono ?_
  rintro x w1 ⟨⟨v, rfl, hir⟩, hb1⟩
  obtain ⟨ao, cap, rfl, hcap, hir⟩ := hir
  have q0 : w1.cell? ⟨w.heap.size, 0, none⟩ = some v1 := cell_later hb1 (by simp)
  have hbw := bel_after hb0 hb1
  have hv1 := (hv.later hbw)
  obtain ⟨so, scp, hsv, hsr⟩ := hv1.sr
  have hfit := hv1.fit
  have hlen := hv1.len
  clear FM hb0 hb1 hv hv1
  subst hsv
  rw [hlen] at hsr q0
  have HLN : Hid (ss.length = 64) := hlen
  rw [hlen]
  clear hlen
  go_wp2
  go_loopw [8] (fun iv wr => ∃ k : Nat, k ≤ l.length ∧ iv = .int .i64 k ∧ Hid (soundB ss e l k = true) ∧ Below w1.heap.size w1 wr) (fun iv _ => l.length - (intOf iv).toNat)
  case atStart => exact ⟨0, Nat.zero_le _, rfl, (by rfl : soundB ss e l 0 = true), Below.refl _ _⟩
  case round =>
    obtain ⟨k, hk, rfl, hsd, hb⟩ := hrel
    by_cases hlt : k < l.length
    · obtain ⟨b, o, rfl, hc0⟩ := hir k hlt
      obtain ⟨y0, y1⟩ := OM k hlt
      obtain ⟨n, hn⟩ := Int.eq_ofNat_of_zero_le (a := l.getD k 0) (by omega)
      obtain ⟨b2, o2, rfl, hc1⟩ := hsr n (by omega)
      have hfn := hfit n (by omega)
      have HR : Hid (pageAt ss l k = openR (textAt ss n)) := (by unfold pageAt textAt; rw [hn, Int.toNat_natCast] : pageAt ss l k = openR (textAt ss n))
      rw [hn] at hc0 y0 y1
      have d0 := cell_later hb q0
      have d1 := cell_later hb hc0
      have d2 := cell_later hb hc1
      change wr.cell? _ = some (.string (textAt ss n)) at d2
      have OP := fun w => specOpen_any (textAt ss n) w (by omega)
      generalize textAt ss n = tx at *
      generalize openR tx = r at *
      obtain ⟨r1, r2, r3, r4⟩ := r
      unfold openV at OP
      simp only at OP
      have NG : Hid (soundAt ss e l k = false → orNone (superR ss s) = (0, [])) := fun h => by rw [HSO.out, if_neg (by rw [soundB_false h hlt]; simp)]
      have SA : Hid (soundAt ss e l k = (decide (r4 = 0) && decide (r1 = k) && decide (r2 ≤ e))) := (by unfold soundAt; rw [HR.out] : soundAt ss e l k = (decide (r4 = 0) && decide (r1 = k) && decide (r2 ≤ e)))
      have SS : Hid (soundAt ss e l k = true → soundB ss e l (k + 1) = true) := fun h => by rw [soundB_succ, hsd.out, h]; rfl
      have hn64 : (n : Int) < 64 := by omega
      have hn0 : (0 : Int) ≤ (n : Int) := by omega
      clear hc0 hc1 hn HR hsd q0 hir hsr OM
      go_wp2_with fail
      go_region_held3 (fun w' => Below w1.heap.size w1 w' ∧ w'.cell? ⟨w.heap.size, 0, none⟩ = some (.slice (some ⟨b2, o2, none⟩) 64 scp) ∧ w'.cell? ⟨b, o + k, none⟩ = some (.int .i64 n) ∧ w'.cell? ⟨b2, o2 + n, none⟩ = some (.string tx))
        (first | assumption | (refine ⟨hb.drew, ?_, ?_, ?_⟩ <;> simp [d0, d1, d2]) | (exact keep3 (by assumption) (by assumption)))
        (first
          | (go_at_call 68; refine (OP _).mono ?_; rintro x w3 ⟨rfl, hb3⟩))
      all_goals
        rename_i hHeld
        by_cases h4 : r4 = 0
        · by_cases h1 : r1 = k
          · by_cases h2 : r2 ≤ e
            · have GS : Hid (soundB ss e l (k + 1) = true) := SS.out (by rw [SA.out]; simp [h4, h1, h2])
              subst h4
              subst h1
              clear SS SA NG HSO OP
              go_wp2
              exact ⟨⟨k + 1, by omega, by go_num, GS, And.left hHeld⟩, by simp [intOf]; omega⟩
            · have h2' : e < r2 := by omega
              clear SS HSO OP
              subst h4
              subst h1
              go_wp2
              exact bodyPost_ret (v := .tuple #[.int .i64 0, .slice (some ⟨w3.heap.size, 0, none⟩) 0 0]) (by simp [results, Tryz.results67, go_sem]) rfl ⟨⟨_, by rw [NG.out (by rw [SA.out]; simp [h2])], by rw [NG.out (by rw [SA.out]; simp [h2])]; exact ⟨_, _, rfl, Nat.le_refl _, fun i hi => by simp at hi⟩⟩, bel_after hbw (bel_after (And.left hHeld) (bel_one _ _))⟩
          · have h1' : (r1 != (k : Int)) = true := by simpa using h1
            clear SS HSO OP
            subst h4
            go_wp2
            exact bodyPost_ret (v := .tuple #[.int .i64 0, .slice (some ⟨w3.heap.size, 0, none⟩) 0 0]) (by simp [results, Tryz.results67, go_sem]) rfl ⟨⟨_, by rw [NG.out (by rw [SA.out]; simp [h1])], by rw [NG.out (by rw [SA.out]; simp [h1])]; exact ⟨_, _, rfl, Nat.le_refl _, fun i hi => by simp at hi⟩⟩, bel_after hbw (bel_after (And.left hHeld) (bel_one _ _))⟩
        · have h4' : (r4 != 0) = true := by simpa using h4
          clear SS HSO OP
          go_wp2
          exact bodyPost_ret (v := .tuple #[.int .i64 0, .slice (some ⟨w3.heap.size, 0, none⟩) 0 0]) (by simp [results, Tryz.results67, go_sem]) rfl ⟨⟨_, by rw [NG.out (by rw [SA.out]; simp [h4])], by rw [NG.out (by rw [SA.out]; simp [h4])]; exact ⟨_, _, rfl, Nat.le_refl _, fun i hi => by simp at hi⟩⟩, bel_after hbw (bel_after (And.left hHeld) (bel_one _ _))⟩
    · obtain rfl : k = l.length := by omega
      have G : Hid (orNone (superR ss s) = (e, l)) := (by rw [HSO.out, if_pos hsd.out] : orNone (superR ss s) = (e, l))
      have hirL : IR wr (.slice ao l.length cap) l := IR.later (w := w1) ⟨ao, cap, rfl, hcap, hir⟩ hb
      clear HSO hsd
      go_wp2
      exact bodyPost_ret (v := .tuple #[.int .i64 e, .slice ao l.length cap]) (by simp [results, Tryz.results67, go_sem]) rfl ⟨⟨_, by rw [G.out], by rw [G.out]; exact hirL⟩, bel_after hbw hb⟩

end Go.Proofs.YtjclpbaiiklhcaaGreatDoor

/- l3Newest and Newest of the model. -/
namespace Go.Proofs.YtjclpbaiiklhcaaGreatDoor
open Go.RowKit

theorem newR_yes {ss : List ByteArray} (h : (orNone (superR ss (textAt ss 0))).1 < (orNone (superR ss (textAt ss 1))).1) : newR ss = orNone (superR ss (textAt ss 1)) := by unfold newR; rw [if_pos h]
theorem newR_no {ss : List ByteArray} (h : ¬ (orNone (superR ss (textAt ss 0))).1 < (orNone (superR ss (textAt ss 1))).1) : newR ss = orNone (superR ss (textAt ss 0)) := by unfold newR; rw [if_neg h]

set_option maxRecDepth 100000 in
set_option maxHeartbeats 6400000 in
theorem l3Newest_any (v1 v2 : Value) (ss : List ByteArray) (w : World) (hv : Ss w v1 ss) :
    Calls Tryz.prog 43 #[.agg #[v1, v2]] w fun x w' => (∃ v, x = .returned (.tuple #[.int .i64 (newR ss).1, v]) ∧ IR w' v (newR ss).2) ∧ Below w.heap.size w w' := by
  have hb0 := bel_one w (.cells #[v1, v2] 27)
  have S0 := fun w hw => l3Super_any v1 v2 ss (textAt ss 0) w (by have := hv.fit 0 (by omega); omega) hw
  have S1 := fun w hw => l3Super_any v1 v2 ss (textAt ss 1) w (by have := hv.fit 1 (by omega); omega) hw
  have NY := @newR_yes ss
  have NN := @newR_no ss
  have hv1 := hv.later hb0
  have hv0 := hv1
  obtain ⟨⟨so, scp, hsv, hsr⟩, hlen, _⟩ := hv1
  obtain ⟨b, o, rfl, hc0⟩ := hsr 0 (by omega)
  obtain ⟨b', o', e', hc1⟩ := hsr 1 (by omega)
  cases e'
  rw [hlen] at hsv
  subst hsv
  change World.cell? _ _ = some (Value.string (textAt ss 0)) at hc0
  change World.cell? _ _ = some (Value.string (textAt ss 1)) at hc1
  generalize textAt ss 0 = t0 at *
  generalize textAt ss 1 = t1 at *
  generalize orNone (superR ss t0) = r0 at *
  generalize orNone (superR ss t1) = r1 at *
  obtain ⟨e0, l0⟩ := r0
  obtain ⟨e1, l1⟩ := r1
  simp only at S0 S1 NY NN
  have HY : Hid (e0 < e1 → newR ss = (e1, l1)) := NY
  have HN : Hid (¬ e0 < e1 → newR ss = (e0, l0)) := NN
  clear NY NN hv hsr
  rw [Nat.add_zero] at hc0
  have q0 : (w.alloc (.cells #[.slice (some ⟨b, o, none⟩) 64 scp, v2] 27)).cell? ⟨w.heap.size, 0, none⟩ = some (.slice (some ⟨b, o, none⟩) 64 scp) := by simp
  have q1 : (w.alloc (.cells #[.slice (some ⟨b, o, none⟩) 64 scp, v2] 27)).cell? ⟨w.heap.size, 1, none⟩ = some v2 := by simp
  go_enter Tryz.func43, Tryz.ntmps43
  go_wp2_with fail
  go_region_held3 (fun w' => Below (w.alloc (.cells #[.slice (some ⟨b, o, none⟩) 64 scp, v2] 27)).heap.size (w.alloc (.cells #[.slice (some ⟨b, o, none⟩) 64 scp, v2] 27)) w' ∧ w'.cell? ⟨w.heap.size, 0, none⟩ = some (.slice (some ⟨b, o, none⟩) 64 scp) ∧ w'.cell? ⟨w.heap.size, 1, none⟩ = some v2 ∧ w'.cell? ⟨b, o, none⟩ = some (.string t0))
    (first | assumption | (refine ⟨(Below.refl _ _).drew, ?_, ?_, ?_⟩ <;> (first | exact q0 | exact q1 | exact hc0)) | (exact keep3 (by assumption) (by assumption)))
    (first
      | (go_at_call 67; refine (S0 _ ?_).mono ?_; (focus (exact hv0.later (And.left (by assumption)))); rintro x w3 ⟨⟨va, rfl, hra⟩, hb3⟩))
  all_goals
    rename_i hHeld
    obtain ⟨hbA, d0, d1, _⟩ := hHeld
    have dt : w3.cell? ⟨b, o + 1, none⟩ = some (.string t1) := cell_later hbA hc1
    have hvA := hv0.later hbA
    have hbw := bel_after hb0 hbA
    clear hb3 hbA hc0 hc1 q0 q1 hv0 hb0 S0
    go_wp2_with fail
    go_region_held3 (fun w' => Below w3.heap.size w3 w' ∧ w'.cell? ⟨w.heap.size, 0, none⟩ = some (.slice (some ⟨b, o, none⟩) 64 scp) ∧ w'.cell? ⟨w.heap.size, 1, none⟩ = some v2 ∧ w'.cell? ⟨b, o + 1, none⟩ = some (.string t1))
      (first | assumption | (refine ⟨(Below.refl _ _).drew, ?_, ?_, ?_⟩ <;> (first | exact d0 | exact d1 | exact dt)) | (exact keep3 (by assumption) (by assumption)))
      (first
        | (go_at_call 67; refine (S1 _ ?_).mono ?_; (focus (exact hvA.later (And.left (by assumption)))); rintro x w4 ⟨⟨vb, rfl, hrb⟩, hb4⟩))
    all_goals
      rename_i hHeld
      have hbB := And.left hHeld
      have hra' := hra.later hbB
      have hbk := bel_after hbw hbB
      clear hHeld hb4 d0 d1 dt hvA hra S1
      by_cases hlt : e0 < e1
      · have G : Hid (newR ss = (e1, l1)) := HY.out hlt
        clear HY HN
        go_wp2
        exact bodyPost_ret (v := .tuple #[.int .i64 e1, vb]) (by simp [results, Tryz.results43, go_sem]) rfl ⟨⟨_, by rw [G.out], by rw [G.out]; exact hrb⟩, hbk⟩
      · have G : Hid (newR ss = (e0, l0)) := HN.out (by omega)
        clear HY HN
        go_wp2
        exact bodyPost_ret (v := .tuple #[.int .i64 e0, va]) (by simp [results, Tryz.results43, go_sem]) rfl ⟨⟨_, by rw [G.out], by rw [G.out]; exact hra'⟩, hbk⟩

/-- Epoch and sectors of a disk's newest superblock; none of a disk that is not one. -/
def newestR (ss : List ByteArray) (ws : List Disk.Wr) : Int × List Int := if Disk.okD ss ws = true then newR ss else (0, [])
theorem newestR_yes {ss : List ByteArray} {ws : List Disk.Wr} (h : Disk.okD ss ws = true) : newestR ss ws = newR ss := by unfold newestR; rw [if_pos h]
theorem newestR_no {ss : List ByteArray} {ws : List Disk.Wr} (h : Disk.okD ss ws = false) : newestR ss ws = (0, []) := by unfold newestR; rw [if_neg (by rw [h]; simp)]

set_option maxRecDepth 100000 in
set_option maxHeartbeats 1000000 in
theorem specNewest_any (v1 v2 : Value) (ss : List ByteArray) (ws : List Disk.Wr) (w : World) (hv1 : Disk.SR w v1 ss) (hv2 : Disk.WR w v2 ws) (h1 : ss.length ≤ 10000000000000) (h2 : ws.length ≤ 10000000000000) (hss : Disk.okD ss ws = true → Ss w v1 ss) :
    Calls Tryz.prog 19 #[.agg #[v1, v2]] w fun x w' => (∃ v, x = .returned (.tuple #[.int .i64 (newestR ss ws).1, v]) ∧ IR w' v (newestR ss ws).2) ∧ Below w.heap.size w w' := by
  have hb0 := bel_one w (.cells #[v1, v2] 27)
  have OK := Disk.specDiskOk_any v1 v2 ss ws _ (hv1.later hb0) (hv2.later hb0) h1 h2
  go_enter Tryz.func19, Tryz.ntmps19
  go_wp2_with fail
  refine OK.mono ?_
  rintro x w1 ⟨rfl, hb1⟩
  have hbw := bel_after hb0 hb1
  have d0 : w1.cell? ⟨w.heap.size, 0, none⟩ = some v1 := cell_later hb1 (by simp)
  have d1 : w1.cell? ⟨w.heap.size, 1, none⟩ = some v2 := cell_later hb1 (by simp)
  clear OK
  cases hok : Disk.okD ss ws
  · have G : Hid (newestR ss ws = (0, [])) := newestR_no hok
    clear hok
    go_wp2
    exact bodyPost_ret (v := .tuple #[.int .i64 0, .slice (some ⟨w1.heap.size, 0, none⟩) 0 0]) (by simp [results, Tryz.results19, go_sem]) rfl ⟨⟨_, by rw [G.out], by rw [G.out]; exact ⟨_, _, rfl, Nat.le_refl _, fun i hi => by simp at hi⟩⟩, bel_after hbw (bel_one _ _)⟩
  · have G : Hid (newestR ss ws = newR ss) := newestR_yes hok
    have N := l3Newest_any v1 v2 ss w1 ((hss hok).later hbw)
    clear hok
    go_wp2_with (go_at_call 43; refine N.mono ?_; rintro x w2 ⟨⟨v, rfl, hr⟩, hb2⟩)
    exact bodyPost_ret (v := .tuple #[.int .i64 (newR ss).1, v]) (by simp [results, Tryz.results19, go_sem]) rfl ⟨⟨_, by rw [G.out], by rw [G.out]; exact hr⟩, bel_after hbw hb2⟩

end Go.Proofs.YtjclpbaiiklhcaaGreatDoor
