import Derived.Test.YtddocjmjianajaaZNewP
import Derived.Test.YtddocjmjianajaaZMC
import Derived.Test.YtddocjmjianajaaZMD
import Derived.Deep.RegionHeld3
import Derived.Test.YtddocjmjianajaaZDBase
/- superBodies of the program. -/
namespace Go.Proofs.Ytddocjmjianajaa
open Go.RowKit

def bodiesK (ss : List ByteArray) (l : List Int) (k : Nat) : List ByteArray := (List.range k).map fun i => (pageAt ss l i).2.2.1
theorem bodiesK_succ (ss : List ByteArray) (l : List Int) (k : Nat) : bodiesK ss l (k + 1) = bodiesK ss l k ++ [(pageAt ss l k).2.2.1] := by
  unfold bodiesK
  rw [List.range_succ, List.map_append]
  rfl
theorem bodiesK_length (ss : List ByteArray) (l : List Int) (k : Nat) : (bodiesK ss l k).length = k := by simp [bodiesK]
/-- What superBodies answers. -/
def BodOut (ss : List ByteArray) (e : Int) (l : List Int) (B : Nat) (x : Ending) (w' : World) : Prop :=
  if soundB ss e l l.length = true then ∃ v, x = .returned (.tuple #[v, .bool true]) ∧ w'.ownsRow B 9 1 v l.length (tcells (bodiesK ss l l.length)) else x = .returned (.tuple #[.slice none 0 0, .bool false])
theorem bodOut_no {ss : List ByteArray} {e : Int} {l : List Int} {B : Nat} {w' : World} (h : soundB ss e l l.length = false) : BodOut ss e l B (.returned (.tuple #[.slice none 0 0, .bool false])) w' := by unfold BodOut; rw [if_neg (by rw [h]; simp)]
theorem bodOut_yes {ss : List ByteArray} {e : Int} {l : List Int} {B : Nat} {w' : World} {v : Value} (h : soundB ss e l l.length = true) (ho : w'.ownsRow B 9 1 v l.length (tcells (bodiesK ss l l.length))) : BodOut ss e l B (.returned (.tuple #[v, .bool true])) w' := by unfold BodOut; rw [if_pos h]; exact ⟨v, rfl, ho⟩


end Go.Proofs.Ytddocjmjianajaa

/- l3Super of the model. -/
namespace Go.Proofs.Ytddocjmjianajaa
open Go.RowKit

theorem keep3 {W a b : World} {x y z : Addr} {u v t : Value} (k : Below a.heap.size a b) (h : Below W.heap.size W a ∧ a.cell? x = some u ∧ a.cell? y = some v ∧ a.cell? z = some t) :
    Below W.heap.size W b ∧ b.cell? x = some u ∧ b.cell? y = some v ∧ b.cell? z = some t := by
  have f : ∀ {x : Addr} {u : Value}, a.cell? x = some u → b.cell? x = some u := fun {x u} h => by
    have hlt : x.block < a.heap.size := by
      rcases Nat.lt_or_ge x.block a.heap.size with h' | h'
      · exact h'
      · simp [World.cell?, Array.getElem?_eq_none h'] at h
    rw [k.cell hlt]
    exact h
  exact ⟨bel_after h.1 k, f h.2.1, f h.2.2.1, f h.2.2.2⟩

set_option maxRecDepth 100000 in
set_option maxHeartbeats 6400000 in
theorem l3Super_any (v1 v2 : Value) (ss : List ByteArray) (s : ByteArray) (w : World) (hs : s.size ≤ 1000000) (hv : Ss w v1 ss) :
    Calls Try.prog 49 #[.agg #[v1, v2], .string s] w fun x w' => (∃ v, x = .returned (.tuple #[.int .i64 (orNone (superR ss s)).1, v]) ∧ IR w' v (orNone (superR ss s)).2) ∧ Below w.heap.size w w' := by
  have hb0 := bel_one w (.cells #[v1, v2] 27)
  have FM := l3Form_any s (w.alloc (.cells #[v1, v2] 27)) (by omega)
  have SO := superR_or ss s
  have OM := or_mem s
  have OL := or_len s
  generalize orNone (supR s) = el at *
  obtain ⟨e, l⟩ := el
  simp only at FM SO OM OL
  have HSO : Hid (orNone (superR ss s) = if soundB ss e l l.length = true then (e, l) else (0, [])) := SO
  clear SO
  go_enter Try.func49, Try.ntmps49
  go_wp2_with fail
  refine FM.mono ?_
  rintro x w1 ⟨⟨v, rfl, hir⟩, hb1⟩
  obtain ⟨ao, cap, rfl, hcap, hir⟩ := hir
  have q0 : w1.cell? ⟨w.heap.size, 0, none⟩ = some v1 := cell_later hb1 (by simp)
  have hbw := bel_after hb0 hb1
  have hv1 := (hv.later hbw)
  obtain ⟨so, scp, hsv, hsr⟩ := hv1.sr
  have hfit := hv1.fit
  have hlen := hv1.len
  clear FM hb0 hb1 hv hv1
  subst hsv
  rw [hlen] at hsr q0
  have HLN : Hid (ss.length = 64) := hlen
  rw [hlen]
  clear hlen
  go_wp2
  go_loopw [8] (fun iv wr => ∃ k : Nat, k ≤ l.length ∧ iv = .int .i64 k ∧ Hid (soundB ss e l k = true) ∧ Below w1.heap.size w1 wr) (fun iv _ => l.length - (intOf iv).toNat)
  case atStart => exact ⟨0, Nat.zero_le _, rfl, (by rfl : soundB ss e l 0 = true), Below.refl _ _⟩
  case round =>
    obtain ⟨k, hk, rfl, hsd, hb⟩ := hrel
    by_cases hlt : k < l.length
    · obtain ⟨b, o, rfl, hc0⟩ := hir k hlt
      obtain ⟨y0, y1⟩ := OM k hlt
      obtain ⟨n, hn⟩ := Int.eq_ofNat_of_zero_le (a := l.getD k 0) (by omega)
      obtain ⟨b2, o2, rfl, hc1⟩ := hsr n (by omega)
      have hfn := hfit n (by omega)
      have HR : Hid (pageAt ss l k = openR (textAt ss n)) := (by unfold pageAt textAt; rw [hn, Int.toNat_natCast] : pageAt ss l k = openR (textAt ss n))
      rw [hn] at hc0 y0 y1
      have d0 := cell_later hb q0
      have d1 := cell_later hb hc0
      have d2 := cell_later hb hc1
      change wr.cell? _ = some (.string (textAt ss n)) at d2
      have OP := fun w => specOpen_any (textAt ss n) w (by omega)
      generalize textAt ss n = tx at *
      generalize openR tx = r at *
      obtain ⟨r1, r2, r3, r4⟩ := r
      unfold openV at OP
      simp only at OP
      have NG : Hid (soundAt ss e l k = false → orNone (superR ss s) = (0, [])) := fun h => by rw [HSO.out, if_neg (by rw [soundB_false h hlt]; simp)]
      have SA : Hid (soundAt ss e l k = (decide (r4 = 0) && decide (r1 = k) && decide (r2 ≤ e))) := (by unfold soundAt; rw [HR.out] : soundAt ss e l k = (decide (r4 = 0) && decide (r1 = k) && decide (r2 ≤ e)))
      have SS : Hid (soundAt ss e l k = true → soundB ss e l (k + 1) = true) := fun h => by rw [soundB_succ, hsd.out, h]; rfl
      have hn64 : (n : Int) < 64 := by omega
      have hn0 : (0 : Int) ≤ (n : Int) := by omega
      clear hc0 hc1 hn HR hsd q0 hir hsr OM
      go_wp2_with fail
      go_region_held3 (fun w' => Below w1.heap.size w1 w' ∧ w'.cell? ⟨w.heap.size, 0, none⟩ = some (.slice (some ⟨b2, o2, none⟩) 64 scp) ∧ w'.cell? ⟨b, o + k, none⟩ = some (.int .i64 n) ∧ w'.cell? ⟨b2, o2 + n, none⟩ = some (.string tx))
        (first | assumption | (refine ⟨hb.drew, ?_, ?_, ?_⟩ <;> simp [d0, d1, d2]) | (exact keep3 (by assumption) (by assumption)))
        (first
          | (go_at_call 51; refine (OP _).mono ?_; rintro x w3 ⟨rfl, hb3⟩))
      all_goals
        rename_i hHeld
        by_cases h4 : r4 = 0
        · by_cases h1 : r1 = k
          · by_cases h2 : r2 ≤ e
            · have GS : Hid (soundB ss e l (k + 1) = true) := SS.out (by rw [SA.out]; simp [h4, h1, h2])
              subst h4
              subst h1
              clear SS SA NG HSO OP
              go_wp2
              exact ⟨⟨k + 1, by omega, by go_num, GS, And.left hHeld⟩, by simp [intOf]; omega⟩
            · have h2' : e < r2 := by omega
              clear SS HSO OP
              subst h4
              subst h1
              go_wp2
              exact bodyPost_ret (v := .tuple #[.int .i64 0, .slice (some ⟨w3.heap.size, 0, none⟩) 0 0]) (by simp [results, Try.results49, go_sem]) rfl ⟨⟨_, by rw [NG.out (by rw [SA.out]; simp [h2])], by rw [NG.out (by rw [SA.out]; simp [h2])]; exact ⟨_, _, rfl, Nat.le_refl _, fun i hi => by simp at hi⟩⟩, bel_after hbw (bel_after (And.left hHeld) (bel_one _ _))⟩
          · have h1' : (r1 != (k : Int)) = true := by simpa using h1
            clear SS HSO OP
            subst h4
            go_wp2
            exact bodyPost_ret (v := .tuple #[.int .i64 0, .slice (some ⟨w3.heap.size, 0, none⟩) 0 0]) (by simp [results, Try.results49, go_sem]) rfl ⟨⟨_, by rw [NG.out (by rw [SA.out]; simp [h1])], by rw [NG.out (by rw [SA.out]; simp [h1])]; exact ⟨_, _, rfl, Nat.le_refl _, fun i hi => by simp at hi⟩⟩, bel_after hbw (bel_after (And.left hHeld) (bel_one _ _))⟩
        · have h4' : (r4 != 0) = true := by simpa using h4
          clear SS HSO OP
          go_wp2
          exact bodyPost_ret (v := .tuple #[.int .i64 0, .slice (some ⟨w3.heap.size, 0, none⟩) 0 0]) (by simp [results, Try.results49, go_sem]) rfl ⟨⟨_, by rw [NG.out (by rw [SA.out]; simp [h4])], by rw [NG.out (by rw [SA.out]; simp [h4])]; exact ⟨_, _, rfl, Nat.le_refl _, fun i hi => by simp at hi⟩⟩, bel_after hbw (bel_after (And.left hHeld) (bel_one _ _))⟩
    · obtain rfl : k = l.length := by omega
      have G : Hid (orNone (superR ss s) = (e, l)) := (by rw [HSO.out, if_pos hsd.out] : orNone (superR ss s) = (e, l))
      have hirL : IR wr (.slice ao l.length cap) l := IR.later (w := w1) ⟨ao, cap, rfl, hcap, hir⟩ hb
      clear HSO hsd
      go_wp2
      exact bodyPost_ret (v := .tuple #[.int .i64 e, .slice ao l.length cap]) (by simp [results, Try.results49, go_sem]) rfl ⟨⟨_, by rw [G.out], by rw [G.out]; exact hirL⟩, bel_after hbw hb⟩

end Go.Proofs.Ytddocjmjianajaa

/- l3Newest and Newest of the model. -/
namespace Go.Proofs.Ytddocjmjianajaa
open Go.RowKit

theorem newR_yes {ss : List ByteArray} (h : (orNone (superR ss (textAt ss 0))).1 < (orNone (superR ss (textAt ss 1))).1) : newR ss = orNone (superR ss (textAt ss 1)) := by unfold newR; rw [if_pos h]
theorem newR_no {ss : List ByteArray} (h : ¬ (orNone (superR ss (textAt ss 0))).1 < (orNone (superR ss (textAt ss 1))).1) : newR ss = orNone (superR ss (textAt ss 0)) := by unfold newR; rw [if_neg h]

set_option maxRecDepth 100000 in
set_option maxHeartbeats 6400000 in
theorem l3Newest_any (v1 v2 : Value) (ss : List ByteArray) (w : World) (hv : Ss w v1 ss) :
    Calls Try.prog 43 #[.agg #[v1, v2]] w fun x w' => (∃ v, x = .returned (.tuple #[.int .i64 (newR ss).1, v]) ∧ IR w' v (newR ss).2) ∧ Below w.heap.size w w' := by
  have hb0 := bel_one w (.cells #[v1, v2] 27)
  have S0 := fun w hw => l3Super_any v1 v2 ss (textAt ss 0) w (by have := hv.fit 0 (by omega); omega) hw
  have S1 := fun w hw => l3Super_any v1 v2 ss (textAt ss 1) w (by have := hv.fit 1 (by omega); omega) hw
  have NY := @newR_yes ss
  have NN := @newR_no ss
  have hv1 := hv.later hb0
  have hv0 := hv1
  obtain ⟨⟨so, scp, hsv, hsr⟩, hlen, _⟩ := hv1
  obtain ⟨b, o, rfl, hc0⟩ := hsr 0 (by omega)
  obtain ⟨b', o', e', hc1⟩ := hsr 1 (by omega)
  cases e'
  rw [hlen] at hsv
  subst hsv
  change World.cell? _ _ = some (Value.string (textAt ss 0)) at hc0
  change World.cell? _ _ = some (Value.string (textAt ss 1)) at hc1
  generalize textAt ss 0 = t0 at *
  generalize textAt ss 1 = t1 at *
  generalize orNone (superR ss t0) = r0 at *
  generalize orNone (superR ss t1) = r1 at *
  obtain ⟨e0, l0⟩ := r0
  obtain ⟨e1, l1⟩ := r1
  simp only at S0 S1 NY NN
  have HY : Hid (e0 < e1 → newR ss = (e1, l1)) := NY
  have HN : Hid (¬ e0 < e1 → newR ss = (e0, l0)) := NN
  clear NY NN hv hsr
  rw [Nat.add_zero] at hc0
  have q0 : (w.alloc (.cells #[.slice (some ⟨b, o, none⟩) 64 scp, v2] 27)).cell? ⟨w.heap.size, 0, none⟩ = some (.slice (some ⟨b, o, none⟩) 64 scp) := by simp
  have q1 : (w.alloc (.cells #[.slice (some ⟨b, o, none⟩) 64 scp, v2] 27)).cell? ⟨w.heap.size, 1, none⟩ = some v2 := by simp
  go_enter Try.func43, Try.ntmps43
  go_wp2_with fail
  go_region_held3 (fun w' => Below (w.alloc (.cells #[.slice (some ⟨b, o, none⟩) 64 scp, v2] 27)).heap.size (w.alloc (.cells #[.slice (some ⟨b, o, none⟩) 64 scp, v2] 27)) w' ∧ w'.cell? ⟨w.heap.size, 0, none⟩ = some (.slice (some ⟨b, o, none⟩) 64 scp) ∧ w'.cell? ⟨w.heap.size, 1, none⟩ = some v2 ∧ w'.cell? ⟨b, o, none⟩ = some (.string t0))
    (first | assumption | (refine ⟨(Below.refl _ _).drew, ?_, ?_, ?_⟩ <;> (first | exact q0 | exact q1 | exact hc0)) | (exact keep3 (by assumption) (by assumption)))
    (first
      | (go_at_call 49; refine (S0 _ ?_).mono ?_; (focus (exact hv0.later (And.left (by assumption)))); rintro x w3 ⟨⟨va, rfl, hra⟩, hb3⟩))
  all_goals
    rename_i hHeld
    obtain ⟨hbA, d0, d1, _⟩ := hHeld
    have dt : w3.cell? ⟨b, o + 1, none⟩ = some (.string t1) := cell_later hbA hc1
    have hvA := hv0.later hbA
    have hbw := bel_after hb0 hbA
    clear hb3 hbA hc0 hc1 q0 q1 hv0 hb0 S0
    go_wp2_with fail
    go_region_held3 (fun w' => Below w3.heap.size w3 w' ∧ w'.cell? ⟨w.heap.size, 0, none⟩ = some (.slice (some ⟨b, o, none⟩) 64 scp) ∧ w'.cell? ⟨w.heap.size, 1, none⟩ = some v2 ∧ w'.cell? ⟨b, o + 1, none⟩ = some (.string t1))
      (first | assumption | (refine ⟨(Below.refl _ _).drew, ?_, ?_, ?_⟩ <;> (first | exact d0 | exact d1 | exact dt)) | (exact keep3 (by assumption) (by assumption)))
      (first
        | (go_at_call 49; refine (S1 _ ?_).mono ?_; (focus (exact hvA.later (And.left (by assumption)))); rintro x w4 ⟨⟨vb, rfl, hrb⟩, hb4⟩))
    all_goals
      rename_i hHeld
      have hbB := And.left hHeld
      have hra' := hra.later hbB
      have hbk := bel_after hbw hbB
      clear hHeld hb4 d0 d1 dt hvA hra S1
      by_cases hlt : e0 < e1
      · have G : Hid (newR ss = (e1, l1)) := HY.out hlt
        clear HY HN
        go_wp2
        exact bodyPost_ret (v := .tuple #[.int .i64 e1, vb]) (by simp [results, Try.results43, go_sem]) rfl ⟨⟨_, by rw [G.out], by rw [G.out]; exact hrb⟩, hbk⟩
      · have G : Hid (newR ss = (e0, l0)) := HN.out (by omega)
        clear HY HN
        go_wp2
        exact bodyPost_ret (v := .tuple #[.int .i64 e0, va]) (by simp [results, Try.results43, go_sem]) rfl ⟨⟨_, by rw [G.out], by rw [G.out]; exact hra'⟩, hbk⟩

/-- Epoch and sectors of a disk's newest superblock; none of a disk that is not one. -/
def newestR (ss : List ByteArray) (ws : List Disk.Wr) : Int × List Int := if Disk.okD ss ws = true then newR ss else (0, [])
theorem newestR_yes {ss : List ByteArray} {ws : List Disk.Wr} (h : Disk.okD ss ws = true) : newestR ss ws = newR ss := by unfold newestR; rw [if_pos h]
theorem newestR_no {ss : List ByteArray} {ws : List Disk.Wr} (h : Disk.okD ss ws = false) : newestR ss ws = (0, []) := by unfold newestR; rw [if_neg (by rw [h]; simp)]


end Go.Proofs.Ytddocjmjianajaa

/- newestSuper of the program. -/
namespace Go.Proofs.Ytddocjmjianajaa
open Go.RowKit

theorem Disk.SR.cellAt {w : World} {ao : Option Addr} {n cap : Nat} {ss : List ByteArray} (h : Disk.SR w (.slice ao n cap) ss) (k : Nat) (hk : k < ss.length) : ∃ b o, ao = some ⟨b, o, none⟩ ∧ w.cell? ⟨b, o + k, none⟩ = some (.string (ss.getD k ByteArray.empty)) := by
  obtain ⟨ao', cap', e, h⟩ := h
  simp only [Value.slice.injEq] at e
  obtain ⟨rfl, _, _⟩ := e
  exact h k hk
def stepR (ss : List ByteArray) (p : Int × List Int) (t : ByteArray) : Int × List Int :=
  match superR ss t with
  | none => p
  | some (e, l) => if p.1 < e then (e, l) else p
def nk (ss : List ByteArray) : Nat → Int × List Int
  | 0 => (0, [])
  | k + 1 => stepR ss (nk ss k) (textAt ss k)
theorem superR_pos {ss : List ByteArray} {t : ByteArray} {e : Int} {l : List Int} (h : superR ss t = some (e, l)) : 1 ≤ e ∧ supR t = some (e, l) ∧ soundB ss e l l.length = true := by
  unfold superR at h
  cases hs : supR t with
  | none => rw [hs] at h; simp at h
  | some x =>
    obtain ⟨e', l'⟩ := x
    rw [hs] at h
    simp only at h
    split at h
    · rename_i hh
      simp only [Option.some.injEq, Prod.mk.injEq] at h
      obtain ⟨rfl, rfl⟩ := h
      exact ⟨or_pos hs, rfl, hh⟩
    · simp at h
theorem nk_two (ss : List ByteArray) : nk ss 2 = newR ss := by
  show stepR ss (stepR ss (0, []) (textAt ss 0)) (textAt ss 1) = newR ss
  unfold newR stepR
  cases h0 : superR ss (textAt ss 0) with
  | none =>
    cases h1 : superR ss (textAt ss 1) with
    | none => rfl
    | some y =>
      obtain ⟨f, m⟩ := y
      rfl
  | some x =>
    obtain ⟨e, l⟩ := x
    have hp := (superR_pos h0).1
    have e0 : (if ((0 : Int), ([] : List Int)).1 < e then (e, l) else (0, [])) = (e, l) := if_pos (by show (0 : Int) < e; omega)
    simp only [e0]
    cases h1 : superR ss (textAt ss 1) with
    | none =>
      show (e, l) = if e < 0 then _ else (e, l)
      rw [if_neg (by omega)]
    | some y =>
      obtain ⟨f, m⟩ := y
      rfl
theorem step_no {ss : List ByteArray} {p : Int × List Int} {t : ByteArray} (h : superR ss t = none) : stepR ss p t = p := by unfold stepR; rw [h]
theorem superR_none {ss : List ByteArray} {t : ByteArray} (h : supR t = none) : superR ss t = none := by unfold superR; rw [h]
theorem superR_unsound {ss : List ByteArray} {t : ByteArray} {e : Int} {l : List Int} (h : supR t = some (e, l)) (k : soundB ss e l l.length = false) : superR ss t = none := by unfold superR; rw [h]; simp only; rw [if_neg (by rw [k]; simp)]
theorem superR_sound {ss : List ByteArray} {t : ByteArray} {e : Int} {l : List Int} (h : supR t = some (e, l)) (k : soundB ss e l l.length = true) : superR ss t = some (e, l) := by unfold superR; rw [h]; simp only; rw [if_pos k]
theorem step_small {ss : List ByteArray} {p : Int × List Int} {t : ByteArray} {e : Int} {l : List Int} (h : supR t = some (e, l)) (k : e ≤ p.1) : stepR ss p t = p := by
  cases hs : soundB ss e l l.length
  · exact step_no (superR_unsound h hs)
  · unfold stepR
    rw [superR_sound h hs]
    simp only
    rw [if_neg (by omega)]
theorem step_great {ss : List ByteArray} {p : Int × List Int} {t : ByteArray} {e : Int} {l : List Int} (h : supR t = some (e, l)) (hs : soundB ss e l l.length = true) (k : p.1 < e) : stepR ss p t = (e, l) := by
  unfold stepR
  rw [superR_sound h hs]
  simp only
  rw [if_pos k]

/-- The newest superblock so far, in block M. -/
structure Nw (M B : Nat) (ss : List ByteArray) (e : Int) (l : List Int) (w : World) : Prop where
  own : ∃ v bv, w.cell? ⟨M, 0, none⟩ = some (.int .i64 e) ∧ w.cell? ⟨M, 1, none⟩ = some v ∧ w.cell? ⟨M, 2, none⟩ = some bv ∧ w.ownsRow B 2 1 v l.length (icells l) ∧ w.ownsRow B 9 1 bv l.length (tcells (bodiesK ss l l.length))
  f0 : w.frozen? ⟨M, 0, none⟩ = false
  f1 : w.frozen? ⟨M, 1, none⟩ = false
  f2 : w.frozen? ⟨M, 2, none⟩ = false
  lt : M < w.heap.size
theorem Nw.later {M B : Nat} {ss : List ByteArray} {e : Int} {l : List Int} {w w' : World} (h : Nw M B ss e l w) (hb : Below w.heap.size w w') : Nw M B ss e l w' := by
  obtain ⟨⟨v, bv, c0, c1, c2, o1, o2⟩, f0, f1, f2, lt⟩ := h
  exact ⟨⟨v, bv, cell_later hb c0, cell_later hb c1, cell_later hb c2, own_later o1 hb, own_later o2 hb⟩, frozen_later hb lt f0, frozen_later hb lt f1, frozen_later hb lt f2, Nat.lt_of_lt_of_le lt hb.size⟩

theorem frozen_set (w : World) (a b : Addr) (v : Value) : (w.setCell a v).frozen? b = w.frozen? b := World.frozen?_setCell ..
theorem three_set {W : World} {R : Nat} {u0 u1 u2 : Value} (c0 : W.cell? ⟨R, 0, none⟩ = some u0) (c1 : W.cell? ⟨R, 1, none⟩ = some u1) (c2 : W.cell? ⟨R, 2, none⟩ = some u2) (v0 v1 v2 : Value) :
    (((W.setCell ⟨R, 0, none⟩ v0).setCell ⟨R, 1, none⟩ v1).setCell ⟨R, 2, none⟩ v2).cell? ⟨R, 0, none⟩ = some v0 ∧ (((W.setCell ⟨R, 0, none⟩ v0).setCell ⟨R, 1, none⟩ v1).setCell ⟨R, 2, none⟩ v2).cell? ⟨R, 1, none⟩ = some v1 ∧ (((W.setCell ⟨R, 0, none⟩ v0).setCell ⟨R, 1, none⟩ v1).setCell ⟨R, 2, none⟩ v2).cell? ⟨R, 2, none⟩ = some v2 := by
  have h2 : ((W.setCell ⟨R, 0, none⟩ v0).setCell ⟨R, 1, none⟩ v1).cell? ⟨R, 2, none⟩ = some u2 := by rw [World.cell?_setCell_other _ _ _ _ (by simp), World.cell?_setCell_other _ _ _ _ (by simp)]; exact c2
  have h1 : (W.setCell ⟨R, 0, none⟩ v0).cell? ⟨R, 1, none⟩ = some u1 := by rw [World.cell?_setCell_other _ _ _ _ (by simp)]; exact c1
  refine ⟨?_, ?_, World.cell?_setCell_same _ _ _ h2⟩
  · rw [World.cell?_setCell_other _ _ _ _ (by simp), World.cell?_setCell_other _ _ _ _ (by simp)]
    exact World.cell?_setCell_same _ _ _ c0
  · rw [World.cell?_setCell_other _ _ _ _ (by simp)]
    exact World.cell?_setCell_same _ _ _ h1
/-- A newer one stored there. -/
theorem Nw.put {M B : Nat} {ss : List ByteArray} {e e' : Int} {l l' : List Int} {w : World} {v' bv' : Value} (h : Nw M B ss e l w) (hM : M < B) (o1 : w.ownsRow B 2 1 v' l'.length (icells l')) (o2 : w.ownsRow B 9 1 bv' l'.length (tcells (bodiesK ss l' l'.length))) :
    Nw M B ss e' l' (((w.setCell ⟨M, 0, none⟩ (.int .i64 e')).setCell ⟨M, 1, none⟩ v').setCell ⟨M, 2, none⟩ bv') := by
  obtain ⟨⟨v, bv, c0, c1, c2, _, _⟩, f0, f1, f2, lt⟩ := h
  obtain ⟨t0, t1, t2⟩ := three_set c0 c1 c2 (.int .i64 e') v' bv'
  refine ⟨⟨v', bv', t0, t1, t2, own_store (own_store (own_store o1 hM _) hM _) hM _, own_store (own_store (own_store o2 hM _) hM _) hM _⟩, ?_, ?_, ?_, ?_⟩
  · rw [frozen_set, frozen_set, frozen_set]; exact f0
  · rw [frozen_set, frozen_set, frozen_set]; exact f1
  · rw [frozen_set, frozen_set, frozen_set]; exact f2
  · simpa [World.setCell] using lt

theorem own_store3 {w : World} {B e size n R : Nat} {v : Value} {xs : List Value} (h : w.ownsRow B e size v n xs) (hR : R < B) (x y z : Value) : (((w.setCell ⟨R, 0, none⟩ x).setCell ⟨R, 1, none⟩ y).setCell ⟨R, 2, none⟩ z).ownsRow B e size v n xs :=
  own_store (own_store (own_store h hR x) hR y) hR z
theorem Zs.low {R B : Nat} {w w' : World} (h : Zs R w) (hb : Below B w w') (hR : R < B) : Zs R w' :=
  ⟨(hb.cell (p := ⟨R, 0, none⟩) hR).trans h.c0, (hb.cell (p := ⟨R, 1, none⟩) hR).trans h.c1, (hb.cell (p := ⟨R, 2, none⟩) hR).trans h.c2, (hb.frozen (p := ⟨R, 0, none⟩) hR).trans h.f0, (hb.frozen (p := ⟨R, 1, none⟩) hR).trans h.f1, (hb.frozen (p := ⟨R, 2, none⟩) hR).trans h.f2, Nat.lt_of_lt_of_le h.lt hb.size⟩



end Go.Proofs.Ytddocjmjianajaa
