/- isAmong, fitsHeap, allFit and hasYoung of the program. -/
import Derived.Test.YtgacacbncefeaaaGreatZHImpA
import Derived.Test.YtgacacbncefeaaaGreatZShelf
namespace Go.Proofs.YtgacacbncefeaaaGreat
open Go.RowKit

theorem search_none (ao : Option Addr) (c : Nat) (x : Int) (w : World) :
    Calls Tryz.prog 125 #[.slice ao 0 c, .int .i64 x] w fun e w' => (∃ z : Int, e = .returned (.tuple #[.int .i64 z, .bool false])) ∧ w' = w := by
  go_enter Tryz.func125, Tryz.ntmps125
  go_wp2
  refine wp_loop_rounds 1 ?_
  rw [rounds_succ]
  go_wp2
  exact bodyPost_ret (v := .tuple #[.int .i64 0, .bool false]) (by simp [results, Tryz.results125, go_sem]) rfl ⟨⟨0, rfl⟩, rfl⟩
theorem search_any (v : Value) (l : List Int) (x : Int) (w : World) (hv : IR w v l) (hs : l.Pairwise (· ≤ ·)) (h1 : l.length ≤ 1000000000000) :
    Calls Tryz.prog 125 #[v, .int .i64 x] w fun e w' => (∃ z : Int, e = .returned (.tuple #[.int .i64 z, .bool (l.contains x)])) ∧ Below w.heap.size w w' := by
  by_cases hl : l.length = 0
  · obtain rfl := List.length_eq_zero_iff.1 hl
    obtain ⟨ao, cap, rfl, _, _⟩ := hv
    exact (search_none ao cap x w).mono (fun e w' ⟨⟨z, he⟩, hw⟩ => ⟨⟨z, he⟩, by rw [hw]; exact Below.refl _ _⟩)
  · obtain ⟨b, o, cap, rfl, _, hW⟩ := hv.ws (by omega)
    refine (AnyG.slices_BinarySearch_int Tryz.laysSearchI b o l.length cap l x w (Nat.le_refl _) (by omega) (fun j hj => hW j hj) (by rw [List.take_length]; exact hs)).mono ?_
    rintro e w' ⟨rfl, q, rfl⟩
    rw [List.take_length]
    exact ⟨⟨_, rfl⟩, below_drewN (Below.refl _ _) _⟩
theorem isAmong_any (v : Value) (l : List Int) (x : Int) (w : World) (hv : IR w v l) (hs : l.Pairwise (· ≤ ·)) (h1 : l.length ≤ 1000000000000) :
    Calls Tryz.prog 116 #[v, .int .i64 x] w fun e w' => e = .returned (.bool (l.contains x)) ∧ Below w.heap.size w w' := by
  have C := search_any v l x w hv hs h1
  generalize l.contains x = r at *
  clear hv hs
  go_enter Tryz.func116, Tryz.ntmps116
  go_wp2_with fail
  refine C.mono ?_
  rintro e w1 ⟨⟨z, rfl⟩, hb⟩
  go_wp2
  go_ret
  exact ⟨rfl, hb⟩

theorem ints_sorted {l : List Nat} (h : l.Pairwise (· < ·)) : (ints l).Pairwise (· ≤ ·) := by
  unfold ints
  rw [List.pairwise_map]
  exact h.imp (fun h => by omega)
theorem fit_ref {l : List Nat} {x : Int} (h : isK 2 x = true) : fitB l x = (ints l).contains (x / 2) := by
  unfold fitB
  have e : kindW x = 2 := of_decide_eq_true h
  rw [e]
  simp
theorem fit_no {l : List Nat} {x : Int} (h : isK 2 x = false) : fitB l x = wokB x := by
  unfold fitB wokB
  have e : ¬ kindW x = 2 := of_decide_eq_false h
  rw [decide_eq_false e]
  have : kindW x = 0 ∨ kindW x = 1 ∨ kindW x = 2 := by
    unfold kindW
    split
    · split <;> simp
    · split <;> simp
  rcases this with k | k | k
  · rw [k]; rfl
  · rw [k]; rfl
  · exact absurd k e
theorem young_ref {x : Int} (h : isK 2 x = true) : youngB x = decide (2000 ≤ x / 2) := by
  unfold youngB
  have e : kindW x = 2 := of_decide_eq_true h
  rw [e]
  simp
theorem young_no {x : Int} (h : isK 2 x = false) : youngB x = false := by
  unfold youngB
  rw [decide_eq_false (of_decide_eq_false h)]
  rfl

theorem fitsHeap_any (v : Value) (l : List Nat) (x : Int) (w : World) (hv : IR w v (ints l)) (hs : l.Pairwise (· < ·)) (h1 : l.length ≤ 1000000000) :
    Calls Tryz.prog 94 #[v, .int .i64 x] w fun e w' => e = .returned (.bool (fitB l x)) ∧ Below w.heap.size w w' := by
  have R := fun w => implRefOf_any x w
  cases hk : isK 2 x
  · rw [hk, valK_no hk] at R
    have F := fit_no (l := l) hk
    generalize fitB l x = r at *
    subst F
    go_enter Tryz.func94, Tryz.ntmps94
    go_wp2_with fail
    refine (R _).mono ?_
    rintro e w1 ⟨rfl, rfl⟩
    go_wp2_with fail
    refine (implWordOk_any _ _).mono ?_
    rintro e w1 ⟨rfl, rfl⟩
    go_wp2
    go_ret
    exact ⟨rfl, Below.refl _ _⟩
  · rw [hk, valK_yes hk] at R
    have F := fit_ref (l := l) hk
    have A := fun w hv => isAmong_any v (ints l) (x / 2) w hv (ints_sorted hs) (by rw [ints_length]; omega)
    rw [F]
    generalize (ints l).contains (x / 2) = r at *
    clear F
    go_enter Tryz.func94, Tryz.ntmps94
    go_wp2_with fail
    refine (R _).mono ?_
    rintro e w1 ⟨rfl, rfl⟩
    go_wp2_with fail
    refine (A _ hv).mono ?_
    rintro e w2 ⟨rfl, hb⟩
    go_wp2
    go_ret
    exact ⟨rfl, hb⟩

theorem all_stop {p : Int → Bool} {l : List Int} {k : Nat} (h : k < l.length) (e : p (l.getD k 0) = false) : l.all p = false := by
  rw [Bool.eq_false_iff]
  intro q
  rw [List.all_eq_true] at q
  rw [q (l.getD k 0) (by simp [h])] at e
  cases e
theorem all_done {p : Int → Bool} {l : List Int} (h : ∀ j, j < l.length → p (l.getD j 0) = true) : l.all p = true := by
  rw [List.all_eq_true]
  intro x hx
  obtain ⟨i, hi, e⟩ := List.getElem_of_mem hx
  have := h i hi
  simpa [hi, e] using this
theorem any_stop {p : Int → Bool} {l : List Int} {k : Nat} (h : k < l.length) (e : p (l.getD k 0) = true) : l.any p = true := by
  rw [List.any_eq_true]
  exact ⟨l.getD k 0, by simp [h], e⟩
theorem any_done {p : Int → Bool} {l : List Int} (h : ∀ j, j < l.length → p (l.getD j 0) = false) : l.any p = false := by
  rw [Bool.eq_false_iff]
  intro q
  rw [List.any_eq_true] at q
  obtain ⟨x, hx, e⟩ := q
  obtain ⟨i, hi, e2⟩ := List.getElem_of_mem hx
  have := h i hi
  simp [hi, e2, e] at this

set_option maxHeartbeats 400000 in
theorem allFit_any (v u : Value) (l : List Nat) (ws : List Int) (w : World) (hv : IR w v (ints l)) (hu : IR w u ws) (hs : l.Pairwise (· < ·)) (h1 : l.length ≤ 1000000000) (h2 : ws.length ≤ 1000000000000) :
    Calls Tryz.prog 107 #[v, u] w fun e w' => e = .returned (.bool (ws.all (fitB l))) ∧ Below w.heap.size w w' := by
  obtain ⟨ao, cap, rfl, _, hc⟩ := hu
  obtain ⟨va, vc, rfl, hq⟩ : ∃ va vc, v = .slice va (ints l).length vc ∧ True := by obtain ⟨a, c, e, _⟩ := hv; exact ⟨a, c, e, trivial⟩
  go_enter Tryz.func107, Tryz.ntmps107
  go_wp2
  go_loopw [9] (fun a wr => ∃ k : Nat, a = .int .i64 k ∧ k ≤ ws.length ∧ Hid (∀ j, j < k → fitB l (ws.getD j 0) = true) ∧ Below w.heap.size w wr) (fun a _ => ws.length - (intOf a).toNat)
  case atStart => exact ⟨0, rfl, Nat.zero_le _, fun j hj => by omega, Below.refl _ _⟩
  case round =>
    obtain ⟨k, rfl, hk, hj, hb⟩ := hrel
    by_cases hlt : k < ws.length
    · obtain ⟨b, o, rfl, hci⟩ := hc k hlt
      have ci := cell_later hb hci
      have NX : Hid (fitB l (ws.getD k 0) = true → ∀ j, j < k + 1 → fitB l (ws.getD j 0) = true) := fun e => all_upto hj.out e
      have BAD : Hid (fitB l (ws.getD k 0) = false → ws.all (fitB l) = false) := fun e => all_stop hlt e
      have FH := fitsHeap_any _ l (ws.getD k 0) wr (hv.later hb) hs h1
      clear hc hci hj
      generalize ws.getD k 0 = x at *
      cases hf : fitB l x
      · have G : Hid (ws.all (fitB l) = false) := BAD.out hf
        rw [hf] at FH
        clear NX BAD
        go_wp2_with fail
        refine FH.mono ?_
        rintro e w1 ⟨rfl, hb1⟩
        go_wp2
        go_ret
        exact ⟨wret_bool G.out.symm, bel_after hb hb1⟩
      · have N := NX.out hf
        rw [hf] at FH
        clear NX BAD
        go_wp2_with fail
        refine FH.mono ?_
        rintro e w1 ⟨rfl, hb1⟩
        go_wp2
        exact ⟨⟨k + 1, by go_num, by omega, N, bel_after hb hb1⟩, by simp [intOf]; omega⟩
    · obtain rfl : k = ws.length := by omega
      have G : Hid (ws.all (fitB l) = true) := all_done hj.out
      go_wp2
      go_ret
      exact ⟨wret_bool G.out.symm, hb⟩

set_option maxHeartbeats 400000 in
theorem hasYoung_any (u : Value) (ws : List Int) (w : World) (hu : IR w u ws) (h2 : ws.length ≤ 1000000000000) :
    Calls Tryz.prog 110 #[u] w fun e w' => e = .returned (.bool (ws.any youngB)) ∧ w' = w := by
  obtain ⟨ao, cap, rfl, _, hc⟩ := hu
  go_enter Tryz.func110, Tryz.ntmps110
  go_wp2
  go_loopw [9] (fun a wr => ∃ k : Nat, a = .int .i64 k ∧ k ≤ ws.length ∧ Hid (∀ j, j < k → youngB (ws.getD j 0) = false) ∧ wr = w) (fun a _ => ws.length - (intOf a).toNat)
  case atStart => exact ⟨0, rfl, Nat.zero_le _, fun j hj => by omega, rfl⟩
  case round =>
    obtain ⟨k, rfl, hk, hj, hwr⟩ := hrel
    obtain rfl := hwr.symm
    clear hwr
    by_cases hlt : k < ws.length
    · obtain ⟨b, o, rfl, ci⟩ := hc k hlt
      have NX : Hid (youngB (ws.getD k 0) = false → ∀ j, j < k + 1 → youngB (ws.getD j 0) = false) := fun e => all_upto hj.out e
      have YES : Hid (youngB (ws.getD k 0) = true → ws.any youngB = true) := fun e => any_stop hlt e
      clear hc hj
      generalize ws.getD k 0 = x at *
      have R := fun w => implRefOf_any x w
      cases hk2 : isK 2 x
      · have N := NX.out (young_no hk2)
        rw [hk2, valK_no hk2] at R
        clear NX YES
        go_wp2_with (go_at_call 115; refine (R _).mono ?_; rintro e wq ⟨rfl, hq⟩; obtain rfl := hq.symm)
        exact ⟨⟨k + 1, by go_num, by omega, N, trivial⟩, by simp [intOf]; omega⟩
      · rw [hk2, valK_yes hk2] at R
        have YR := young_ref hk2
        rw [YR] at NX YES
        by_cases hy : 2000 ≤ x / 2
        · have D := decide_eq_true hy
          have G : Hid (ws.any youngB = true) := YES.out D
          clear NX YES YR
          go_wp2_with (first | (go_at_call 115; refine (R _).mono ?_; rintro e wq ⟨rfl, hq⟩; obtain rfl := hq.symm) | (go_at_call 109; refine (isYoung_any _ _).mono ?_; rintro e wq ⟨rfl, hq⟩; obtain rfl := hq.symm; rw [D]))
          go_ret
          exact ⟨wret_bool G.out.symm, rfl⟩
        · have D := decide_eq_false hy
          have N := NX.out D
          clear NX YES YR
          go_wp2_with (first | (go_at_call 115; refine (R _).mono ?_; rintro e wq ⟨rfl, hq⟩; obtain rfl := hq.symm) | (go_at_call 109; refine (isYoung_any _ _).mono ?_; rintro e wq ⟨rfl, hq⟩; obtain rfl := hq.symm; rw [D]))
          exact ⟨⟨k + 1, by go_num, by omega, N, trivial⟩, by simp [intOf]; omega⟩
    · obtain rfl : k = ws.length := by omega
      have G : Hid (ws.any youngB = false) := any_done hj.out
      go_wp2
      go_ret
      exact ⟨wret_bool G.out.symm, rfl⟩

end Go.Proofs.YtgacacbncefeaaaGreat
