import Derived.Test.YtphkmgalgngjiaaZHImpA
import Derived.Test.YtphkmgalgngjiaaZShelf
import Derived.Lib.OwnBridge
import Derived.Laws.StructEq
import Derived.Laws.Tables
import Derived.Laws.Cover2
import Derived.KernelRfl
/- isAmong, fitsHeap, allFit and hasYoung of the program. -/
namespace Go.Proofs.Ytphkmgalgngjiaa
open Go.RowKit

theorem search_none (ao : Option Addr) (c : Nat) (x : Int) (w : World) :
    Calls Try.prog 39 #[.slice ao 0 c, .int .i64 x] w fun e w' => (∃ z : Int, e = .returned (.tuple #[.int .i64 z, .bool false])) ∧ w' = w := by
  go_enter Try.func39, Try.ntmps39
  go_wp2
  refine wp_loop_rounds 1 ?_
  rw [rounds_succ]
  go_wp2
  exact bodyPost_ret (v := .tuple #[.int .i64 0, .bool false]) (by simp [results, Try.results39, go_sem]) rfl ⟨⟨0, rfl⟩, rfl⟩
theorem search_any (v : Value) (l : List Int) (x : Int) (w : World) (hv : IR w v l) (hs : l.Pairwise (· ≤ ·)) (h1 : l.length ≤ 1000000000000) :
    Calls Try.prog 39 #[v, .int .i64 x] w fun e w' => (∃ z : Int, e = .returned (.tuple #[.int .i64 z, .bool (l.contains x)])) ∧ Below w.heap.size w w' := by
  by_cases hl : l.length = 0
  · obtain rfl := List.length_eq_zero_iff.1 hl
    obtain ⟨ao, cap, rfl, _, _⟩ := hv
    exact (search_none ao cap x w).mono (fun e w' ⟨⟨z, he⟩, hw⟩ => ⟨⟨z, he⟩, by rw [hw]; exact Below.refl _ _⟩)
  · obtain ⟨b, o, cap, rfl, _, hW⟩ := hv.ws (by omega)
    refine (AnyG.slices_BinarySearch_int Try.laysSearchI b o l.length cap l x w (Nat.le_refl _) (by omega) (fun j hj => hW j hj) (by rw [List.take_length]; exact hs)).mono ?_
    rintro e w' ⟨rfl, q, rfl⟩
    rw [List.take_length]
    exact ⟨⟨_, rfl⟩, below_drewN (Below.refl _ _) _⟩
theorem isAmong_any (v : Value) (l : List Int) (x : Int) (w : World) (hv : IR w v l) (hs : l.Pairwise (· ≤ ·)) (h1 : l.length ≤ 1000000000000) :
    Calls Try.prog 25 #[v, .int .i64 x] w fun e w' => e = .returned (.bool (l.contains x)) ∧ Below w.heap.size w w' := by
  have C := search_any v l x w hv hs h1
  generalize l.contains x = r at *
  clear hv hs
  go_enter Try.func25, Try.ntmps25
  go_wp2_with fail
  refine C.mono ?_
  rintro e w1 ⟨⟨z, rfl⟩, hb⟩
  go_wp2
  go_ret
  exact ⟨rfl, hb⟩

theorem ints_sorted {l : List Nat} (h : l.Pairwise (· < ·)) : (ints l).Pairwise (· ≤ ·) := by
  unfold ints
  rw [List.pairwise_map]
  exact h.imp (fun h => by omega)
theorem fit_ref {l : List Nat} {x : Int} (h : isK 2 x = true) : fitB l x = (ints l).contains (x / 2) := by
  unfold fitB
  have e : kindW x = 2 := of_decide_eq_true h
  rw [e]
  simp
theorem fit_no {l : List Nat} {x : Int} (h : isK 2 x = false) : fitB l x = wokB x := by
  unfold fitB wokB
  have e : ¬ kindW x = 2 := of_decide_eq_false h
  rw [decide_eq_false e]
  have : kindW x = 0 ∨ kindW x = 1 ∨ kindW x = 2 := by
    unfold kindW
    split
    · split <;> simp
    · split <;> simp
  rcases this with k | k | k
  · rw [k]; rfl
  · rw [k]; rfl
  · exact absurd k e
theorem young_ref {x : Int} (h : isK 2 x = true) : youngB x = decide (2000 ≤ x / 2) := by
  unfold youngB
  have e : kindW x = 2 := of_decide_eq_true h
  rw [e]
  simp
theorem young_no {x : Int} (h : isK 2 x = false) : youngB x = false := by
  unfold youngB
  rw [decide_eq_false (of_decide_eq_false h)]
  rfl

theorem fitsHeap_any (v : Value) (l : List Nat) (x : Int) (w : World) (hv : IR w v (ints l)) (hs : l.Pairwise (· < ·)) (h1 : l.length ≤ 1000000000) :
    Calls Try.prog 67 #[v, .int .i64 x] w fun e w' => e = .returned (.bool (fitB l x)) ∧ Below w.heap.size w w' := by
  have R := fun w => implRefOf_any x w
  cases hk : isK 2 x
  · rw [hk, valK_no hk] at R
    have F := fit_no (l := l) hk
    generalize fitB l x = r at *
    subst F
    go_enter Try.func67, Try.ntmps67
    go_wp2_with fail
    refine (R _).mono ?_
    rintro e w1 ⟨rfl, rfl⟩
    go_wp2_with fail
    refine (implWordOk_any _ _).mono ?_
    rintro e w1 ⟨rfl, rfl⟩
    go_wp2
    go_ret
    exact ⟨rfl, Below.refl _ _⟩
  · rw [hk, valK_yes hk] at R
    have F := fit_ref (l := l) hk
    have A := fun w hv => isAmong_any v (ints l) (x / 2) w hv (ints_sorted hs) (by rw [ints_length]; omega)
    rw [F]
    generalize (ints l).contains (x / 2) = r at *
    clear F
    go_enter Try.func67, Try.ntmps67
    go_wp2_with fail
    refine (R _).mono ?_
    rintro e w1 ⟨rfl, rfl⟩
    go_wp2_with fail
    refine (A _ hv).mono ?_
    rintro e w2 ⟨rfl, hb⟩
    go_wp2
    go_ret
    exact ⟨rfl, hb⟩

theorem all_stop {p : Int → Bool} {l : List Int} {k : Nat} (h : k < l.length) (e : p (l.getD k 0) = false) : l.all p = false := by
  rw [Bool.eq_false_iff]
  intro q
  rw [List.all_eq_true] at q
  rw [q (l.getD k 0) (by simp [h])] at e
  cases e
theorem all_done {p : Int → Bool} {l : List Int} (h : ∀ j, j < l.length → p (l.getD j 0) = true) : l.all p = true := by
  rw [List.all_eq_true]
  intro x hx
  obtain ⟨i, hi, e⟩ := List.getElem_of_mem hx
  have := h i hi
  simpa [hi, e] using this
theorem any_stop {p : Int → Bool} {l : List Int} {k : Nat} (h : k < l.length) (e : p (l.getD k 0) = true) : l.any p = true := by
  rw [List.any_eq_true]
  exact ⟨l.getD k 0, by simp [h], e⟩
theorem any_done {p : Int → Bool} {l : List Int} (h : ∀ j, j < l.length → p (l.getD j 0) = false) : l.any p = false := by
  rw [Bool.eq_false_iff]
  intro q
  rw [List.any_eq_true] at q
  obtain ⟨x, hx, e⟩ := q
  obtain ⟨i, hi, e2⟩ := List.getElem_of_mem hx
  have := h i hi
  simp [hi, e2, e] at this

set_option maxHeartbeats 400000 in
theorem allFit_any (v u : Value) (l : List Nat) (ws : List Int) (w : World) (hv : IR w v (ints l)) (hu : IR w u ws) (hs : l.Pairwise (· < ·)) (h1 : l.length ≤ 1000000000) (h2 : ws.length ≤ 1000000000000) :
    Calls Try.prog 54 #[v, u] w fun e w' => e = .returned (.bool (ws.all (fitB l))) ∧ Below w.heap.size w w' := by
  obtain ⟨ao, cap, rfl, _, hc⟩ := hu
  obtain ⟨va, vc, rfl, hq⟩ : ∃ va vc, v = .slice va (ints l).length vc ∧ True := by obtain ⟨a, c, e, _⟩ := hv; exact ⟨a, c, e, trivial⟩
  go_enter Try.func54, Try.ntmps54
  go_wp2
  go_loopw [9] (fun a wr => ∃ k : Nat, a = .int .i64 k ∧ k ≤ ws.length ∧ Hid (∀ j, j < k → fitB l (ws.getD j 0) = true) ∧ Below w.heap.size w wr) (fun a _ => ws.length - (intOf a).toNat)
  case atStart => exact ⟨0, rfl, Nat.zero_le _, fun j hj => by omega, Below.refl _ _⟩
  case round =>
    obtain ⟨k, rfl, hk, hj, hb⟩ := hrel
    by_cases hlt : k < ws.length
    · obtain ⟨b, o, rfl, hci⟩ := hc k hlt
      have ci := cell_later hb hci
      have NX : Hid (fitB l (ws.getD k 0) = true → ∀ j, j < k + 1 → fitB l (ws.getD j 0) = true) := fun e => all_upto hj.out e
      have BAD : Hid (fitB l (ws.getD k 0) = false → ws.all (fitB l) = false) := fun e => all_stop hlt e
      have FH := fitsHeap_any _ l (ws.getD k 0) wr (hv.later hb) hs h1
      clear hc hci hj
      generalize ws.getD k 0 = x at *
      cases hf : fitB l x
      · have G : Hid (ws.all (fitB l) = false) := BAD.out hf
        rw [hf] at FH
        clear NX BAD
        go_wp2_with fail
        refine FH.mono ?_
        rintro e w1 ⟨rfl, hb1⟩
        go_wp2
        go_ret
        exact ⟨wret_bool G.out.symm, bel_after hb hb1⟩
      · have N := NX.out hf
        rw [hf] at FH
        clear NX BAD
        go_wp2_with fail
        refine FH.mono ?_
        rintro e w1 ⟨rfl, hb1⟩
        go_wp2
        exact ⟨⟨k + 1, by go_num, by omega, N, bel_after hb hb1⟩, by simp [intOf]; omega⟩
    · obtain rfl : k = ws.length := by omega
      have G : Hid (ws.all (fitB l) = true) := all_done hj.out
      go_wp2
      go_ret
      exact ⟨wret_bool G.out.symm, hb⟩

set_option maxHeartbeats 400000 in
theorem hasYoung_any (u : Value) (ws : List Int) (w : World) (hu : IR w u ws) (h2 : ws.length ≤ 1000000000000) :
    Calls Try.prog 56 #[u] w fun e w' => e = .returned (.bool (ws.any youngB)) ∧ w' = w := by
  obtain ⟨ao, cap, rfl, _, hc⟩ := hu
  go_enter Try.func56, Try.ntmps56
  go_wp2
  go_loopw [9] (fun a wr => ∃ k : Nat, a = .int .i64 k ∧ k ≤ ws.length ∧ Hid (∀ j, j < k → youngB (ws.getD j 0) = false) ∧ wr = w) (fun a _ => ws.length - (intOf a).toNat)
  case atStart => exact ⟨0, rfl, Nat.zero_le _, fun j hj => by omega, rfl⟩
  case round =>
    obtain ⟨k, rfl, hk, hj, hwr⟩ := hrel
    obtain rfl := hwr.symm
    clear hwr
    by_cases hlt : k < ws.length
    · obtain ⟨b, o, rfl, ci⟩ := hc k hlt
      have NX : Hid (youngB (ws.getD k 0) = false → ∀ j, j < k + 1 → youngB (ws.getD j 0) = false) := fun e => all_upto hj.out e
      have YES : Hid (youngB (ws.getD k 0) = true → ws.any youngB = true) := fun e => any_stop hlt e
      clear hc hj
      generalize ws.getD k 0 = x at *
      have R := fun w => implRefOf_any x w
      cases hk2 : isK 2 x
      · have N := NX.out (young_no hk2)
        rw [hk2, valK_no hk2] at R
        clear NX YES
        go_wp2_with (go_at_call 68; refine (R _).mono ?_; rintro e wq ⟨rfl, hq⟩; obtain rfl := hq.symm)
        exact ⟨⟨k + 1, by go_num, by omega, N, trivial⟩, by simp [intOf]; omega⟩
      · rw [hk2, valK_yes hk2] at R
        have YR := young_ref hk2
        rw [YR] at NX YES
        by_cases hy : 2000 ≤ x / 2
        · have D := decide_eq_true hy
          have G : Hid (ws.any youngB = true) := YES.out D
          clear NX YES YR
          go_wp2_with (first | (go_at_call 68; refine (R _).mono ?_; rintro e wq ⟨rfl, hq⟩; obtain rfl := hq.symm) | (go_at_call 24; refine (isYoung_any _ _).mono ?_; rintro e wq ⟨rfl, hq⟩; obtain rfl := hq.symm; rw [D]))
          go_ret
          exact ⟨wret_bool G.out.symm, rfl⟩
        · have D := decide_eq_false hy
          have N := NX.out D
          clear NX YES YR
          go_wp2_with (first | (go_at_call 68; refine (R _).mono ?_; rintro e wq ⟨rfl, hq⟩; obtain rfl := hq.symm) | (go_at_call 24; refine (isYoung_any _ _).mono ?_; rintro e wq ⟨rfl, hq⟩; obtain rfl := hq.symm; rw [D]))
          exact ⟨⟨k + 1, by go_num, by omega, N, trivial⟩, by simp [intOf]; omega⟩
    · obtain rfl : k = ws.length := by omega
      have G : Hid (ws.any youngB = false) := any_done hj.out
      go_wp2
      go_ret
      exact ⟨wret_bool G.out.symm, rfl⟩

end Go.Proofs.Ytphkmgalgngjiaa

/- wordsFit and keptObjects of the program. -/
namespace Go.Proofs.Ytphkmgalgngjiaa
open Go.RowKit

def objsFit (W : List Int) (l m : List Nat) : Bool := m.all fun a => (flds W a).all (fitB l)
def wfB (h : Hp) (l : List Nat) : Bool := decide (h.roots.length ≤ 20) && (h.roots.all (fitB l) && objsFit h.words l l)
theorem nall_stop {p : Nat → Bool} {l : List Nat} {k : Nat} (h : k < l.length) (e : p (l.getD k 0) = false) : l.all p = false := by
  rw [Bool.eq_false_iff]
  intro q
  rw [List.all_eq_true] at q
  rw [q (l.getD k 0) (by simp [h])] at e
  cases e
theorem nall_done {p : Nat → Bool} {l : List Nat} (h : ∀ j, j < l.length → p (l.getD j 0) = true) : l.all p = true := by
  rw [List.all_eq_true]
  intro x hx
  obtain ⟨i, hi, e⟩ := List.getElem_of_mem hx
  have := h i hi
  simpa [hi, e] using this
theorem intsI {w : World} {v : Value} {l : List Nat} (h : IR w v (ints l)) : ∃ ao cap, v = .slice ao l.length cap ∧ ∀ k, k < l.length → ∃ b o, ao = some ⟨b, o, none⟩ ∧ w.cell? ⟨b, o + k, none⟩ = some (.int .i64 ((l.getD k 0 : Nat) : Int)) := by
  obtain ⟨ao, cap, rfl, _, hc⟩ := h
  rw [ints_length] at hc ⊢
  refine ⟨ao, cap, rfl, fun k hk => ?_⟩
  obtain ⟨b, o, e, hcell⟩ := hc k hk
  refine ⟨b, o, e, ?_⟩
  rw [hcell]
  simp [ints, hk]
theorem lget_mem (l : List Nat) (k : Nat) (h : k < l.length) : l.getD k 0 ∈ l := by simp [h]
theorem IR.shape {w : World} {v : Value} {l : List Int} (h : IR w v l) : ∃ ao cap, v = .slice ao l.length cap := by
  obtain ⟨ao, cap, e, _⟩ := h
  exact ⟨ao, cap, e⟩

set_option maxRecDepth 100000 in
set_option maxHeartbeats 1600000 in
theorem wordsFit_any (v u : Value) (h : Hp) (l : List Nat) (w : World) (hv : HR w v h) (hu : IR w u (ints l)) (hs : l.Pairwise (· < ·)) (hl : l.length ≤ 3200) (hlen : h.words.length = 3200) (hro : h.roots.length ≤ 1000000000000)
    (hobj : ∀ a, a ∈ l → a + 4 ≤ 3200 ∧ nx h.words a ≤ 3200 ∧ objB h.words a = true) :
    Calls Try.prog 33 #[v, u] w fun e w' => e = .returned (.bool (wfB h l)) ∧ Below w.heap.size w w' := by
  obtain ⟨v1, v2, v3, rfl, i1, i2, i3⟩ := hv
  obtain ⟨b, o, cap, rfl, hcap, hW⟩ := i1.ws (by omega)
  rw [hlen] at hcap ⊢
  have HLN : Hid (h.words.length = 3200) := hlen
  obtain ⟨ua, uc, rfl, hc⟩ := intsI hu
  obtain ⟨ro, rc, rfl⟩ := i2.shape
  have hb0 := bel_one w (.cells #[.slice (some ⟨b, o, none⟩) 3200 cap, .slice ro h.roots.length rc, .int .i64 h.old, .int .i64 h.eden, .int .i64 h.surv, .bool h.flip, .int .i64 h.hash, v3] 26)
  have X0 := Bx.new w (.slice (some ⟨b, o, none⟩) 3200 cap) (.slice ro h.roots.length rc) v3 h 26
  by_cases hr : h.roots.length ≤ 20
  · have hri : ¬ (20 : Int) < (h.roots.length : Int) := by omega
    have AF := allFit_any _ _ l h.roots _ (hu.later hb0) (i2.later hb0) hs (by omega) (by omega)
    have HU : Hid (IR w (.slice ua l.length uc) (ints l)) := hu
    clear i1 i2 i3 hlen hu
    cases hf : h.roots.all (fitB l)
    · have G : Hid (wfB h l = false) := (by unfold wfB; rw [hf]; simp : wfB h l = false)
      rw [hf] at AF
      clear X0 hc hW hobj
      go_enter Try.func33, Try.ntmps33
      go_wp2_with fail
      refine AF.mono ?_
      rintro e w1 ⟨rfl, hb1⟩
      go_wp2
      go_ret
      exact ⟨wret_bool G.out.symm, bel_after hb0 hb1⟩
    · have E : Hid (wfB h l = objsFit h.words l l) := (by unfold wfB; rw [hf, decide_eq_true hr]; rfl : wfB h l = objsFit h.words l l)
      rw [hf] at AF
      go_enter Try.func33, Try.ntmps33
      go_wp2_with fail
      refine AF.mono ?_
      rintro e w1 ⟨rfl, hb1⟩
      have X1 := X0.later hb1
      have hbw1 := bel_after hb0 hb1
      have c01 := X1.c0
      clear AF X0 X1 hb0 hb1
      go_wp2
      go_loopw [20] (fun kv wr => ∃ k : Nat, kv = .int .i64 k ∧ k ≤ l.length ∧ Hid (∀ j, j < k → (flds h.words (l.getD j 0)).all (fitB l) = true) ∧ wr.cell? ⟨w.heap.size, 0, none⟩ = some (.slice (some ⟨b, o, none⟩) 3200 cap) ∧ Below w.heap.size w wr) (fun kv _ => l.length - (intOf kv).toNat)
      case atStart => exact ⟨0, rfl, Nat.zero_le _, fun j hj => by omega, c01, hbw1⟩
      case round =>
        obtain ⟨k, rfl, hk, hj, c0, hb⟩ := hrel
        by_cases hlt : k < l.length
        · obtain ⟨b', o', e', hci⟩ := hc k hlt
          subst e'
          have ci := cell_later hb hci
          obtain ⟨q1, q2, q3⟩ := hobj _ (lget_mem l k hlt)
          have NX : Hid ((flds h.words (l.getD k 0)).all (fitB l) = true → ∀ j, j < k + 1 → (flds h.words (l.getD j 0)).all (fitB l) = true) := fun e => all_upto hj.out e
          have BAD : Hid ((flds h.words (l.getD k 0)).all (fitB l) = false → objsFit h.words l l = false) := fun e => nall_stop hlt e
          have W1 := hW.later hb
          have FA := fieldsAt_any b o cap h.words (l.getD k 0) wr W1 HLN.out hcap q1 (size_of (headB_of q3)) q2
          have hfl : (flds h.words (l.getD k 0)).length ≤ 60 := by rw [flds_length]; have := size_of (headB_of q3); omega
          have AL := fun u wq hb' hu' => allFit_any _ u l (flds h.words (l.getD k 0)) wq (HU.out.later hb') hu' hs (by omega) (by omega)
          clear hci hj
          generalize l.getD k 0 = a at *
          cases hca : (flds h.words a).all (fitB l)
          · have G : Hid (wfB h l = false) := (by rw [E.out]; exact BAD.out hca : wfB h l = false)
            simp only [hca] at AL
            clear NX BAD
            go_wp2_with fail
            refine FA.mono ?_
            rintro e w2 ⟨⟨fv, rfl, hfv⟩, hw2⟩
            obtain rfl := hw2.symm
            go_wp2_with fail
            refine (AL _ _ hb hfv).mono ?_
            rintro e w3 ⟨rfl, hb3⟩
            go_wp2
            go_ret
            exact ⟨wret_bool G.out.symm, bel_after hb hb3⟩
          · have N := NX.out hca
            simp only [hca] at AL
            clear NX BAD
            go_wp2_with fail
            refine FA.mono ?_
            rintro e w2 ⟨⟨fv, rfl, hfv⟩, hw2⟩
            obtain rfl := hw2.symm
            go_wp2_with fail
            refine (AL _ _ hb hfv).mono ?_
            rintro e w3 ⟨rfl, hb3⟩
            have c03 := cell_later hb3 c0
            go_wp2
            exact ⟨⟨k + 1, by go_num, by omega, N, c03, bel_after hb hb3⟩, by simp [intOf]; omega⟩
        · obtain rfl : k = l.length := by omega
          have G : Hid (wfB h l = true) := (by rw [E.out]; exact nall_done hj.out : wfB h l = true)
          go_wp2
          go_ret
          exact ⟨wret_bool G.out.symm, hb⟩
  · have hri : (20 : Int) < (h.roots.length : Int) := by omega
    have G : Hid (wfB h l = false) := (by unfold wfB; rw [decide_eq_false hr]; rfl : wfB h l = false)
    clear i1 i2 i3 hlen hu X0 hc hW hobj
    go_enter Try.func33, Try.ntmps33
    go_wp2
    go_ret
    exact ⟨wret_bool G.out.symm, hb0⟩

def keptI (W : List Int) (l : List Nat) : List Nat := l.filter fun a => decide (a < 2000) && hasY W a
theorem keptI_snoc (W : List Int) (l : List Nat) (a : Nat) : keptI W (l ++ [a]) = if (decide (a < 2000) && hasY W a) = true then keptI W l ++ [a] else keptI W l := by
  unfold keptI
  rw [List.filter_append]
  by_cases h : (decide (a < 2000) && hasY W a) = true
  · rw [if_pos h]; congr 1; simp only [List.filter_cons, h, if_true, List.filter_nil]
  · rw [if_neg h]; simp only [List.filter_cons, h, if_false, List.filter_nil, Bool.false_eq_true, List.append_nil]
theorem ltake_snoc (l : List Nat) (k : Nat) (h : k < l.length) : l.take (k + 1) = l.take k ++ [l.getD k 0] := by
  rw [List.take_add_one, List.getElem?_eq_getElem h]
  simp [h]
theorem IRof {w : World} {B n : Nat} {v : Value} {l : List Nat} (h : w.ownsRow B 2 1 v n (icells (ints l))) : IR w v (ints l) := IR_of_owns' h

set_option maxRecDepth 100000 in
set_option maxHeartbeats 1600000 in
theorem keptObjects_any (b o cap : Nat) (u : Value) (W : List Int) (l : List Nat) (w : World) (hW : WS w b o W) (hlen : W.length = 3200) (hcap : 3200 ≤ cap) (hu : IR w u (ints l)) (hl : l.length ≤ 3200)
    (hobj : ∀ a, a ∈ l → a + 4 ≤ 3200 ∧ nx W a ≤ 3200 ∧ objB W a = true) :
    Calls Try.prog 35 #[.slice (some ⟨b, o, none⟩) 3200 cap, u] w fun e w' => (∃ v, e = .returned v ∧ IR w' v (keptOf W l)) ∧ Below w.heap.size w w' := by
  have HLN : Hid (W.length = 3200) := hlen
  obtain ⟨ua, uc, rfl, hc⟩ := intsI hu
  clear hlen hu
  go_enter Try.func35, Try.ntmps35
  go_wp2
  go_loopw [5, 10] (fun ov kv wr => ∃ (k : Nat) (v0 : Value), kv = .int .i64 k ∧ v0 = ov ∧ k ≤ l.length ∧ wr.ownsRow w.heap.size 2 1 v0 (keptI W (l.take k)).length (icells (ints (keptI W (l.take k)))) ∧ Below w.heap.size w wr) (fun _ kv _ => l.length - (intOf kv).toNat)
  case atStart => exact ⟨0, _, rfl, rfl, Nat.zero_le _, ⟨by simp [keptI, icells, ints], .inl ⟨rfl, rfl⟩⟩, Below.refl _ _⟩
  case round =>
    obtain ⟨k, ov, rfl, rfl, hk, hown, hb⟩ := hrel
    by_cases hlt : k < l.length
    · obtain ⟨b', o', e', hci⟩ := hc k hlt
      subst e'
      have ci := cell_later hb hci
      obtain ⟨q1, q2, q3⟩ := hobj _ (lget_mem l k hlt)
      have KS := keptI_snoc W (l.take k) (l.getD k 0)
      rw [← ltake_snoc l k hlt] at KS
      have FA := fieldsAt_any b o cap W (l.getD k 0) wr (hW.later hb) HLN.out hcap q1 (size_of (headB_of q3)) q2
      have hfl : (flds W (l.getD k 0)).length ≤ 60 := by rw [flds_length]; have := size_of (headB_of q3); omega
      have HYf := fun u wq hu' => hasYoung_any u (flds W (l.getD k 0)) wq hu' (by omega)
      rw [show (flds W (l.getD k 0)).any youngB = hasY W (l.getD k 0) from rfl] at HYf
      clear hci
      generalize l.getD k 0 = a at *
      by_cases h2 : a < 2000
      · have D : decide (2000 ≤ (a : Int)) = false := decide_eq_false (by omega)
        rw [decide_eq_true h2] at KS
        generalize hasY W a = y at *
        cases y
        · have KS' : Hid (keptI W (l.take (k + 1)) = keptI W (l.take k)) := KS
          clear KS
          go_wp2_with (first
            | (go_at_call 24; refine (isYoung_any _ _).mono ?_; rintro e wq ⟨rfl, hq⟩; obtain rfl := hq.symm; rw [D])
            | (go_at_call 55; refine FA.mono ?_; rintro e w2 ⟨⟨fv, rfl, hfv⟩, hw2⟩; obtain rfl := hw2.symm)
            | (go_at_call 56; refine (HYf _ _ hfv).mono ?_; rintro e wq ⟨rfl, hq⟩; obtain rfl := hq.symm))
          exact ⟨⟨k + 1, ov, by go_num, rfl, by omega, by rw [KS'.out]; exact hown, hb⟩, by simp [intOf]; omega⟩
        · have KS' : Hid (keptI W (l.take (k + 1)) = keptI W (l.take k) ++ [a]) := KS
          have hlk : (keptI W (l.take k)).length ≤ 3200 := by
            have := List.length_filter_le (fun a => decide (a < 2000) && hasY W a) (l.take k)
            rw [List.length_take] at this
            unfold keptI
            omega
          clear KS
          generalize keptI W (l.take k) = ks at *
          have hown2 := own_later hown (bel_one wr (.cells #[.int .i64 (a : Int)] 2))
          have hb2 := bel_after hb (bel_one wr (.cells #[.int .i64 (a : Int)] 2))
          have hcc : ∀ W : World, (W.alloc (.cells #[.int .i64 (a : Int)] 2)).cell? ⟨W.heap.size, 0, none⟩ = some (.int .i64 (a : Int)) := fun W => by simp
          have hsz := hb.size
          go_wp2_with (first
            | (go_at_call 24; refine (isYoung_any _ _).mono ?_; rintro e wq ⟨rfl, hq⟩; obtain rfl := hq.symm; rw [D])
            | (go_at_call 55; refine FA.mono ?_; rintro e w2 ⟨⟨fv, rfl, hfv⟩, hw2⟩; obtain rfl := hw2.symm)
            | (go_at_call 56; refine (HYf _ _ hfv).mono ?_; rintro e wq ⟨rfl, hq⟩; obtain rfl := hq.symm)
            | (at_builtin; refine app_int _ rfl _ _ rfl _ _ ks.length (icells (ints ks)) rfl hown2 _ 1 (a : Int) rfl (hcc _) (by omega) (by simp; omega) ?_; intro v4 w4 hown4 hg4; have hb4 := own_grown hb2 hown2 hg4 (by simp; omega)))
          exact ⟨⟨k + 1, v4, by go_num, rfl, by omega, by rw [KS'.out]; simpa [icells, ints] using hown4, hb4⟩, by simp [intOf]; omega⟩
      · have D : decide (2000 ≤ (a : Int)) = true := decide_eq_true (by omega)
        rw [decide_eq_false h2] at KS
        have KS' : Hid (keptI W (l.take (k + 1)) = keptI W (l.take k)) := KS
        clear KS
        go_wp2_with (go_at_call 24; refine (isYoung_any _ _).mono ?_; rintro e wq ⟨rfl, hq⟩; obtain rfl := hq.symm; rw [D])
        exact ⟨⟨k + 1, ov, by go_num, rfl, by omega, by rw [KS'.out]; exact hown, hb⟩, by simp [intOf]; omega⟩
    · obtain rfl : k = l.length := by omega
      rw [List.take_length] at hown
      go_wp2
      exact bodyPost_ret (v := ov) (by simp [results, Try.results35, go_sem]) rfl ⟨⟨ov, rfl, IRof hown⟩, hb⟩

end Go.Proofs.Ytphkmgalgngjiaa

/- hashesOk of the program. -/
namespace Go.Proofs.Ytphkmgalgngjiaa
open Go.RowKit

theorem compact_len {zs : List Int} (hs : zs.Pairwise (· ≤ ·)) : (Lib.compact zs).length = zs.length ↔ zs.Nodup := by
  unfold Lib.compact Lib.compactUpTo
  rw [List.length_map]
  have e : ((List.range zs.length).filter (Lib.keeps zs.toArray)).length = zs.length ↔ ∀ j, j < zs.length → Lib.keeps zs.toArray j = true := by
    have := List.length_filter_eq_length_iff (l := List.range zs.length) (p := Lib.keeps zs.toArray)
    rw [List.length_range] at this
    rw [this]
    exact ⟨fun h j hj => h j (List.mem_range.2 hj), fun h j hj => h j (List.mem_range.1 hj)⟩
  rw [e, List.nodup_iff_pairwise_ne, List.pairwise_iff_getElem]
  rw [List.pairwise_iff_getElem] at hs
  constructor
  · intro h i j hi hj hij q
    have k := h j hj
    unfold Lib.keeps at k
    have k := (of_decide_eq_true k).resolve_left (by omega)
    have h1 : zs.toArray[j]! = zs[j] := by simp [hj]
    have h2 : zs.toArray[j - 1]! = zs[j - 1] := by simp [show j - 1 < zs.length by omega]
    rw [h1, h2] at k
    have b := hs (j - 1) j (by omega) hj (by omega)
    have c : zs[i] ≤ zs[j - 1] := by
      rcases Nat.lt_or_ge i (j - 1) with q | q
      · exact hs i (j - 1) hi (by omega) q
      · have : i = j - 1 := by omega
        simp [this]
    omega
  · intro h j hj
    unfold Lib.keeps
    refine decide_eq_true ?_
    by_cases e0 : j = 0
    · exact .inl e0
    · refine .inr fun q => ?_
      have h1 : zs.toArray[j]! = zs[j] := by simp [hj]
      have h2 : zs.toArray[j - 1]! = zs[j - 1] := by simp [show j - 1 < zs.length by omega]
      rw [h1, h2] at q
      exact h (j - 1) j (by omega) hj (by omega) q.symm
theorem sorted_ints (zs : List Int) : (zs.mergeSort fun x y => decide (x ≤ y)).Pairwise (· ≤ ·) := by
  have h := List.pairwise_mergeSort (le := fun x y : Int => decide (x ≤ y)) (fun a b c h1 h2 => by simp at *; omega) (fun a b => by simp; omega) zs
  exact h.imp (fun h => by simpa using h)
theorem perm_nodup (zs : List Int) : (zs.mergeSort fun x y => decide (x ≤ y)).Nodup ↔ zs.Nodup := (List.mergeSort_perm zs _).nodup_iff

/-- Sort and Compact of an own row: how many are left. -/
theorem sort_any (v : Value) (zs : List Int) (B : Nat) (w : World) (ho : w.ownsRow B 2 1 v zs.length (icells zs)) (hl : zs.length ≤ 1000000) :
    Calls Try.prog 52 #[v] w fun e w' => e = .returned (.tuple #[]) ∧ w'.ownsRow B 2 1 v zs.length (icells (zs.mergeSort fun x y => decide (x ≤ y))) ∧ (∀ w0, Below B w0 w → Below B w0 w') := by
  by_cases hv : v = .slice none 0 0
  · subst hv
    have h0 : zs.length = 0 := by
      rcases ho.2 with ⟨_, e⟩ | ⟨g, cap, cur, e, _⟩
      · exact e
      · cases e
    obtain rfl := List.length_eq_zero_iff.1 h0
    refine (AnyM.slices_Sort_int_none Try.laysSortI none 0 w).mono ?_
    rintro e w' ⟨rfl, rfl⟩
    exact ⟨rfl, by simpa using ho, fun _ h => h⟩
  · obtain ⟨g, cap, rfl, hB, hg, hn, hm, _, hH⟩ := Lib.holds_of_ownsRow (enc := Value.int .i64) (zs := zs) ho hv
    refine (AnyM.slices_Sort_int Try.laysSortI g 0 cap zs w hH hg (by omega)).mono ?_
    rintro e w' ⟨rfl, n, os, rfl⟩
    have h1 := Lib.ownsRow_putRow (enc := Value.int .i64) (q := n) (k := zs.length) (ys := zs.mergeSort fun x y => decide (x ≤ y)) ho (by simp) (Nat.le_refl _)
    rw [List.take_of_length_le (by simp)] at h1
    have hgr : ∀ (a : World) (os : Array Obj), Below a.heap.size a (Sort.grow a os) := fun a os => ⟨rfl, rfl, rfl, by simp [Sort.grow], fun k hk => by simp [Sort.grow, Array.getElem?_append, hk]⟩
    refine ⟨rfl, own_later h1 (hgr _ _), fun w0 h => ?_⟩
    have h2 := Lib.below_putRow (enc := Value.int .i64) (q := n) (g := g) (d := (zs.mergeSort fun x y => decide (x ≤ y)).toArray) h hB
    exact h2.trans ((hgr _ _).mono (by simp [Sort.putRow, Sort.mapBlock, Sort.ahead]; omega))
theorem compact_any (v : Value) (zs : List Int) (B : Nat) (w : World) (ho : w.ownsRow B 2 1 v zs.length (icells zs)) (hl : zs.length ≤ 1000000) :
    Calls Try.prog 53 #[v] w fun e w' => (∃ ao cap, e = .returned (.slice ao (Lib.compact zs).length cap)) ∧ (∀ w0, Below B w0 w → Below B w0 w') := by
  by_cases hv : v = .slice none 0 0
  · subst hv
    have h0 : zs.length = 0 := by
      rcases ho.2 with ⟨_, e⟩ | ⟨g, cap, cur, e, _⟩
      · exact e
      · cases e
    obtain rfl := List.length_eq_zero_iff.1 h0
    refine (AnyG.slices_Compact_int_empty Try.laysCompactI none 0 w).mono ?_
    rintro e w' ⟨rfl, rfl⟩
    exact ⟨⟨_, _, rfl⟩, fun _ h => h⟩
  · obtain ⟨g, cap, rfl, hB, hg, hn, hm, _, hH⟩ := Lib.holds_of_ownsRow (enc := Value.int .i64) (zs := zs) ho hv
    refine (AnyG.slices_Compact_int Try.laysCompactI g 0 cap zs w hH (by omega) hn).mono ?_
    rintro e w' ⟨rfl, n, rfl⟩
    exact ⟨⟨_, _, rfl⟩, fun w0 h => Lib.below_putRow h hB⟩

theorem own_lowI' {w : World} {B e size n b : Nat} {v : Value} {xs : List Value} (h : w.ownsRow B e size v n xs) (hk : v.ownBlock = some b) : B ≤ b := by
  rcases h.2 with ⟨rfl, _⟩ | ⟨g, cap, cur, rfl, hg, _⟩
  · cases hk
  · cases hk; exact hg
def hoP (h : Hp) (l : List Nat) : Prop := (1 ≤ h.hash ∧ h.hash ≤ 1000000000) ∧ (∀ a, a ∈ l → gw h.words (a + 2) < h.hash) ∧ (hashesOf h.words l).Nodup

def HoOut (h : Hp) (l : List Nat) (e : Ending) : Prop := ∃ ok : Bool, e = .returned (.bool ok) ∧ (ok = true ↔ hoP h l)
theorem hdF (a b c d : Int) (w : World) : (Instr.field 48 (.agg #[.int .i64 a, .int .i64 b, .int .i64 c, .int .i64 d]) 2).run Try.prog w = .ok (.int .i64 c) w := by kernel_rfl

set_option maxRecDepth 100000 in
set_option maxHeartbeats 1600000 in
theorem hashesOk_any (v u : Value) (h : Hp) (l : List Nat) (w : World) (hv : HR w v h) (hu : IR w u (ints l)) (hl : l.length ≤ 3200) (hlen : h.words.length = 3200)
    (hobj : ∀ a, a ∈ l → a + 4 ≤ 3200) :
    Calls Try.prog 32 #[v, u] w fun e w' => HoOut h l e ∧ Below w.heap.size w w' := by
  obtain ⟨v1, v2, v3, rfl, i1, i2, i3⟩ := hv
  obtain ⟨b, o, cap, rfl, hcap, hW⟩ := i1.ws (by omega)
  rw [hlen] at hcap ⊢
  have HLN : Hid (h.words.length = 3200) := hlen
  obtain ⟨ua, uc, rfl, hc⟩ := intsI hu
  have hb0 := bel_one w (.cells #[.slice (some ⟨b, o, none⟩) 3200 cap, v2, .int .i64 h.old, .int .i64 h.eden, .int .i64 h.surv, .bool h.flip, .int .i64 h.hash, v3] 26)
  have X0 := Bx.new w (.slice (some ⟨b, o, none⟩) 3200 cap) v2 v3 h 26
  have hdf := hdF
  clear i1 i2 i3 hlen hu
  by_cases hh1 : h.hash < 1
  · have G : Hid (HoOut h l (.returned (.bool false))) := ⟨false, rfl, by simp; exact fun k => by have := k.1.1; omega⟩
    clear X0 hc hW
    go_enter Try.func32, Try.ntmps32
    go_wp2
    go_ret
    exact ⟨G.out, hb0⟩
  by_cases hh2 : 1000000000 < h.hash
  · have G : Hid (HoOut h l (.returned (.bool false))) := ⟨false, rfl, by simp; exact fun k => by have := k.1.2; omega⟩
    clear X0 hc hW
    go_enter Try.func32, Try.ntmps32
    go_wp2
    go_ret
    exact ⟨G.out, hb0⟩
  have hsz0 : (w.alloc (.cells #[.slice (some ⟨b, o, none⟩) 3200 cap, v2, .int .i64 h.old, .int .i64 h.eden, .int .i64 h.surv, .bool h.flip, .int .i64 h.hash, v3] 26)).heap.size = w.heap.size + 1 := by simp
  have x0 := X0.c0
  have x6 := X0.c6
  have HSZ : Hid ((w.alloc (.cells #[.slice (some ⟨b, o, none⟩) 3200 cap, v2, .int .i64 h.old, .int .i64 h.eden, .int .i64 h.surv, .bool h.flip, .int .i64 h.hash, v3] 26)).heap.size = w.heap.size + 1) := hsz0
  clear X0 hsz0
  go_enter Try.func32, Try.ntmps32
  go_wp2
  go_loopw [5, 19] (fun ov kv wr => ∃ (k : Nat) (v0 : Value), kv = .int .i64 k ∧ v0 = ov ∧ k ≤ l.length ∧ Hid (∀ j, j < k → gw h.words (l.getD j 0 + 2) < h.hash) ∧ wr.ownsRow (w.heap.size + 1) 2 1 v0 k (icells (hashesOf h.words (l.take k))) ∧ wr.cell? ⟨w.heap.size, 0, none⟩ = some (.slice (some ⟨b, o, none⟩) 3200 cap) ∧ wr.cell? ⟨w.heap.size, 6, none⟩ = some (.int .i64 h.hash) ∧ w.heap.size + 1 ≤ wr.heap.size ∧ Below w.heap.size w wr) (fun _ kv _ => l.length - (intOf kv).toNat)
  case atStart => exact ⟨0, _, rfl, rfl, Nat.zero_le _, fun j hj => by omega, ⟨by simp [hashesOf, icells], .inl ⟨rfl, rfl⟩⟩, x0, x6, by rw [HSZ.out]; omega, hb0⟩
  case round =>
    obtain ⟨k, ov, rfl, rfl, hk, hj, hown, c0, c6, hsz, hb⟩ := hrel
    by_cases hlt : k < l.length
    · obtain ⟨b', o', e', hci⟩ := hc k hlt
      subst e'
      have ci := cell_later hb hci
      have q1 := hobj _ (lget_mem l k hlt)
      have NX : Hid (gw h.words (l.getD k 0 + 2) < h.hash → ∀ j, j < k + 1 → gw h.words (l.getD j 0 + 2) < h.hash) := fun e => all_upto hj.out e
      have BAD : Hid (¬ gw h.words (l.getD k 0 + 2) < h.hash → HoOut h l (.returned (.bool false))) := fun e => ⟨false, rfl, by simp; exact fun q => e (q.2.1 _ (lget_mem l k hlt))⟩
      have HS : Hid (icells (hashesOf h.words (l.take (k + 1))) = icells (hashesOf h.words (l.take k)) ++ [.int .i64 (gw h.words (l.getD k 0 + 2))]) := (by rw [ltake_snoc l k hlt]; simp [hashesOf, icells] : icells (hashesOf h.words (l.take (k + 1))) = icells (hashesOf h.words (l.take k)) ++ [.int .i64 (gw h.words (l.getD k 0 + 2))])
      have HA := headerAt_any b o cap h.words (l.getD k 0) wr (hW.later hb) HLN.out q1
      clear hci hj
      generalize l.getD k 0 = a at *
      generalize gw h.words (a + 2) = x at *
      by_cases hx : x < h.hash
      · have N := NX.out hx
        clear NX BAD
        go_wp2_with fail
        refine HA.mono ?_
        rintro e w1 ⟨rfl, hb1⟩
        have d0 := cell_later hb1 c0
        have d6 := cell_later hb1 c6
        have al := bel_after hb1 (bel_one w1 (.cells #[.int .i64 x] 2))
        have hown2 := own_later hown al
        have hb2 := bel_after hb al
        have e0 := cell_later al c0
        have e6 := cell_later al c6
        have hcc : ∀ W : World, (W.alloc (.cells #[.int .i64 x] 2)).cell? ⟨W.heap.size, 0, none⟩ = some (.int .i64 x) := fun W => by simp
        have s1 := hb1.size
        go_wp2_with (at_builtin; refine app_int _ rfl _ _ rfl _ _ k (icells (hashesOf h.words (l.take k))) rfl hown2 _ 1 x rfl (hcc _) (by omega) (by simp; omega) ?_; intro v4 w4 hown4 hg4'; have hg4 : (w1.alloc (.cells #[.int .i64 x] 2)).grownBy w4 ov.ownBlock := hg4'; have hb4 := Below.grown hb2 hg4 (by simp; omega) (fun b e => by have := own_lowI' hown2 e; omega); have f0 := hg4.cell e0 (fun e => by have q : w.heap.size + 1 ≤ w.heap.size := own_lowI' hown2 e.symm; omega); have f6 := hg4.cell e6 (fun e => by have q : w.heap.size + 1 ≤ w.heap.size := own_lowI' hown2 e.symm; omega); have hs4 := hg4.size)
        exact ⟨⟨k + 1, v4, by go_num, rfl, by omega, N, by rw [HS.out]; exact hown4, f0, f6, by simp at hs4; omega, hb4⟩, by simp [intOf]; omega⟩
      · have G := BAD.out hx
        clear NX BAD
        go_wp2_with fail
        refine HA.mono ?_
        rintro e w1 ⟨rfl, hb1⟩
        have d0 := cell_later hb1 c0
        have d6 := cell_later hb1 c6
        go_wp2
        go_ret
        exact ⟨G, bel_after hb hb1⟩
    · obtain rfl : k = l.length := by omega
      rw [List.take_length] at hown
      have hle : (hashesOf h.words l).length = l.length := by simp [hashesOf]
      have hown' : wr.ownsRow (w.heap.size + 1) 2 1 ov (hashesOf h.words l).length (icells (hashesOf h.words l)) := by rw [hle]; exact hown
      have SA := sort_any ov (hashesOf h.words l) _ wr hown' (by rw [hle]; omega)
      have DONE : Hid (∀ n : Nat, n = (Lib.compact ((hashesOf h.words l).mergeSort fun x y => decide (x ≤ y))).length → HoOut h l (.returned (.bool ((n : Int) == (l.length : Int))))) := fun n hn => by
        refine ⟨_, rfl, ?_⟩
        have cl := compact_len (sorted_ints (hashesOf h.words l))
        rw [perm_nodup, List.length_mergeSort, hle, ← hn] at cl
        rw [beq_iff_eq, Int.ofNat_inj, cl]
        constructor
        · intro q
          refine ⟨by omega, fun a ha => ?_, q⟩
          obtain ⟨j, hj', e⟩ := List.getElem_of_mem ha
          have := hj.out j hj'
          simpa [hj', e] using this
        · intro q
          exact q.2.2
      clear hj hown hW hobj c0 c6 hc
      go_wp2_with fail
      refine SA.mono ?_
      rintro e w1 ⟨rfl, ho1, hB1⟩
      have hlm : ((hashesOf h.words l).mergeSort fun x y => decide (x ≤ y)).length = (hashesOf h.words l).length := by simp
      rw [← hlm] at ho1
      have CA := compact_any ov _ _ w1 ho1 (by rw [hlm, hle]; omega)
      generalize hnn : (Lib.compact ((hashesOf h.words l).mergeSort fun x y => decide (x ≤ y))).length = nn at *
      have D := DONE.out nn rfl
      clear DONE hlm ho1 SA hle hnn
      go_wp2_with fail
      refine CA.mono ?_
      rintro e w2 ⟨⟨ao, cp, rfl⟩, hB2⟩
      have hB3 : Below w.heap.size w w2 := hb.trans ((hB2 wr (hB1 wr (Below.refl _ _))).mono (by omega))
      go_wp2
      go_ret
      exact ⟨D, hB3⟩

end Go.Proofs.Ytphkmgalgngjiaa

/- heapSpaces of the program. -/
namespace Go.Proofs.Ytphkmgalgngjiaa
open Go.RowKit

def su2 (h : Hp) : Int := if h.flip = true then 2600 else h.surv
def su3 (h : Hp) : Int := if h.flip = true then h.surv else 2900

set_option maxHeartbeats 1600000 in
theorem heapSpaces_any (v : Value) (h : Hp) (w : World) (hv : HR w v h) :
    Calls Try.prog 48 #[v] w fun e w' => e = .returned (.agg #[.int .i64 0, .int .i64 h.old, .int .i64 2000, .int .i64 2000, .int .i64 h.eden, .int .i64 2600, .int .i64 2600, .int .i64 (su2 h), .int .i64 2900, .int .i64 2900, .int .i64 (su3 h), .int .i64 3200]) ∧ Below w.heap.size w w' := by
  obtain ⟨v1, v2, v3, rfl, i1, i2, i3⟩ := hv
  cases hf : h.flip
  · have e2 : Hid (su2 h = h.surv) := (by unfold su2; rw [hf]; rfl : su2 h = h.surv)
    have e3 : Hid (su3 h = 2900) := (by unfold su3; rw [hf]; rfl : su3 h = 2900)
    clear i1 i2 i3
    go_enter Try.func48, Try.ntmps48
    go_wp2
    exact bodyPost_ret (v := .agg #[.int .i64 0, .int .i64 h.old, .int .i64 2000, .int .i64 2000, .int .i64 h.eden, .int .i64 2600, .int .i64 2600, .int .i64 h.surv, .int .i64 2900, .int .i64 2900, .int .i64 2900, .int .i64 3200]) (by simp [results, Try.results48, go_sem]) rfl ⟨by rw [e2.out, e3.out], bel_after (bel_after (bel_one _ _) (bel_one _ _)) (bel_one _ _)⟩
  · have e2 : Hid (su2 h = 2600) := (by unfold su2; rw [hf]; rfl : su2 h = 2600)
    have e3 : Hid (su3 h = h.surv) := (by unfold su3; rw [hf]; rfl : su3 h = h.surv)
    clear i1 i2 i3
    go_enter Try.func48, Try.ntmps48
    go_wp2
    exact bodyPost_ret (v := .agg #[.int .i64 0, .int .i64 h.old, .int .i64 2000, .int .i64 2000, .int .i64 h.eden, .int .i64 2600, .int .i64 2600, .int .i64 2600, .int .i64 2900, .int .i64 2900, .int .i64 h.surv, .int .i64 3200]) (by simp [results, Try.results48, go_sem]) rfl ⟨by rw [e2.out, e3.out], bel_after (bel_after (bel_one _ _) (bel_one _ _)) (bel_one _ _)⟩

end Go.Proofs.Ytphkmgalgngjiaa

/- What it is for two arrays of spaces to be alike. -/
namespace Go.Proofs.Ytphkmgalgngjiaa
open Go.RowKit

theorem eqS (a b c d e f : Int) (w : World) : (Op.equalIn 9999 69 (.agg #[.int .i64 a, .int .i64 b, .int .i64 c]) (.agg #[.int .i64 d, .int .i64 e, .int .i64 f])).run Try.prog w = .ok (a == d && (b == e && c == f)) w := by
  have u2 := Try.underlying2
  have a2 := Try.isAgg2
  have z2 := Try.sizeOf2
  have hS : Try.prog.underlying 69 = some (.struct (Try.prog.fieldsOf 69)) := by kernel_rfl
  have hp : Try.prog.stoodInHeld 69 = false := by kernel_rfl
  rw [show (9999 : Nat) = 9998 + 1 from rfl, run_equalIn_agg w 9998 69 _ _ hS hp]
  simp only [Program.fieldsOf, Try.underlying69]
  go_simp
  by_cases h1 : a = d <;> by_cases h2 : b = e <;> by_cases h3 : c = f <;> simp [h1, h2, h3]
theorem eqA (a0 a1 a2 a3 u0 u1 u2 u3 : Int) (w : World) : (Op.equalIn 10000 70 (.agg #[.int .i64 0, .int .i64 a0, .int .i64 2000, .int .i64 2000, .int .i64 a1, .int .i64 2600, .int .i64 2600, .int .i64 a2, .int .i64 2900, .int .i64 2900, .int .i64 a3, .int .i64 3200]) (.agg #[.int .i64 0, .int .i64 u0, .int .i64 2000, .int .i64 2000, .int .i64 u1, .int .i64 2600, .int .i64 2600, .int .i64 u2, .int .i64 2900, .int .i64 2900, .int .i64 u3, .int .i64 3200])).run Try.prog w = .ok (a0 == u0 && (a1 == u1 && (a2 == u2 && a3 == u3))) w := by
  have z61 := Try.sizeOf69
  have g61 := Try.isAgg69
  have e := eqS
  rw [show (10000 : Nat) = 9999 + 1 from rfl, Op.equalIn]
  simp only [Sem.run_bind, run_underlying Try.underlying70, Result.andThen_ok]
  simp only [Std.Legacy.Range.forIn_eq_forIn_range', Std.Legacy.Range.size, Nat.sub_zero, Nat.add_sub_cancel, Nat.div_one, List.range'_succ, List.range'_zero, List.forIn_cons, List.forIn_nil]
  go_simp
  by_cases h1 : a0 = u0 <;> by_cases h2 : a1 = u1 <;> by_cases h3 : a2 = u2 <;> by_cases h4 : a3 = u3 <;> simp [h1, h2, h3, h4]

end Go.Proofs.Ytphkmgalgngjiaa

/- laidObjects of the program. -/
namespace Go.Proofs.Ytphkmgalgngjiaa
open Go.RowKit

theorem row_low {w w' : World} {b t n : Nat} {f : Nat → Value} (h : w.rowIs b t n f) (hb : Below w.heap.size w w') : w'.rowIs b t n f := h.of_block (hb.block b h.lt)
/-- A row of another type is kept where an own row grows. -/
theorem row_keep {w w' : World} {b t n e' size' n' B' : Nat} {f : Nat → Value} {v' : Value} {xs' : List Value} (h : w.rowIs b t n f) (h' : w.ownsRow B' e' size' v' n' xs') (hne : t ≠ e') (hg : w.grownBy w' v'.ownBlock) : w'.rowIs b t n f := by
  refine h.of_block (hg.block b h.lt (fun e => ?_))
  obtain ⟨c, hc, _⟩ := h
  obtain ⟨_, h'⟩ := h'
  rcases h' with ⟨rfl, _⟩ | ⟨g', cap', cur', rfl, hB', hh', _⟩
  · simp [Value.ownBlock] at e
  · simp only [Value.ownBlock, Option.some.injEq] at e
    subst e
    rw [hc] at hh'
    cases hh'
    exact hne rfl
/-- An own row is kept where a row of another type is stored into. -/
theorem own_set {w : World} {b t n e' size' n' B' i : Nat} {f : Nat → Value} {v' : Value} {xs' : List Value} (h : w.rowIs b t n f) (h' : w.ownsRow B' e' size' v' n' xs') (hne : t ≠ e') (u : Value) : (w.setCell ⟨b, i, none⟩ u).ownsRow B' e' size' v' n' xs' := by
  refine World.ownsRow.kept h' (Disk.grown_set w b i u) ?_
  obtain ⟨c, hc, _⟩ := h
  obtain ⟨_, h'⟩ := h'
  rcases h' with ⟨rfl, _⟩ | ⟨g', cap', cur', rfl, hB', hh', _⟩
  · exact .inl rfl
  · refine .inr (fun e => ?_)
    simp only [Value.ownBlock, Option.some.injEq] at e
    subst e
    rw [hc] at hh'
    cases hh'
    exact hne rfl

def bsA (k : Nat) : Nat := if k = 0 then 0 else if k = 1 then 2000 else if k = 2 then 2600 else 2900
def esA (k : Nat) : Nat := if k = 0 then 2000 else if k = 1 then 2600 else if k = 2 then 2900 else 3200
def tuA (h : Hp) (k : Nat) : Int := if k = 0 then h.old else if k = 1 then h.eden else if k = 2 then su2 h else su3 h
def fuA (h : Hp) (ns : Nat → Nat) (k j : Nat) : Int := if j < k then ((it h.words (bsA j) (ns j) : Nat) : Int) else tuA h j
def spF (u : Nat → Int) (i : Nat) : Value := .int .i64 (if i % 3 = 0 then (bsA (i / 3) : Nat) else if i % 3 = 1 then u (i / 3) else (esA (i / 3) : Nat))
def objsK (W : List Int) (ns : Nat → Nat) : Nat → List Nat
  | 0 => []
  | k + 1 => objsK W ns k ++ its W (bsA k) (ns k)
def upd (ns : Nat → Nat) (k n : Nat) : Nat → Nat := fun j => if j = k then n else ns j
theorem objsK_congr {W : List Int} {ns ms : Nat → Nat} : ∀ k, (∀ j, j < k → ns j = ms j) → objsK W ns k = objsK W ms k
  | 0, _ => rfl
  | k + 1, h => by unfold objsK; rw [objsK_congr k (fun j hj => h j (by omega)), h k (by omega)]
theorem objsK_upd (W : List Int) (ns : Nat → Nat) (k n : Nat) : objsK W (upd ns k n) (k + 1) = objsK W ns k ++ its W (bsA k) n := by
  show objsK W (upd ns k n) k ++ its W (bsA k) (upd ns k n k) = _
  rw [objsK_congr (ms := ns) k (fun j hj => by unfold upd; rw [if_neg (by omega)])]
  unfold upd
  rw [if_pos rfl]
theorem fuA_upd {h : Hp} {ns : Nat → Nat} {k n : Nat} (i : Nat) : (if i = 3 * k + 1 then Value.int .i64 ((it h.words (bsA k) n : Nat) : Int) else spF (fuA h ns k) i) = spF (fuA h (upd ns k n) (k + 1)) i := by
  unfold spF
  by_cases e : i = 3 * k + 1
  · rw [if_pos e]
    have e1 : i % 3 = 1 := by omega
    have e2 : i / 3 = k := by omega
    rw [if_neg (by omega), if_pos e1, e2]
    unfold fuA
    rw [if_pos (by omega)]
    unfold upd
    rw [if_pos rfl]
  · rw [if_neg e]
    by_cases e1 : i % 3 = 1
    · have e2 : i / 3 ≠ k := by omega
      rw [if_neg (by omega), if_pos e1, if_neg (by omega), if_pos e1]
      unfold fuA upd
      by_cases e3 : i / 3 < k
      · rw [if_pos e3, if_pos (by omega), if_neg e2]
      · rw [if_neg e3, if_neg (by omega)]
    · by_cases e0 : i % 3 = 0
      · rw [if_pos e0, if_pos e0]
      · rw [if_neg e0, if_neg e1, if_neg e0, if_neg e1]

theorem sp_row (h : Hp) (w : World) : (w.alloc (.cells #[.int .i64 0, .int .i64 h.old, .int .i64 2000, .int .i64 2000, .int .i64 h.eden, .int .i64 2600, .int .i64 2600, .int .i64 (su2 h), .int .i64 2900, .int .i64 2900, .int .i64 (su3 h), .int .i64 3200] 70)).rowIs w.heap.size 70 12 (spF (tuA h)) :=
  World.rowIs_alloc w #[.int .i64 0, .int .i64 h.old, .int .i64 2000, .int .i64 2000, .int .i64 h.eden, .int .i64 2600, .int .i64 2600, .int .i64 (su2 h), .int .i64 2900, .int .i64 2900, .int .i64 (su3 h), .int .i64 3200] 70 _ (fun i hi => by
    match i, hi with
    | 0, _ => rfl
    | 1, _ => rfl
    | 2, _ => rfl
    | 3, _ => rfl
    | 4, _ => rfl
    | 5, _ => rfl
    | 6, _ => rfl
    | 7, _ => rfl
    | 8, _ => rfl
    | 9, _ => rfl
    | 10, _ => rfl
    | 11, _ => rfl
    | n + 12, hn => simp at hn; omega)
theorem fuA_zero (h : Hp) (ns : Nat → Nat) (i : Nat) : spF (tuA h) i = spF (fuA h ns 0) i := by
  unfold spF fuA
  simp
theorem three_row (w : World) (x y z : Int) : (w.alloc (.cells #[.int .i64 x, .int .i64 y, .int .i64 z] 69)).rowIs w.heap.size 69 3 (fun i => .int .i64 (if i = 0 then x else if i = 1 then y else z)) :=
  World.rowIs_alloc w #[.int .i64 x, .int .i64 y, .int .i64 z] 69 _ (fun i hi => by
    match i, hi with
    | 0, _ => rfl
    | 1, _ => rfl
    | 2, _ => rfl
    | n + 3, hn => simp at hn; omega)
theorem own_lowI {w : World} {B e size n b : Nat} {v : Value} {xs : List Value} (h : w.ownsRow B e size v n xs) (hk : v.ownBlock = some b) : B ≤ b := by
  rcases h.2 with ⟨rfl, _⟩ | ⟨g, cap, cur, rfl, hg, _⟩
  · cases hk
  · cases hk; exact hg
theorem spIdx0 (u0 u1 u2 u3 : Int) (w : World) : (Instr.index 70 (.agg #[.int .i64 0, .int .i64 u0, .int .i64 2000, .int .i64 2000, .int .i64 u1, .int .i64 2600, .int .i64 2600, .int .i64 u2, .int .i64 2900, .int .i64 2900, .int .i64 u3, .int .i64 3200]) (.int .i64 0)).run Try.prog w = .ok (.agg #[.int .i64 0, .int .i64 u0, .int .i64 2000]) w := by kernel_rfl
theorem spIdx1 (u0 u1 u2 u3 : Int) (w : World) : (Instr.index 70 (.agg #[.int .i64 0, .int .i64 u0, .int .i64 2000, .int .i64 2000, .int .i64 u1, .int .i64 2600, .int .i64 2600, .int .i64 u2, .int .i64 2900, .int .i64 2900, .int .i64 u3, .int .i64 3200]) (.int .i64 1)).run Try.prog w = .ok (.agg #[.int .i64 2000, .int .i64 u1, .int .i64 2600]) w := by kernel_rfl
theorem spIdx2 (u0 u1 u2 u3 : Int) (w : World) : (Instr.index 70 (.agg #[.int .i64 0, .int .i64 u0, .int .i64 2000, .int .i64 2000, .int .i64 u1, .int .i64 2600, .int .i64 2600, .int .i64 u2, .int .i64 2900, .int .i64 2900, .int .i64 u3, .int .i64 3200]) (.int .i64 2)).run Try.prog w = .ok (.agg #[.int .i64 2600, .int .i64 u2, .int .i64 2900]) w := by kernel_rfl
theorem spIdx3 (u0 u1 u2 u3 : Int) (w : World) : (Instr.index 70 (.agg #[.int .i64 0, .int .i64 u0, .int .i64 2000, .int .i64 2000, .int .i64 u1, .int .i64 2600, .int .i64 2600, .int .i64 u2, .int .i64 2900, .int .i64 2900, .int .i64 u3, .int .i64 3200]) (.int .i64 3)).run Try.prog w = .ok (.agg #[.int .i64 2900, .int .i64 u3, .int .i64 3200]) w := by kernel_rfl
theorem hasB_no {W : List Int} {e b n a : Nat} (h : it W b n = a) (hs : ∀ i, i < n → objB W (it W b i) = true ∧ it W b (i + 1) ≤ e) (hb : hasB W a e = false) : Stops W e b n := by
  refine ⟨hs, ?_⟩
  rintro ⟨h1, h2, h3⟩
  unfold it at h3
  rw [h] at h1 h2 h3
  unfold hasB at hb
  rw [decide_eq_true h1, h2, decide_eq_true h3] at hb
  cases hb
theorem hasB_yes {W : List Int} {e a : Nat} (hb : hasB W a e = true) : a + 4 ≤ e ∧ objB W a = true ∧ nx W a ≤ e := by
  unfold hasB at hb
  simp only [Bool.and_eq_true, decide_eq_true_eq] at hb
  exact ⟨hb.1, hb.2.1, hb.2.2⟩

def cutL (W : List Int) (m e : Nat) : List Int := (List.range (e - m)).map fun i => gw W (m + i)
theorem cutL_length (W : List Int) (m e : Nat) : (cutL W m e).length = e - m := by simp [cutL]
theorem cutL_all {W : List Int} {m e : Nat} : (cutL W m e).all (· == 0) = true ↔ ∀ i, m ≤ i → i < e → gw W i = 0 := by
  rw [List.all_eq_true]
  unfold cutL
  constructor
  · intro h i h1 h2
    have := h (gw W (m + (i - m))) (List.mem_map.2 ⟨i - m, by rw [List.mem_range]; omega, rfl⟩)
    rw [show m + (i - m) = i from by omega] at this
    simpa using this
  · intro h x hx
    obtain ⟨i, hi, rfl⟩ := List.mem_map.1 hx
    rw [List.mem_range] at hi
    rw [h (m + i) (by omega) (by omega)]
    rfl
theorem words_cut {w : World} {b o q c m e : Nat} {W : List Int} (hW : WS w b o W) (hl : W.length = 3200) (he : e ≤ 3200) (hq : e - m = 0 ∨ q = o + m) (hc : e - m ≤ c) : IR w (.slice (some ⟨b, q, none⟩) (e - m) c) (cutL W m e) := by
  refine ⟨_, c, by rw [cutL_length], by rw [cutL_length]; exact hc, fun i hi => ⟨b, q, rfl, ?_⟩⟩
  rw [cutL_length] at hi
  obtain rfl := hq.resolve_left (by omega)
  rw [show o + m + i = o + (m + i) from by omega, hW (m + i) (by omega)]
  simp [cutL, hi]

def LaidOut (h : Hp) (B : Nat) (x : Ending) (w' : World) : Prop :=
  (∃ l v', l.length ≤ 3200 ∧ x = .returned (.tuple #[v', .bool true]) ∧ w'.ownsRow B 2 1 v' l.length (icells (ints l)) ∧ LaidAt h l) ∨ (x = .returned (.tuple #[.slice none 0 0, .bool false]) ∧ ∀ l, ¬ LaidAt h l)

set_option maxRecDepth 100000 in
set_option maxHeartbeats 6400000 in
theorem laidObjects_any (v : Value) (h : Hp) (w : World) (hv : HR w v h) (hlen : h.words.length = 3200) :
    Calls Try.prog 31 #[v] w fun x w' => LaidOut h w.heap.size x w' ∧ Below w.heap.size w w' := by
  obtain ⟨v1, v2, v3, rfl, i1, i2, i3⟩ := id hv
  obtain ⟨b, o, cap, rfl, hcap, hW⟩ := i1.ws (by omega)
  rw [hlen] at hv hcap ⊢
  have HLN : Hid (h.words.length = 3200) := hlen
  have hb0 := bel_one w (.cells #[.slice (some ⟨b, o, none⟩) 3200 cap, v2, .int .i64 h.old, .int .i64 h.eden, .int .i64 h.surv, .bool h.flip, .int .i64 h.hash, v3] 26)
  have X0 := Bx.new w (.slice (some ⟨b, o, none⟩) 3200 cap) v2 v3 h 26
  have C1 := heapSpaces_any _ h _ (hv.later hb0)
  clear i1 i2 i3 hv hlen
  go_enter Try.func31, Try.ntmps31
  go_wp2_with fail
  refine C1.mono ?_
  rintro x w1 ⟨rfl, hb1⟩
  have hbw1 := bel_after hb0 hb1
  have X1 := X0.later hb1
  clear C1 X0 hb1 hb0
  have rT := row_low (sp_row h w1) (bel_one _ (.cells #[.int .i64 0, .int .i64 h.old, .int .i64 2000, .int .i64 2000, .int .i64 h.eden, .int .i64 2600, .int .i64 2600, .int .i64 (su2 h), .int .i64 2900, .int .i64 2900, .int .i64 (su3 h), .int .i64 3200] 70))
  have rF0 := sp_row h (w1.alloc (.cells #[.int .i64 0, .int .i64 h.old, .int .i64 2000, .int .i64 2000, .int .i64 h.eden, .int .i64 2600, .int .i64 2600, .int .i64 (su2 h), .int .i64 2900, .int .i64 2900, .int .i64 (su3 h), .int .i64 3200] 70))
  have rF : ∀ ns, ((w1.alloc (.cells #[.int .i64 0, .int .i64 h.old, .int .i64 2000, .int .i64 2000, .int .i64 h.eden, .int .i64 2600, .int .i64 2600, .int .i64 (su2 h), .int .i64 2900, .int .i64 2900, .int .i64 (su3 h), .int .i64 3200] 70)).alloc (.cells #[.int .i64 0, .int .i64 h.old, .int .i64 2000, .int .i64 2000, .int .i64 h.eden, .int .i64 2600, .int .i64 2600, .int .i64 (su2 h), .int .i64 2900, .int .i64 2900, .int .i64 (su3 h), .int .i64 3200] 70)).rowIs (w1.heap.size + 1) 70 12 (spF (fuA h ns 0)) := fun ns => by
    rw [World.size_alloc] at rF0
    exact rF0.congr (fun i _ => fuA_zero h ns i)
  have hb4 := bel_after (bel_one w1 (.cells #[.int .i64 0, .int .i64 h.old, .int .i64 2000, .int .i64 2000, .int .i64 h.eden, .int .i64 2600, .int .i64 2600, .int .i64 (su2 h), .int .i64 2900, .int .i64 2900, .int .i64 (su3 h), .int .i64 3200] 70)) (bel_one _ (.cells #[.int .i64 0, .int .i64 h.old, .int .i64 2000, .int .i64 2000, .int .i64 h.eden, .int .i64 2600, .int .i64 2600, .int .i64 (su2 h), .int .i64 2900, .int .i64 2900, .int .i64 (su3 h), .int .i64 3200] 70))
  have X4 := X1.later hb4
  have hwz : w.heap.size < w1.heap.size := World.block_lt_of_cell? _ _ X1.c0
  clear rF0 X1
  have eqa := eqA
  have x0 := spIdx0
  have x1 := spIdx1
  have x2 := spIdx2
  have x3 := spIdx3
  go_wp2_with fail
  generalize hw4 : (w1.alloc (.cells #[.int .i64 0, .int .i64 h.old, .int .i64 2000, .int .i64 2000, .int .i64 h.eden, .int .i64 2600, .int .i64 2600, .int .i64 (su2 h), .int .i64 2900, .int .i64 2900, .int .i64 (su3 h), .int .i64 3200] 70)).alloc (.cells #[.int .i64 0, .int .i64 h.old, .int .i64 2000, .int .i64 2000, .int .i64 h.eden, .int .i64 2600, .int .i64 2600, .int .i64 (su2 h), .int .i64 2900, .int .i64 2900, .int .i64 (su3 h), .int .i64 3200] 70) = w4 at *
  have s4 : w4.heap.size = w1.heap.size + 2 := by rw [← hw4]; simp
  clear hw4
  have hbw4 := bel_after hbw1 hb4
  generalize hF : w1.heap.size + 1 = F at *
  have hF1 : w1.heap.size < F := by omega
  have hF2 : w4.heap.size = F + 1 := by omega
  have c04 := X4.c0
  clear hF s4 hb4 hbw1
  go_loopw [6, 16] (fun ov iv wr => ∃ (k : Nat) (ns : Nat → Nat) (v0 : Value), k ≤ 4 ∧ iv = .int .i64 k ∧ v0 = ov ∧ Hid (∀ j, j < k → Stops h.words (esA j) (bsA j) (ns j)) ∧ (objsK h.words ns k).length ≤ 800 * k ∧ wr.ownsRow (F + 1) 2 1 v0 (objsK h.words ns k).length (icells (ints (objsK h.words ns k))) ∧ wr.rowIs F 70 12 (spF (fuA h ns k)) ∧ F + 1 ≤ wr.heap.size ∧ Below F w4 wr) (fun _ iv _ => 4 - (intOf iv).toNat)
  case atStart => exact ⟨0, fun _ => 0, _, by omega, rfl, rfl, fun j hj => by omega, by simp [objsK], ⟨by simp [objsK, icells, ints], .inl ⟨rfl, rfl⟩⟩, rF _, by omega, Below.refl _ _⟩
  case round =>
    obtain ⟨k, ns, ov, hk, rfl, rfl, hst, hlk, hown, hrow, hsz, hb⟩ := hrel
    obtain ⟨wo, hwo⟩ : ∃ wo, wo = wr := ⟨wr, rfl⟩
    obtain rfl := hwo
    have hbW : Below w.heap.size w wo := hbw4.trans (hb.mono (by omega))
    have cbx : wo.cell? ⟨w.heap.size, 0, none⟩ = some (.slice (some ⟨b, o, none⟩) 3200 cap) := (hb.cell (p := ⟨w.heap.size, 0, none⟩) (by show w.heap.size < F; omega)).trans c04
    by_cases hlt : k < 4
    · have hko := fun n => objsK_upd h.words ns k n
      have hfu := fun n i => fuA_upd (h := h) (ns := ns) (k := k) (n := n) i
      generalize objsK h.words ns k = lk at *
      rcases (by omega : k = 0 ∨ k = 1 ∨ k = 2 ∨ k = 3) with rfl | rfl | rfl | rfl
      · rw [show ((0 : Nat) : Int) = 0 from rfl]
        have al := bel_one wo (.cells #[.int .i64 0, .int .i64 h.old, .int .i64 2000] 69)
        have hown1 := own_later hown al
        have hrow1 := row_low hrow al
        have hrS := three_row wo 0 h.old 2000
        have hb1 := hb.trans (al.mono (by omega : F ≤ wo.heap.size))
        have hsz1 : F + 1 ≤ (wo.alloc (.cells #[.int .i64 0, .int .i64 h.old, .int .i64 2000] 69)).heap.size := by simp; omega
        go_wp2_with fail
        go_loopw [6, 9] (fun ov av wr2 => ∃ (n a : Nat) (v0 : Value), Hid (it h.words 0 n = a ∧ ∀ i, i < n → objB h.words (it h.words 0 i) = true ∧ it h.words 0 (i + 1) ≤ 2000) ∧ av = .int .i64 a ∧ a ≤ 2000 ∧ 0 + 4 * n ≤ a ∧ v0 = ov ∧ wr2.ownsRow (F + 1) 2 1 v0 (lk.length + n) (icells (ints (lk ++ its h.words 0 n))) ∧ wr2.rowIs F 70 12 (spF (fuA h ns 0)) ∧ wr2.rowIs wo.heap.size 69 3 (fun i => .int .i64 (if i = 0 then 0 else if i = 1 then h.old else 2000)) ∧ F + 1 ≤ wr2.heap.size ∧ Below F w4 wr2) (fun _ av _ => 2000 - (intOf av).toNat)
        case atStart => exact ⟨0, 0, _, ⟨rfl, fun i hi => by omega⟩, rfl, by omega, by omega, rfl, by simpa [its_zero] using hown1, hrow1, hrS, hsz1, hb1⟩
        case round =>
          obtain ⟨n, a, ov, hI, rfl, hae, hna, rfl, hown, hrow, hrS, hsz, hb⟩ := hrel
          have hbW2 : Below w.heap.size w wr := hbw4.trans (hb.mono (by omega))
          have cb2 : wr.cell? ⟨w.heap.size, 0, none⟩ = some (.slice (some ⟨b, o, none⟩) 3200 cap) := (hb.cell (p := ⟨w.heap.size, 0, none⟩) (by show w.heap.size < F; omega)).trans c04
          have ce : wr.cell? ⟨wo.heap.size, 2, none⟩ = some (.int .i64 2000) := hrS.cell (i := 2) (by omega)
          have HO := hasObject_any b o cap h.words a 2000 wr (hW.later hbW2) HLN.out (by omega) (by omega)
          cases hh : hasB h.words a 2000
          · rw [hh] at HO
            have ST : Hid (Stops h.words 2000 0 n) := hasB_no hI.out.1 hI.out.2 hh
            have hn8 : n ≤ 800 := by omega
            go_wp2_with fail
            refine HO.mono ?_
            rintro x w5 ⟨rfl, hb5⟩
            have hrow5 := row_low hrow hb5
            have hown5 := own_later hown hb5
            have cF : w5.cell? ⟨F, 1, none⟩ = some _ := hrow5.cell (i := 1) (by omega)
            have fF := hrow5.frozen 1
            have sb5 := hb5.size
            have NR : (w5.setCell ⟨F, 1, none⟩ (.int .i64 (a : Int))).rowIs F 70 12 (spF (fuA h (upd ns 0 n) (0 + 1))) := (hrow5.set 1 (.int .i64 (a : Int))).congr (fun i _ => by
              have q : (if i = 3 * 0 + 1 then Value.int .i64 ((it h.words 0 n : Nat) : Int) else spF (fuA h ns 0) i) = spF (fuA h (upd ns 0 n) (0 + 1)) i := hfu n i
              rw [hI.out.1] at q
              exact q)
            have NO := own_set (i := 1) hrow5 hown5 (by decide) (.int .i64 (a : Int))
            have NB := (hb.trans (hb5.mono (by omega))).setCell (p := ⟨F, 1, none⟩) (Nat.le_refl _) (.int .i64 (a : Int))
            have NL : Hid (objsK h.words (upd ns 0 n) (0 + 1) = lk ++ its h.words 0 n) := hko n
            have NS : Hid (∀ j, j < 0 + 1 → Stops h.words (esA j) (bsA j) (upd ns 0 n j)) := fun j hj => by
              unfold upd
              by_cases e : j = 0
              · subst e; exact ST.out
              · rw [if_neg e]; exact hst.out j (by omega)
            have hlen2 : (lk ++ its h.words 0 n).length = lk.length + n := by simp [its_length]
            clear HO hrow hown hrow5 hown5 hfu hko cb2 ce
            go_wp2
            exact ⟨⟨0 + 1, upd ns 0 n, ov, by omega, by go_num, rfl, NS, by rw [NL.out, hlen2]; omega, by rw [NL.out, hlen2]; exact NO, NR, by simp; omega, NB⟩, by simp [intOf]⟩
          · rw [hh] at HO
            obtain ⟨y1, y2, y3⟩ := hasB_yes hh
            have hn8 : n ≤ 800 := by omega
            have HNX : Hid (it h.words 0 (n + 1) = nx h.words a) := (by show nx h.words (it h.words 0 n) = _; rw [hI.out.1] : it h.words 0 (n + 1) = nx h.words a)
            have BH := fun W hW' => behind_any b o cap h.words a W hW' HLN.out (by omega) (size_of (headB_of y2))
            have ny : a + 4 ≤ nx h.words a := by unfold nx; omega
            generalize nx h.words a = na at *
            go_wp2_with fail
            refine HO.mono ?_
            rintro x w5 ⟨rfl, hb5⟩
            have sb5 := hb5.size
            have al5 := bel_after hb5 (bel_one w5 (.cells #[.int .i64 (a : Int)] 2))
            have hown6 := own_later hown al5
            have hrow6 := row_low hrow al5
            have hrS6 := row_low hrS al5
            have hb6 := hb.trans (al5.mono (by omega))
            have hc : ∀ W : World, (W.alloc (.cells #[.int .i64 (a : Int)] 2)).cell? ⟨W.heap.size, 0, none⟩ = some (.int .i64 (a : Int)) := fun W => by simp
            clear HO hrow hown hrS hfu hko cb2 ce
            go_wp2_with (at_builtin; refine app_int _ rfl _ _ rfl _ _ (lk.length + n) _ rfl hown6 _ 1 (a : Int) rfl (hc _) (by omega) (by simp; omega) ?_; intro v7 w7 hown7 hg7'; have hg7 : (w5.alloc (.cells #[.int .i64 (a : Int)] 2)).grownBy w7 ov.ownBlock := hg7'; have hb7 := Below.grown hb6 hg7 (by simp; omega) (fun b e => by have := own_lowI hown6 e; omega); have hrow7 := row_keep hrow6 hown6 (by decide) hg7; have hrS7 := row_keep hrS6 hown6 (by decide) hg7; have sz7 := hg7.size; have cb7 : w7.cell? ⟨w.heap.size, 0, none⟩ = some (.slice (some ⟨b, o, none⟩) 3200 cap) := (hb7.cell (p := ⟨w.heap.size, 0, none⟩) (by show w.heap.size < F; omega)).trans c04)
            refine (BH _ (hW.later (hbw4.trans (hb7.mono (by omega))))).mono ?_
            rintro x w8 ⟨rfl, hw8⟩
            obtain rfl := hw8.symm
            have ei : icells (ints (lk ++ its h.words 0 (n + 1))) = icells (ints (lk ++ its h.words 0 n)) ++ [.int .i64 (a : Int)] := by rw [its_succ, hI.out.1]; simp [icells, ints]
            have HG : Hid (it h.words 0 (n + 1) = na ∧ ∀ i, i < n + 1 → objB h.words (it h.words 0 i) = true ∧ it h.words 0 (i + 1) ≤ 2000) := ⟨HNX.out, fun i hi => by
              by_cases e : i = n
              · subst e; rw [hI.out.1, HNX.out]; exact ⟨y2, y3⟩
              · exact hI.out.2 i (by omega)⟩
            go_wp2
            exact ⟨⟨n + 1, na, v7, HG, rfl, y3, by omega, rfl, by rw [ei]; exact hown7, hrow7, hrS7, by simp at sz7; omega, hb7⟩, by simp [intOf]; omega⟩
      · rw [show ((1 : Nat) : Int) = 1 from rfl]
        have al := bel_one wo (.cells #[.int .i64 2000, .int .i64 h.eden, .int .i64 2600] 69)
        have hown1 := own_later hown al
        have hrow1 := row_low hrow al
        have hrS := three_row wo 2000 h.eden 2600
        have hb1 := hb.trans (al.mono (by omega : F ≤ wo.heap.size))
        have hsz1 : F + 1 ≤ (wo.alloc (.cells #[.int .i64 2000, .int .i64 h.eden, .int .i64 2600] 69)).heap.size := by simp; omega
        go_wp2_with fail
        go_loopw [6, 9] (fun ov av wr2 => ∃ (n a : Nat) (v0 : Value), Hid (it h.words 2000 n = a ∧ ∀ i, i < n → objB h.words (it h.words 2000 i) = true ∧ it h.words 2000 (i + 1) ≤ 2600) ∧ av = .int .i64 a ∧ a ≤ 2600 ∧ 2000 + 4 * n ≤ a ∧ v0 = ov ∧ wr2.ownsRow (F + 1) 2 1 v0 (lk.length + n) (icells (ints (lk ++ its h.words 2000 n))) ∧ wr2.rowIs F 70 12 (spF (fuA h ns 1)) ∧ wr2.rowIs wo.heap.size 69 3 (fun i => .int .i64 (if i = 0 then 2000 else if i = 1 then h.eden else 2600)) ∧ F + 1 ≤ wr2.heap.size ∧ Below F w4 wr2) (fun _ av _ => 2600 - (intOf av).toNat)
        case atStart => exact ⟨0, 2000, _, ⟨rfl, fun i hi => by omega⟩, rfl, by omega, by omega, rfl, by simpa [its_zero] using hown1, hrow1, hrS, hsz1, hb1⟩
        case round =>
          obtain ⟨n, a, ov, hI, rfl, hae, hna, rfl, hown, hrow, hrS, hsz, hb⟩ := hrel
          have hbW2 : Below w.heap.size w wr := hbw4.trans (hb.mono (by omega))
          have cb2 : wr.cell? ⟨w.heap.size, 0, none⟩ = some (.slice (some ⟨b, o, none⟩) 3200 cap) := (hb.cell (p := ⟨w.heap.size, 0, none⟩) (by show w.heap.size < F; omega)).trans c04
          have ce : wr.cell? ⟨wo.heap.size, 2, none⟩ = some (.int .i64 2600) := hrS.cell (i := 2) (by omega)
          have HO := hasObject_any b o cap h.words a 2600 wr (hW.later hbW2) HLN.out (by omega) (by omega)
          cases hh : hasB h.words a 2600
          · rw [hh] at HO
            have ST : Hid (Stops h.words 2600 2000 n) := hasB_no hI.out.1 hI.out.2 hh
            have hn8 : n ≤ 800 := by omega
            go_wp2_with fail
            refine HO.mono ?_
            rintro x w5 ⟨rfl, hb5⟩
            have hrow5 := row_low hrow hb5
            have hown5 := own_later hown hb5
            have cF : w5.cell? ⟨F, 4, none⟩ = some _ := hrow5.cell (i := 4) (by omega)
            have fF := hrow5.frozen 4
            have sb5 := hb5.size
            have NR : (w5.setCell ⟨F, 4, none⟩ (.int .i64 (a : Int))).rowIs F 70 12 (spF (fuA h (upd ns 1 n) (1 + 1))) := (hrow5.set 4 (.int .i64 (a : Int))).congr (fun i _ => by
              have q : (if i = 3 * 1 + 1 then Value.int .i64 ((it h.words 2000 n : Nat) : Int) else spF (fuA h ns 1) i) = spF (fuA h (upd ns 1 n) (1 + 1)) i := hfu n i
              rw [hI.out.1] at q
              exact q)
            have NO := own_set (i := 4) hrow5 hown5 (by decide) (.int .i64 (a : Int))
            have NB := (hb.trans (hb5.mono (by omega))).setCell (p := ⟨F, 4, none⟩) (Nat.le_refl _) (.int .i64 (a : Int))
            have NL : Hid (objsK h.words (upd ns 1 n) (1 + 1) = lk ++ its h.words 2000 n) := hko n
            have NS : Hid (∀ j, j < 1 + 1 → Stops h.words (esA j) (bsA j) (upd ns 1 n j)) := fun j hj => by
              unfold upd
              by_cases e : j = 1
              · subst e; exact ST.out
              · rw [if_neg e]; exact hst.out j (by omega)
            have hlen2 : (lk ++ its h.words 2000 n).length = lk.length + n := by simp [its_length]
            clear HO hrow hown hrow5 hown5 hfu hko cb2 ce
            go_wp2
            exact ⟨⟨1 + 1, upd ns 1 n, ov, by omega, by go_num, rfl, NS, by rw [NL.out, hlen2]; omega, by rw [NL.out, hlen2]; exact NO, NR, by simp; omega, NB⟩, by simp [intOf]⟩
          · rw [hh] at HO
            obtain ⟨y1, y2, y3⟩ := hasB_yes hh
            have hn8 : n ≤ 800 := by omega
            have HNX : Hid (it h.words 2000 (n + 1) = nx h.words a) := (by show nx h.words (it h.words 2000 n) = _; rw [hI.out.1] : it h.words 2000 (n + 1) = nx h.words a)
            have BH := fun W hW' => behind_any b o cap h.words a W hW' HLN.out (by omega) (size_of (headB_of y2))
            have ny : a + 4 ≤ nx h.words a := by unfold nx; omega
            generalize nx h.words a = na at *
            go_wp2_with fail
            refine HO.mono ?_
            rintro x w5 ⟨rfl, hb5⟩
            have sb5 := hb5.size
            have al5 := bel_after hb5 (bel_one w5 (.cells #[.int .i64 (a : Int)] 2))
            have hown6 := own_later hown al5
            have hrow6 := row_low hrow al5
            have hrS6 := row_low hrS al5
            have hb6 := hb.trans (al5.mono (by omega))
            have hc : ∀ W : World, (W.alloc (.cells #[.int .i64 (a : Int)] 2)).cell? ⟨W.heap.size, 0, none⟩ = some (.int .i64 (a : Int)) := fun W => by simp
            clear HO hrow hown hrS hfu hko cb2 ce
            go_wp2_with (at_builtin; refine app_int _ rfl _ _ rfl _ _ (lk.length + n) _ rfl hown6 _ 1 (a : Int) rfl (hc _) (by omega) (by simp; omega) ?_; intro v7 w7 hown7 hg7'; have hg7 : (w5.alloc (.cells #[.int .i64 (a : Int)] 2)).grownBy w7 ov.ownBlock := hg7'; have hb7 := Below.grown hb6 hg7 (by simp; omega) (fun b e => by have := own_lowI hown6 e; omega); have hrow7 := row_keep hrow6 hown6 (by decide) hg7; have hrS7 := row_keep hrS6 hown6 (by decide) hg7; have sz7 := hg7.size; have cb7 : w7.cell? ⟨w.heap.size, 0, none⟩ = some (.slice (some ⟨b, o, none⟩) 3200 cap) := (hb7.cell (p := ⟨w.heap.size, 0, none⟩) (by show w.heap.size < F; omega)).trans c04)
            refine (BH _ (hW.later (hbw4.trans (hb7.mono (by omega))))).mono ?_
            rintro x w8 ⟨rfl, hw8⟩
            obtain rfl := hw8.symm
            have ei : icells (ints (lk ++ its h.words 2000 (n + 1))) = icells (ints (lk ++ its h.words 2000 n)) ++ [.int .i64 (a : Int)] := by rw [its_succ, hI.out.1]; simp [icells, ints]
            have HG : Hid (it h.words 2000 (n + 1) = na ∧ ∀ i, i < n + 1 → objB h.words (it h.words 2000 i) = true ∧ it h.words 2000 (i + 1) ≤ 2600) := ⟨HNX.out, fun i hi => by
              by_cases e : i = n
              · subst e; rw [hI.out.1, HNX.out]; exact ⟨y2, y3⟩
              · exact hI.out.2 i (by omega)⟩
            go_wp2
            exact ⟨⟨n + 1, na, v7, HG, rfl, y3, by omega, rfl, by rw [ei]; exact hown7, hrow7, hrS7, by simp at sz7; omega, hb7⟩, by simp [intOf]; omega⟩
      · rw [show ((2 : Nat) : Int) = 2 from rfl]
        have al := bel_one wo (.cells #[.int .i64 2600, .int .i64 (su2 h), .int .i64 2900] 69)
        have hown1 := own_later hown al
        have hrow1 := row_low hrow al
        have hrS := three_row wo 2600 (su2 h) 2900
        have hb1 := hb.trans (al.mono (by omega : F ≤ wo.heap.size))
        have hsz1 : F + 1 ≤ (wo.alloc (.cells #[.int .i64 2600, .int .i64 (su2 h), .int .i64 2900] 69)).heap.size := by simp; omega
        go_wp2_with fail
        go_loopw [6, 9] (fun ov av wr2 => ∃ (n a : Nat) (v0 : Value), Hid (it h.words 2600 n = a ∧ ∀ i, i < n → objB h.words (it h.words 2600 i) = true ∧ it h.words 2600 (i + 1) ≤ 2900) ∧ av = .int .i64 a ∧ a ≤ 2900 ∧ 2600 + 4 * n ≤ a ∧ v0 = ov ∧ wr2.ownsRow (F + 1) 2 1 v0 (lk.length + n) (icells (ints (lk ++ its h.words 2600 n))) ∧ wr2.rowIs F 70 12 (spF (fuA h ns 2)) ∧ wr2.rowIs wo.heap.size 69 3 (fun i => .int .i64 (if i = 0 then 2600 else if i = 1 then (su2 h) else 2900)) ∧ F + 1 ≤ wr2.heap.size ∧ Below F w4 wr2) (fun _ av _ => 2900 - (intOf av).toNat)
        case atStart => exact ⟨0, 2600, _, ⟨rfl, fun i hi => by omega⟩, rfl, by omega, by omega, rfl, by simpa [its_zero] using hown1, hrow1, hrS, hsz1, hb1⟩
        case round =>
          obtain ⟨n, a, ov, hI, rfl, hae, hna, rfl, hown, hrow, hrS, hsz, hb⟩ := hrel
          have hbW2 : Below w.heap.size w wr := hbw4.trans (hb.mono (by omega))
          have cb2 : wr.cell? ⟨w.heap.size, 0, none⟩ = some (.slice (some ⟨b, o, none⟩) 3200 cap) := (hb.cell (p := ⟨w.heap.size, 0, none⟩) (by show w.heap.size < F; omega)).trans c04
          have ce : wr.cell? ⟨wo.heap.size, 2, none⟩ = some (.int .i64 2900) := hrS.cell (i := 2) (by omega)
          have HO := hasObject_any b o cap h.words a 2900 wr (hW.later hbW2) HLN.out (by omega) (by omega)
          cases hh : hasB h.words a 2900
          · rw [hh] at HO
            have ST : Hid (Stops h.words 2900 2600 n) := hasB_no hI.out.1 hI.out.2 hh
            have hn8 : n ≤ 800 := by omega
            go_wp2_with fail
            refine HO.mono ?_
            rintro x w5 ⟨rfl, hb5⟩
            have hrow5 := row_low hrow hb5
            have hown5 := own_later hown hb5
            have cF : w5.cell? ⟨F, 7, none⟩ = some _ := hrow5.cell (i := 7) (by omega)
            have fF := hrow5.frozen 7
            have sb5 := hb5.size
            have NR : (w5.setCell ⟨F, 7, none⟩ (.int .i64 (a : Int))).rowIs F 70 12 (spF (fuA h (upd ns 2 n) (2 + 1))) := (hrow5.set 7 (.int .i64 (a : Int))).congr (fun i _ => by
              have q : (if i = 3 * 2 + 1 then Value.int .i64 ((it h.words 2600 n : Nat) : Int) else spF (fuA h ns 2) i) = spF (fuA h (upd ns 2 n) (2 + 1)) i := hfu n i
              rw [hI.out.1] at q
              exact q)
            have NO := own_set (i := 7) hrow5 hown5 (by decide) (.int .i64 (a : Int))
            have NB := (hb.trans (hb5.mono (by omega))).setCell (p := ⟨F, 7, none⟩) (Nat.le_refl _) (.int .i64 (a : Int))
            have NL : Hid (objsK h.words (upd ns 2 n) (2 + 1) = lk ++ its h.words 2600 n) := hko n
            have NS : Hid (∀ j, j < 2 + 1 → Stops h.words (esA j) (bsA j) (upd ns 2 n j)) := fun j hj => by
              unfold upd
              by_cases e : j = 2
              · subst e; exact ST.out
              · rw [if_neg e]; exact hst.out j (by omega)
            have hlen2 : (lk ++ its h.words 2600 n).length = lk.length + n := by simp [its_length]
            clear HO hrow hown hrow5 hown5 hfu hko cb2 ce
            go_wp2
            exact ⟨⟨2 + 1, upd ns 2 n, ov, by omega, by go_num, rfl, NS, by rw [NL.out, hlen2]; omega, by rw [NL.out, hlen2]; exact NO, NR, by simp; omega, NB⟩, by simp [intOf]⟩
          · rw [hh] at HO
            obtain ⟨y1, y2, y3⟩ := hasB_yes hh
            have hn8 : n ≤ 800 := by omega
            have HNX : Hid (it h.words 2600 (n + 1) = nx h.words a) := (by show nx h.words (it h.words 2600 n) = _; rw [hI.out.1] : it h.words 2600 (n + 1) = nx h.words a)
            have BH := fun W hW' => behind_any b o cap h.words a W hW' HLN.out (by omega) (size_of (headB_of y2))
            have ny : a + 4 ≤ nx h.words a := by unfold nx; omega
            generalize nx h.words a = na at *
            go_wp2_with fail
            refine HO.mono ?_
            rintro x w5 ⟨rfl, hb5⟩
            have sb5 := hb5.size
            have al5 := bel_after hb5 (bel_one w5 (.cells #[.int .i64 (a : Int)] 2))
            have hown6 := own_later hown al5
            have hrow6 := row_low hrow al5
            have hrS6 := row_low hrS al5
            have hb6 := hb.trans (al5.mono (by omega))
            have hc : ∀ W : World, (W.alloc (.cells #[.int .i64 (a : Int)] 2)).cell? ⟨W.heap.size, 0, none⟩ = some (.int .i64 (a : Int)) := fun W => by simp
            clear HO hrow hown hrS hfu hko cb2 ce
            go_wp2_with (at_builtin; refine app_int _ rfl _ _ rfl _ _ (lk.length + n) _ rfl hown6 _ 1 (a : Int) rfl (hc _) (by omega) (by simp; omega) ?_; intro v7 w7 hown7 hg7'; have hg7 : (w5.alloc (.cells #[.int .i64 (a : Int)] 2)).grownBy w7 ov.ownBlock := hg7'; have hb7 := Below.grown hb6 hg7 (by simp; omega) (fun b e => by have := own_lowI hown6 e; omega); have hrow7 := row_keep hrow6 hown6 (by decide) hg7; have hrS7 := row_keep hrS6 hown6 (by decide) hg7; have sz7 := hg7.size; have cb7 : w7.cell? ⟨w.heap.size, 0, none⟩ = some (.slice (some ⟨b, o, none⟩) 3200 cap) := (hb7.cell (p := ⟨w.heap.size, 0, none⟩) (by show w.heap.size < F; omega)).trans c04)
            refine (BH _ (hW.later (hbw4.trans (hb7.mono (by omega))))).mono ?_
            rintro x w8 ⟨rfl, hw8⟩
            obtain rfl := hw8.symm
            have ei : icells (ints (lk ++ its h.words 2600 (n + 1))) = icells (ints (lk ++ its h.words 2600 n)) ++ [.int .i64 (a : Int)] := by rw [its_succ, hI.out.1]; simp [icells, ints]
            have HG : Hid (it h.words 2600 (n + 1) = na ∧ ∀ i, i < n + 1 → objB h.words (it h.words 2600 i) = true ∧ it h.words 2600 (i + 1) ≤ 2900) := ⟨HNX.out, fun i hi => by
              by_cases e : i = n
              · subst e; rw [hI.out.1, HNX.out]; exact ⟨y2, y3⟩
              · exact hI.out.2 i (by omega)⟩
            go_wp2
            exact ⟨⟨n + 1, na, v7, HG, rfl, y3, by omega, rfl, by rw [ei]; exact hown7, hrow7, hrS7, by simp at sz7; omega, hb7⟩, by simp [intOf]; omega⟩
      · rw [show ((3 : Nat) : Int) = 3 from rfl]
        have al := bel_one wo (.cells #[.int .i64 2900, .int .i64 (su3 h), .int .i64 3200] 69)
        have hown1 := own_later hown al
        have hrow1 := row_low hrow al
        have hrS := three_row wo 2900 (su3 h) 3200
        have hb1 := hb.trans (al.mono (by omega : F ≤ wo.heap.size))
        have hsz1 : F + 1 ≤ (wo.alloc (.cells #[.int .i64 2900, .int .i64 (su3 h), .int .i64 3200] 69)).heap.size := by simp; omega
        go_wp2_with fail
        go_loopw [6, 9] (fun ov av wr2 => ∃ (n a : Nat) (v0 : Value), Hid (it h.words 2900 n = a ∧ ∀ i, i < n → objB h.words (it h.words 2900 i) = true ∧ it h.words 2900 (i + 1) ≤ 3200) ∧ av = .int .i64 a ∧ a ≤ 3200 ∧ 2900 + 4 * n ≤ a ∧ v0 = ov ∧ wr2.ownsRow (F + 1) 2 1 v0 (lk.length + n) (icells (ints (lk ++ its h.words 2900 n))) ∧ wr2.rowIs F 70 12 (spF (fuA h ns 3)) ∧ wr2.rowIs wo.heap.size 69 3 (fun i => .int .i64 (if i = 0 then 2900 else if i = 1 then (su3 h) else 3200)) ∧ F + 1 ≤ wr2.heap.size ∧ Below F w4 wr2) (fun _ av _ => 3200 - (intOf av).toNat)
        case atStart => exact ⟨0, 2900, _, ⟨rfl, fun i hi => by omega⟩, rfl, by omega, by omega, rfl, by simpa [its_zero] using hown1, hrow1, hrS, hsz1, hb1⟩
        case round =>
          obtain ⟨n, a, ov, hI, rfl, hae, hna, rfl, hown, hrow, hrS, hsz, hb⟩ := hrel
          have hbW2 : Below w.heap.size w wr := hbw4.trans (hb.mono (by omega))
          have cb2 : wr.cell? ⟨w.heap.size, 0, none⟩ = some (.slice (some ⟨b, o, none⟩) 3200 cap) := (hb.cell (p := ⟨w.heap.size, 0, none⟩) (by show w.heap.size < F; omega)).trans c04
          have ce : wr.cell? ⟨wo.heap.size, 2, none⟩ = some (.int .i64 3200) := hrS.cell (i := 2) (by omega)
          have HO := hasObject_any b o cap h.words a 3200 wr (hW.later hbW2) HLN.out (by omega) (by omega)
          cases hh : hasB h.words a 3200
          · rw [hh] at HO
            have ST : Hid (Stops h.words 3200 2900 n) := hasB_no hI.out.1 hI.out.2 hh
            have hn8 : n ≤ 800 := by omega
            go_wp2_with fail
            refine HO.mono ?_
            rintro x w5 ⟨rfl, hb5⟩
            have hrow5 := row_low hrow hb5
            have hown5 := own_later hown hb5
            have cF : w5.cell? ⟨F, 10, none⟩ = some _ := hrow5.cell (i := 10) (by omega)
            have fF := hrow5.frozen 10
            have sb5 := hb5.size
            have NR : (w5.setCell ⟨F, 10, none⟩ (.int .i64 (a : Int))).rowIs F 70 12 (spF (fuA h (upd ns 3 n) (3 + 1))) := (hrow5.set 10 (.int .i64 (a : Int))).congr (fun i _ => by
              have q : (if i = 3 * 3 + 1 then Value.int .i64 ((it h.words 2900 n : Nat) : Int) else spF (fuA h ns 3) i) = spF (fuA h (upd ns 3 n) (3 + 1)) i := hfu n i
              rw [hI.out.1] at q
              exact q)
            have NO := own_set (i := 10) hrow5 hown5 (by decide) (.int .i64 (a : Int))
            have NB := (hb.trans (hb5.mono (by omega))).setCell (p := ⟨F, 10, none⟩) (Nat.le_refl _) (.int .i64 (a : Int))
            have NL : Hid (objsK h.words (upd ns 3 n) (3 + 1) = lk ++ its h.words 2900 n) := hko n
            have NS : Hid (∀ j, j < 3 + 1 → Stops h.words (esA j) (bsA j) (upd ns 3 n j)) := fun j hj => by
              unfold upd
              by_cases e : j = 3
              · subst e; exact ST.out
              · rw [if_neg e]; exact hst.out j (by omega)
            have hlen2 : (lk ++ its h.words 2900 n).length = lk.length + n := by simp [its_length]
            clear HO hrow hown hrow5 hown5 hfu hko cb2 ce
            go_wp2
            exact ⟨⟨3 + 1, upd ns 3 n, ov, by omega, by go_num, rfl, NS, by rw [NL.out, hlen2]; omega, by rw [NL.out, hlen2]; exact NO, NR, by simp; omega, NB⟩, by simp [intOf]⟩
          · rw [hh] at HO
            obtain ⟨y1, y2, y3⟩ := hasB_yes hh
            have hn8 : n ≤ 800 := by omega
            have HNX : Hid (it h.words 2900 (n + 1) = nx h.words a) := (by show nx h.words (it h.words 2900 n) = _; rw [hI.out.1] : it h.words 2900 (n + 1) = nx h.words a)
            have BH := fun W hW' => behind_any b o cap h.words a W hW' HLN.out (by omega) (size_of (headB_of y2))
            have ny : a + 4 ≤ nx h.words a := by unfold nx; omega
            generalize nx h.words a = na at *
            go_wp2_with fail
            refine HO.mono ?_
            rintro x w5 ⟨rfl, hb5⟩
            have sb5 := hb5.size
            have al5 := bel_after hb5 (bel_one w5 (.cells #[.int .i64 (a : Int)] 2))
            have hown6 := own_later hown al5
            have hrow6 := row_low hrow al5
            have hrS6 := row_low hrS al5
            have hb6 := hb.trans (al5.mono (by omega))
            have hc : ∀ W : World, (W.alloc (.cells #[.int .i64 (a : Int)] 2)).cell? ⟨W.heap.size, 0, none⟩ = some (.int .i64 (a : Int)) := fun W => by simp
            clear HO hrow hown hrS hfu hko cb2 ce
            go_wp2_with (at_builtin; refine app_int _ rfl _ _ rfl _ _ (lk.length + n) _ rfl hown6 _ 1 (a : Int) rfl (hc _) (by omega) (by simp; omega) ?_; intro v7 w7 hown7 hg7'; have hg7 : (w5.alloc (.cells #[.int .i64 (a : Int)] 2)).grownBy w7 ov.ownBlock := hg7'; have hb7 := Below.grown hb6 hg7 (by simp; omega) (fun b e => by have := own_lowI hown6 e; omega); have hrow7 := row_keep hrow6 hown6 (by decide) hg7; have hrS7 := row_keep hrS6 hown6 (by decide) hg7; have sz7 := hg7.size; have cb7 : w7.cell? ⟨w.heap.size, 0, none⟩ = some (.slice (some ⟨b, o, none⟩) 3200 cap) := (hb7.cell (p := ⟨w.heap.size, 0, none⟩) (by show w.heap.size < F; omega)).trans c04)
            refine (BH _ (hW.later (hbw4.trans (hb7.mono (by omega))))).mono ?_
            rintro x w8 ⟨rfl, hw8⟩
            obtain rfl := hw8.symm
            have ei : icells (ints (lk ++ its h.words 2900 (n + 1))) = icells (ints (lk ++ its h.words 2900 n)) ++ [.int .i64 (a : Int)] := by rw [its_succ, hI.out.1]; simp [icells, ints]
            have HG : Hid (it h.words 2900 (n + 1) = na ∧ ∀ i, i < n + 1 → objB h.words (it h.words 2900 i) = true ∧ it h.words 2900 (i + 1) ≤ 3200) := ⟨HNX.out, fun i hi => by
              by_cases e : i = n
              · subst e; rw [hI.out.1, HNX.out]; exact ⟨y2, y3⟩
              · exact hI.out.2 i (by omega)⟩
            go_wp2
            exact ⟨⟨n + 1, na, v7, HG, rfl, y3, by omega, rfl, by rw [ei]; exact hown7, hrow7, hrS7, by simp at sz7; omega, hb7⟩, by simp [intOf]; omega⟩
    · obtain rfl : k = 4 := by omega
      have rTo : wo.rowIs w1.heap.size 70 12 (spF (tuA h)) := rT.of_block (hb.block _ hF1)
      have S0 := hst.out 0 (by omega)
      have S1 := hst.out 1 (by omega)
      have S2 := hst.out 2 (by omega)
      have S3 := hst.out 3 (by omega)
      have hks : Hid (objsK h.words ns 4 = its h.words 0 (ns 0) ++ its h.words 2000 (ns 1) ++ its h.words 2600 (ns 2) ++ its h.words 2900 (ns 3)) := (by simp [objsK, bsA] : objsK h.words ns 4 = its h.words 0 (ns 0) ++ its h.words 2000 (ns 1) ++ its h.words 2600 (ns 2) ++ its h.words 2900 (ns 3))
      obtain ⟨m0, hm0⟩ : ∃ m0, m0 = it h.words 0 (ns 0) := ⟨_, rfl⟩
      obtain ⟨m1, hm1⟩ : ∃ m1, m1 = it h.words 2000 (ns 1) := ⟨_, rfl⟩
      obtain ⟨m2, hm2⟩ : ∃ m2, m2 = it h.words 2600 (ns 2) := ⟨_, rfl⟩
      obtain ⟨m3, hm3⟩ : ∃ m3, m3 = it h.words 2900 (ns 3) := ⟨_, rfl⟩
      have hrow : wo.rowIs F 70 12 (spF (fun j => if j = 0 then (m0 : Int) else if j = 1 then (m1 : Int) else if j = 2 then (m2 : Int) else (m3 : Int))) := hrow.congr (fun i hi => by
        rw [hm0, hm1, hm2, hm3]
        match i, hi with
        | 0, _ => rfl
        | 1, _ => rfl
        | 2, _ => rfl
        | 3, _ => rfl
        | 4, _ => rfl
        | 5, _ => rfl
        | 6, _ => rfl
        | 7, _ => rfl
        | 8, _ => rfl
        | 9, _ => rfl
        | 10, _ => rfl
        | 11, _ => rfl
        | n + 12, hn => omega)
      have F0 : wo.cell? ⟨F, 0, none⟩ = some (.int .i64 0) := hrow.cell (i := 0) (by omega)
      have F1 : wo.cell? ⟨F, 1, none⟩ = some (.int .i64 ((m0 : Nat) : Int)) := hrow.cell (i := 1) (by omega)
      have F2 : wo.cell? ⟨F, 2, none⟩ = some (.int .i64 2000) := hrow.cell (i := 2) (by omega)
      have G0 : wo.cell? ⟨w1.heap.size, 0, none⟩ = some (.int .i64 0) := rTo.cell (i := 0) (by omega)
      have G1 : wo.cell? ⟨w1.heap.size, 1, none⟩ = some (.int .i64 h.old) := rTo.cell (i := 1) (by omega)
      have G2 : wo.cell? ⟨w1.heap.size, 2, none⟩ = some (.int .i64 2000) := rTo.cell (i := 2) (by omega)
      have F3 : wo.cell? ⟨F, 3, none⟩ = some (.int .i64 2000) := hrow.cell (i := 3) (by omega)
      have F4 : wo.cell? ⟨F, 4, none⟩ = some (.int .i64 ((m1 : Nat) : Int)) := hrow.cell (i := 4) (by omega)
      have F5 : wo.cell? ⟨F, 5, none⟩ = some (.int .i64 2600) := hrow.cell (i := 5) (by omega)
      have G3 : wo.cell? ⟨w1.heap.size, 3, none⟩ = some (.int .i64 2000) := rTo.cell (i := 3) (by omega)
      have G4 : wo.cell? ⟨w1.heap.size, 4, none⟩ = some (.int .i64 h.eden) := rTo.cell (i := 4) (by omega)
      have G5 : wo.cell? ⟨w1.heap.size, 5, none⟩ = some (.int .i64 2600) := rTo.cell (i := 5) (by omega)
      have F6 : wo.cell? ⟨F, 6, none⟩ = some (.int .i64 2600) := hrow.cell (i := 6) (by omega)
      have F7 : wo.cell? ⟨F, 7, none⟩ = some (.int .i64 ((m2 : Nat) : Int)) := hrow.cell (i := 7) (by omega)
      have F8 : wo.cell? ⟨F, 8, none⟩ = some (.int .i64 2900) := hrow.cell (i := 8) (by omega)
      have G6 : wo.cell? ⟨w1.heap.size, 6, none⟩ = some (.int .i64 2600) := rTo.cell (i := 6) (by omega)
      have G7 : wo.cell? ⟨w1.heap.size, 7, none⟩ = some (.int .i64 (su2 h)) := rTo.cell (i := 7) (by omega)
      have G8 : wo.cell? ⟨w1.heap.size, 8, none⟩ = some (.int .i64 2900) := rTo.cell (i := 8) (by omega)
      have F9 : wo.cell? ⟨F, 9, none⟩ = some (.int .i64 2900) := hrow.cell (i := 9) (by omega)
      have F10 : wo.cell? ⟨F, 10, none⟩ = some (.int .i64 ((m3 : Nat) : Int)) := hrow.cell (i := 10) (by omega)
      have F11 : wo.cell? ⟨F, 11, none⟩ = some (.int .i64 3200) := hrow.cell (i := 11) (by omega)
      have G9 : wo.cell? ⟨w1.heap.size, 9, none⟩ = some (.int .i64 2900) := rTo.cell (i := 9) (by omega)
      have G10 : wo.cell? ⟨w1.heap.size, 10, none⟩ = some (.int .i64 (su3 h)) := rTo.cell (i := 10) (by omega)
      have G11 : wo.cell? ⟨w1.heap.size, 11, none⟩ = some (.int .i64 3200) := rTo.cell (i := 11) (by omega)
      have H0 : Hid (m0 = it h.words 0 (ns 0)) := hm0
      have H1 : Hid (m1 = it h.words 2000 (ns 1)) := hm1
      have H2 : Hid (m2 = it h.words 2600 (ns 2)) := hm2
      have H3 : Hid (m3 = it h.words 2900 (ns 3)) := hm3
      clear hm0 hm1 hm2 hm3 rT rTo hst rF
      rw [show ((4 : Nat) : Int) = 4 from rfl]
      have hbWo : Below w.heap.size w wo := hbW
      have LE0 : m0 ≤ 2000 := by rw [H0.out]; exact stops_le S0 (by decide)
      have LE1 : m1 ≤ 2600 := by rw [H1.out]; exact stops_le S1 (by decide)
      have LE2 : m2 ≤ 2900 := by rw [H2.out]; exact stops_le S2 (by decide)
      have LE3 : m3 ≤ 3200 := by rw [H3.out]; exact stops_le S3 (by decide)
      obtain ⟨mm, hmm⟩ : ∃ mm : Nat → Nat, mm 0 = m0 ∧ mm 1 = m1 ∧ mm 2 = m2 ∧ mm 3 = m3 := ⟨fun j => if j = 0 then m0 else if j = 1 then m1 else if j = 2 then m2 else m3, rfl, rfl, rfl, rfl⟩
      have HMM : Hid (mm 0 = m0 ∧ mm 1 = m1 ∧ mm 2 = m2 ∧ mm 3 = m3) := hmm
      have LA : Hid (∀ l, LaidAt h l → ((m0 : Int) = h.old ∧ (m1 : Int) = h.eden ∧ (m2 : Int) = su2 h ∧ (m3 : Int) = su3 h) ∧ (∀ j, j < 4 → ∀ i, mm j ≤ i → i < esA j → gw h.words i = 0)) := fun l hl => by
        obtain ⟨n0, n1, n2, n3, ⟨s0, s1, s2, s3⟩, ⟨u0, u1, u2, u3⟩, ⟨z0, z1, z2, z3⟩, _⟩ := hl
        obtain rfl := s0.eq S0
        obtain rfl := s1.eq S1
        obtain rfl := s2.eq S2
        obtain rfl := s3.eq S3
        obtain ⟨e0, e1, e2, e3⟩ := HMM.out
        rw [H0.out, H1.out, H2.out, H3.out]
        refine ⟨⟨u0, u1, u2, u3⟩, fun j hj => ?_⟩
        rcases (by omega : j = 0 ∨ j = 1 ∨ j = 2 ∨ j = 3) with rfl | rfl | rfl | rfl
        · rw [e0, H0.out]; exact z0
        · rw [e1, H1.out]; exact z1
        · rw [e2, H2.out]; exact z2
        · rw [e3, H3.out]; exact z3
      have NOZ : Hid (∀ j, j < 4 → ¬ (∀ i, mm j ≤ i → i < esA j → gw h.words i = 0) → ∀ l, ¬ LaidAt h l) := fun j hj hn l hl => hn ((LA.out l hl).2 j hj)
      clear hmm
      by_cases he : (m0 : Int) = h.old ∧ (m1 : Int) = h.eden ∧ (m2 : Int) = su2 h ∧ (m3 : Int) = su3 h
      · have BQ : ((m0 : Int) == h.old && ((m1 : Int) == h.eden && ((m2 : Int) == su2 h && (m3 : Int) == su3 h))) = true := by simp [he.1, he.2.1, he.2.2.1, he.2.2.2]
        have YES : Hid ((∀ j, j < 4 → ∀ i, mm j ≤ i → i < esA j → gw h.words i = 0) → LaidAt h (objsK h.words ns 4)) := fun z => by
          obtain ⟨e0, e1, e2, e3⟩ := HMM.out
          have z0 := z 0 (by omega)
          have z1 := z 1 (by omega)
          have z2 := z 2 (by omega)
          have z3 := z 3 (by omega)
          rw [e0, H0.out] at z0
          rw [e1, H1.out] at z1
          rw [e2, H2.out] at z2
          rw [e3, H3.out] at z3
          obtain ⟨q0, q1, q2, q3⟩ := he
          rw [H0.out] at q0
          rw [H1.out] at q1
          rw [H2.out] at q2
          rw [H3.out] at q3
          exact ⟨ns 0, ns 1, ns 2, ns 3, ⟨S0, S1, S2, S3⟩, ⟨q0, q1, q2, q3⟩, ⟨z0, z1, z2, z3⟩, hks.out⟩
        have HE : Hid ((m0 : Int) = h.old ∧ (m1 : Int) = h.eden ∧ (m2 : Int) = su2 h ∧ (m3 : Int) = su3 h) := he
        clear he LA S0 S1 S2 S3
        go_wp2_with fail
        go_loopw [45] (fun iv wr => ∃ k : Nat, k ≤ 4 ∧ iv = .int .i64 k ∧ Hid (∀ j, j < k → ∀ i, mm j ≤ i → i < esA j → gw h.words i = 0) ∧ Below wo.heap.size wo wr) (fun iv _ => 4 - (intOf iv).toNat)
        case atStart => exact ⟨0, by omega, rfl, fun j hj => by omega, Below.refl _ _⟩
        case round =>
          obtain ⟨k, hk, rfl, hz, hb3⟩ := hrel
          obtain ⟨em0, em1, em2, em3⟩ := HMM.out
          have e0' : Hid (mm 0 = m0) := em0
          have e1' : Hid (mm 1 = m1) := em1
          have e2' : Hid (mm 2 = m2) := em2
          have e3' : Hid (mm 3 = m3) := em3
          clear em0 em1 em2 em3
          by_cases hlt : k < 4
          · rcases (by omega : k = 0 ∨ k = 1 ∨ k = 2 ∨ k = 3) with rfl | rfl | rfl | rfl
            · rw [show ((0 : Nat) : Int) = 0 from rfl]
              have al := bel_after hb3 (bel_one wr (.cells #[.int .i64 0, .int .i64 ((m0 : Nat) : Int), .int .i64 2000] 69))
              have W3 := hW.later (bel_after hbWo al)
              have cb3 := cell_later al cbx
              have AN := fun q c hq hc => areNoughts_any _ _ _ (words_cut (q := q) (c := c) (m := m0) (e := 2000) W3 HLN.out (by omega) hq hc) (by rw [cutL_length]; omega)
              have LK := LE0
              have CA : (cutL h.words m0 2000).all (· == 0) = true ↔ ∀ i, mm 0 ≤ i → i < esA 0 → gw h.words i = 0 := by rw [e0'.out]; exact cutL_all
              have BAD : Hid ((cutL h.words m0 2000).all (· == 0) = false → ∀ l, ¬ LaidAt h l) := fun e => NOZ.out 0 (by omega) (fun z => by rw [CA.2 z] at e; cases e)
              have NXT : Hid ((cutL h.words m0 2000).all (· == 0) = true → ∀ j, j < 0 + 1 → ∀ i, mm j ≤ i → i < esA j → gw h.words i = 0) := fun e => all_upto hz.out (CA.1 e)
              cases hca : (cutL h.words m0 2000).all (· == 0)
              · have G : Hid (∀ l, ¬ LaidAt h l) := BAD.out hca
                simp only [hca] at AN
                clear BAD NXT CA W3
                go_wp2_with (go_at_call 51; refine (AN (o + m0) (cap - m0) (.inr rfl) (by omega)).mono ?_; rintro x wq ⟨rfl, hq⟩; obtain rfl := hq.symm)
                exact bodyPost_ret (v := .tuple #[.slice none 0 0, .bool false]) (by simp [results, Try.results31, go_sem]) rfl ⟨.inr ⟨rfl, G.out⟩, bel_after hbWo al⟩
              · have N := NXT.out hca
                simp only [hca] at AN
                clear BAD NXT CA W3
                go_wp2_with (go_at_call 51; refine (AN (o + m0) (cap - m0) (.inr rfl) (by omega)).mono ?_; rintro x wq ⟨rfl, hq⟩; obtain rfl := hq.symm)
                exact ⟨⟨0 + 1, by omega, by go_num, N, al⟩, by simp [intOf]⟩
            · rw [show ((1 : Nat) : Int) = 1 from rfl]
              have al := bel_after hb3 (bel_one wr (.cells #[.int .i64 2000, .int .i64 ((m1 : Nat) : Int), .int .i64 2600] 69))
              have W3 := hW.later (bel_after hbWo al)
              have cb3 := cell_later al cbx
              have AN := fun q c hq hc => areNoughts_any _ _ _ (words_cut (q := q) (c := c) (m := m1) (e := 2600) W3 HLN.out (by omega) hq hc) (by rw [cutL_length]; omega)
              have LK := LE1
              have CA : (cutL h.words m1 2600).all (· == 0) = true ↔ ∀ i, mm 1 ≤ i → i < esA 1 → gw h.words i = 0 := by rw [e1'.out]; exact cutL_all
              have BAD : Hid ((cutL h.words m1 2600).all (· == 0) = false → ∀ l, ¬ LaidAt h l) := fun e => NOZ.out 1 (by omega) (fun z => by rw [CA.2 z] at e; cases e)
              have NXT : Hid ((cutL h.words m1 2600).all (· == 0) = true → ∀ j, j < 1 + 1 → ∀ i, mm j ≤ i → i < esA j → gw h.words i = 0) := fun e => all_upto hz.out (CA.1 e)
              cases hca : (cutL h.words m1 2600).all (· == 0)
              · have G : Hid (∀ l, ¬ LaidAt h l) := BAD.out hca
                simp only [hca] at AN
                clear BAD NXT CA W3
                go_wp2_with (go_at_call 51; refine (AN (o + m1) (cap - m1) (.inr rfl) (by omega)).mono ?_; rintro x wq ⟨rfl, hq⟩; obtain rfl := hq.symm)
                exact bodyPost_ret (v := .tuple #[.slice none 0 0, .bool false]) (by simp [results, Try.results31, go_sem]) rfl ⟨.inr ⟨rfl, G.out⟩, bel_after hbWo al⟩
              · have N := NXT.out hca
                simp only [hca] at AN
                clear BAD NXT CA W3
                go_wp2_with (go_at_call 51; refine (AN (o + m1) (cap - m1) (.inr rfl) (by omega)).mono ?_; rintro x wq ⟨rfl, hq⟩; obtain rfl := hq.symm)
                exact ⟨⟨1 + 1, by omega, by go_num, N, al⟩, by simp [intOf]⟩
            · rw [show ((2 : Nat) : Int) = 2 from rfl]
              have al := bel_after hb3 (bel_one wr (.cells #[.int .i64 2600, .int .i64 ((m2 : Nat) : Int), .int .i64 2900] 69))
              have W3 := hW.later (bel_after hbWo al)
              have cb3 := cell_later al cbx
              have AN := fun q c hq hc => areNoughts_any _ _ _ (words_cut (q := q) (c := c) (m := m2) (e := 2900) W3 HLN.out (by omega) hq hc) (by rw [cutL_length]; omega)
              have LK := LE2
              have CA : (cutL h.words m2 2900).all (· == 0) = true ↔ ∀ i, mm 2 ≤ i → i < esA 2 → gw h.words i = 0 := by rw [e2'.out]; exact cutL_all
              have BAD : Hid ((cutL h.words m2 2900).all (· == 0) = false → ∀ l, ¬ LaidAt h l) := fun e => NOZ.out 2 (by omega) (fun z => by rw [CA.2 z] at e; cases e)
              have NXT : Hid ((cutL h.words m2 2900).all (· == 0) = true → ∀ j, j < 2 + 1 → ∀ i, mm j ≤ i → i < esA j → gw h.words i = 0) := fun e => all_upto hz.out (CA.1 e)
              cases hca : (cutL h.words m2 2900).all (· == 0)
              · have G : Hid (∀ l, ¬ LaidAt h l) := BAD.out hca
                simp only [hca] at AN
                clear BAD NXT CA W3
                go_wp2_with (go_at_call 51; refine (AN (o + m2) (cap - m2) (.inr rfl) (by omega)).mono ?_; rintro x wq ⟨rfl, hq⟩; obtain rfl := hq.symm)
                exact bodyPost_ret (v := .tuple #[.slice none 0 0, .bool false]) (by simp [results, Try.results31, go_sem]) rfl ⟨.inr ⟨rfl, G.out⟩, bel_after hbWo al⟩
              · have N := NXT.out hca
                simp only [hca] at AN
                clear BAD NXT CA W3
                go_wp2_with (go_at_call 51; refine (AN (o + m2) (cap - m2) (.inr rfl) (by omega)).mono ?_; rintro x wq ⟨rfl, hq⟩; obtain rfl := hq.symm)
                exact ⟨⟨2 + 1, by omega, by go_num, N, al⟩, by simp [intOf]⟩
            · rw [show ((3 : Nat) : Int) = 3 from rfl]
              have al := bel_after hb3 (bel_one wr (.cells #[.int .i64 2900, .int .i64 ((m3 : Nat) : Int), .int .i64 3200] 69))
              have W3 := hW.later (bel_after hbWo al)
              have cb3 := cell_later al cbx
              have AN := fun q c hq hc => areNoughts_any _ _ _ (words_cut (q := q) (c := c) (m := m3) (e := 3200) W3 HLN.out (by omega) hq hc) (by rw [cutL_length]; omega)
              have LK := LE3
              have CA : (cutL h.words m3 3200).all (· == 0) = true ↔ ∀ i, mm 3 ≤ i → i < esA 3 → gw h.words i = 0 := by rw [e3'.out]; exact cutL_all
              have BAD : Hid ((cutL h.words m3 3200).all (· == 0) = false → ∀ l, ¬ LaidAt h l) := fun e => NOZ.out 3 (by omega) (fun z => by rw [CA.2 z] at e; cases e)
              have NXT : Hid ((cutL h.words m3 3200).all (· == 0) = true → ∀ j, j < 3 + 1 → ∀ i, mm j ≤ i → i < esA j → gw h.words i = 0) := fun e => all_upto hz.out (CA.1 e)
              by_cases hcm : cap ≤ m3
              · have hcm2 : m3 ≤ cap := by omega
                cases hca : (cutL h.words m3 3200).all (· == 0)
                · have G : Hid (∀ l, ¬ LaidAt h l) := BAD.out hca
                  simp only [hca] at AN
                  clear BAD NXT CA W3
                  go_wp2_with (go_at_call 51; refine (AN o 0 (.inl (by omega)) (by omega)).mono ?_; rintro x wq ⟨rfl, hq⟩; obtain rfl := hq.symm)
                  exact bodyPost_ret (v := .tuple #[.slice none 0 0, .bool false]) (by simp [results, Try.results31, go_sem]) rfl ⟨.inr ⟨rfl, G.out⟩, bel_after hbWo al⟩
                · have N := NXT.out hca
                  simp only [hca] at AN
                  clear BAD NXT CA W3
                  go_wp2_with (go_at_call 51; refine (AN o 0 (.inl (by omega)) (by omega)).mono ?_; rintro x wq ⟨rfl, hq⟩; obtain rfl := hq.symm)
                  exact ⟨⟨3 + 1, by omega, by go_num, N, al⟩, by simp [intOf]⟩
              · have hcm2 : m3 < cap := by omega
                cases hca : (cutL h.words m3 3200).all (· == 0)
                · have G : Hid (∀ l, ¬ LaidAt h l) := BAD.out hca
                  simp only [hca] at AN
                  clear BAD NXT CA W3
                  go_wp2_with (go_at_call 51; refine (AN (o + m3) (cap - m3) (.inr rfl) (by omega)).mono ?_; rintro x wq ⟨rfl, hq⟩; obtain rfl := hq.symm)
                  exact bodyPost_ret (v := .tuple #[.slice none 0 0, .bool false]) (by simp [results, Try.results31, go_sem]) rfl ⟨.inr ⟨rfl, G.out⟩, bel_after hbWo al⟩
                · have N := NXT.out hca
                  simp only [hca] at AN
                  clear BAD NXT CA W3
                  go_wp2_with (go_at_call 51; refine (AN (o + m3) (cap - m3) (.inr rfl) (by omega)).mono ?_; rintro x wq ⟨rfl, hq⟩; obtain rfl := hq.symm)
                  exact ⟨⟨3 + 1, by omega, by go_num, N, al⟩, by simp [intOf]⟩
          · obtain rfl : k = 4 := by omega
            rw [show ((4 : Nat) : Int) = 4 from rfl]
            have G := YES.out hz.out
            have hown3 := own_mono (own_later hown hb3) (B' := w.heap.size) (by omega)
            go_wp2
            exact bodyPost_ret (v := .tuple #[ov, .bool true]) (by simp [results, Try.results31, go_sem]) rfl ⟨.inl ⟨_, ov, by omega, rfl, hown3, G⟩, bel_after hbWo hb3⟩
      · have BQ : ((m0 : Int) == h.old && ((m1 : Int) == h.eden && ((m2 : Int) == su2 h && (m3 : Int) == su3 h))) = false := by
          rw [Bool.eq_false_iff]
          intro q
          simp only [Bool.and_eq_true, beq_iff_eq] at q
          exact he q
        have G : Hid (∀ l, ¬ LaidAt h l) := fun l hl => he (LA.out l hl).1
        clear he LA S0 S1 S2 S3 NOZ
        go_wp2
        exact bodyPost_ret (v := .tuple #[.slice none 0 0, .bool false]) (by simp [results, Try.results31, go_sem]) rfl ⟨.inr ⟨rfl, G.out⟩, hbWo⟩

end Go.Proofs.Ytphkmgalgngjiaa

/- rightObjects, HeapOk and Objects of the program. -/
namespace Go.Proofs.Ytphkmgalgngjiaa
open Go.RowKit

set_option maxHeartbeats 400000 in
theorem equal_any (v u : Value) (ss tt : List Int) (w : World) (hv : IR w v ss) (hu : IR w u tt) (h1 : ss.length ≤ 1000000000000000) (_h2 : tt.length ≤ 1000000000000000) :
    Calls Try.prog 34 #[v, u] w fun e w' => e = .returned (.bool (decide (ss = tt))) ∧ Below w.heap.size w w' := by
  obtain ⟨ao, cap, rfl, _, hv⟩ := hv
  obtain ⟨bo, cbp, rfl, _, hu⟩ := hu
  by_cases hl : ss.length = tt.length
  · have hl' : ((ss.length : Int) != (tt.length : Int)) = false := by simp [hl]
    have HL : Hid (ss.length = tt.length) := hl
    go_enter Try.func34, Try.ntmps34
    go_wp2
    go_loopw [13] (fun a wr => ∃ (k : Nat), a = .int .i64 k ∧ k ≤ ss.length ∧ Hid (∀ j, j < k → ss.getD j 0 = tt.getD j 0) ∧ ∃ n, wr = w.drewN n) (fun a _ => (ss.length - (intOf a).toNat))
    case atStart => exact ⟨0, rfl, Nat.zero_le _, fun j hj => absurd hj (by omega), 0, rfl⟩
    case round =>
      obtain ⟨k, rfl, hk, hj, n, rfl⟩ := hrel
      by_cases hlt : k < ss.length
      · obtain ⟨b, o, rfl, hc⟩ := hv k hlt
        obtain ⟨b', o', rfl, hc'⟩ := hu k (by omega)
        have hlt' : k < tt.length := by omega
        generalize hs : ss.getD k 0 = s at *
        generalize ht : tt.getD k 0 = t at *
        have HS : Hid (ss.getD k 0 = s) := hs
        have HT : Hid (tt.getD k 0 = t) := ht
        clear hs ht hv hu hl
        go_wp2
        go_region
        all_goals go_wp2
        · have hne : s ≠ t := by simpa using ‹(s != t) = true›
          go_ret
          exact ⟨ret_bool (decide_eq_false (fun e => hne (by rw [← HS.out, ← HT.out, e]))).symm, below_drewN (Below.refl _ _) _⟩
        · have he : s = t := by simpa using ‹(s != t) = false›
          go_roundw
          case rel => exact ⟨k + 1, by go_num, by omega, all_upto hj.out (by rw [HS.out, HT.out, he]), _, rfl⟩
          case measure => simp [intOf]; omega
      · go_wp2
        go_ret
        exact ⟨ret_bool (decide_eq_true (ilists_eq hl (fun j hj' => hj.out j (by omega)))).symm, below_drewN (Below.refl _ _) _⟩
  · have hl' : ((ss.length : Int) != (tt.length : Int)) = true := by simp; omega
    go_enter Try.func34, Try.ntmps34
    go_wp2
    go_ret
    exact ⟨ret_bool (decide_eq_false (fun e => hl (by rw [e]))).symm, Below.refl _ _⟩

theorem wf_iff {h : Hp} {l : List Nat} : wfB h l = true ↔ (h.roots.length ≤ 20 ∧ (∀ x, x ∈ h.roots → fitB l x = true) ∧ (∀ a, a ∈ l → fieldsFit h.words l a)) := by
  unfold wfB objsFit
  simp only [Bool.and_eq_true, decide_eq_true_eq, List.all_eq_true]
  constructor
  · rintro ⟨a, b, c⟩
    exact ⟨a, b, fun x hx => (fld_mem (W := h.words) (a := x) (p := fitB l)).1 (c x hx)⟩
  · rintro ⟨a, b, c⟩
    exact ⟨a, b, fun x hx => (fld_mem (W := h.words) (a := x) (p := fitB l)).2 (c x hx)⟩

def RightOut (h : Hp) (B : Nat) (x : Ending) (w' : World) : Prop :=
  (∃ l v', x = .returned (.tuple #[v', .bool true]) ∧ w'.ownsRow B 2 1 v' l.length (icells (ints l)) ∧ RightAt h l ∧ l.length ≤ 3200) ∨ (x = .returned (.tuple #[.slice none 0 0, .bool false]) ∧ ∀ l, ¬ RightAt h l)
theorem keepB {W a b : World} {N : Nat} {u0 u7 : Value} (k : Below a.heap.size a b) (h : Below W.heap.size W a ∧ a.cell? ⟨N, 0, none⟩ = some u0 ∧ a.cell? ⟨N, 7, none⟩ = some u7) :
    Below W.heap.size W b ∧ b.cell? ⟨N, 0, none⟩ = some u0 ∧ b.cell? ⟨N, 7, none⟩ = some u7 := ⟨bel_after h.1 k, cell_later k h.2.1, cell_later k h.2.2⟩

set_option maxRecDepth 100000 in
set_option maxHeartbeats 3200000 in
theorem rightObjects_any (v : Value) (h : Hp) (w : World) (hv : HR w v h) (hro : h.roots.length ≤ 1000000000000) (hke : h.kept.length ≤ 1000000000000) :
    Calls Try.prog 16 #[v] w fun x w' => RightOut h w.heap.size x w' ∧ Below w.heap.size w w' := by
  obtain ⟨v1, v2, v3, rfl, i1, i2, i3⟩ := id hv
  have hb0 := bel_one w (.cells #[v1, v2, .int .i64 h.old, .int .i64 h.eden, .int .i64 h.surv, .bool h.flip, .int .i64 h.hash, v3] 26)
  have X0 := Bx.new w v1 v2 v3 h 26
  have hv0 := hv.later hb0
  by_cases hlen : h.words.length = 3200
  · have LO := laidObjects_any _ h _ hv0 hlen
    have RI := fun l => right_iff (h := h) (l := l) hlen
    obtain ⟨b, o, cap, rfl, hcap, hW⟩ := i1.ws (by omega)
    simp only [hlen] at hb0 X0 hv hv0 hcap LO ⊢
    have HLN : Hid (h.words.length = 3200) := hlen
    clear hlen i1
    go_enter Try.func16, Try.ntmps16
    go_wp2_with fail
    refine LO.mono ?_
    rintro x w1 ⟨hlo, hb1⟩
    have hbw1 := bel_after hb0 hb1
    have X1 := X0.later hb1
    have hv1 := hv0.later hb1
    clear LO X0 hv0
    rcases hlo with ⟨l, ov, hl, rfl, hown, hla⟩ | ⟨rfl, hno⟩
    · have SO := hla.sorted
      have OB : ∀ a, a ∈ l → a + 4 ≤ 3200 ∧ nx h.words a ≤ 3200 ∧ objB h.words a = true := fun a ha => hla.obj ha
      have hov := IR_of_owns' hown
      have HOk := hashesOk_any _ _ h l _ hv1 hov hl HLN.out (fun a ha => (OB a ha).1)
      obtain ⟨oa, oc, rfl, -⟩ := intsI hov
      obtain ⟨c0, c1, c2, c3, c4, c5, c6, c7⟩ := id X1
      have HLA : Hid (LaidAt h l) := hla
      have HRI : Hid (∀ m, RightAt h m → m = l) := fun m k => by
        have := (laid_iff HLN.out).1 hla
        exact k.1.eq this.1
      clear hla hv
      go_wp2_with fail
      refine HOk.mono ?_
      rintro x w2 ⟨⟨ok, rfl, hok⟩, hb2⟩
      have hbw2 := bel_after hbw1 hb2
      have X2 := X1.later hb2
      have hv2 := hv1.later hb2
      have hov2 := hov.later hb2
      have hown2 := own_mono (own_later hown hb2) hb0.size
      clear HOk X1 hv1 hov hown c0 c1 c2 c3 c4 c5 c6 c7
      cases ok
      · have G : Hid (∀ m, ¬ RightAt h m) := fun m k => by
          have e := HRI.out m k
          subst e
          have := ((RI m).1 k).2.1
          exact absurd (hok.2 this) (by simp)
        clear RI hok
        go_wp2
        exact bodyPost_ret (v := .tuple #[.slice none 0 0, .bool false]) (by simp [results, Try.results16, go_sem]) rfl ⟨.inr ⟨rfl, G.out⟩, hbw2⟩
      · have HO : Hid (hoP h l) := hok.1 rfl
        have WF := wordsFit_any _ _ h l _ hv2 hov2 SO hl HLN.out hro OB
        obtain ⟨c0, c1, c2, c3, c4, c5, c6, c7⟩ := id X2
        clear hok
        go_wp2_with fail
        refine WF.mono ?_
        rintro x w3 ⟨rfl, hb3⟩
        have hbw3 := bel_after hbw2 hb3
        have X3 := X2.later hb3
        have hov3 := hov2.later hb3
        have hown3 := own_later hown2 hb3
        have hW3 := hW.later hbw3
        clear WF X2 hv2 hov2 hown2 c0 c1 c2 c3 c4 c5 c6 c7
        cases hwf : wfB h l
        · have G : Hid (∀ m, ¬ RightAt h m) := fun m k => by
            have e := HRI.out m k
            subst e
            have := wf_iff.2 ((RI m).1 k).2.2.1
            rw [hwf] at this
            cases this
          clear RI hwf
          go_wp2
          exact bodyPost_ret (v := .tuple #[.slice none 0 0, .bool false]) (by simp [results, Try.results16, go_sem]) rfl ⟨.inr ⟨rfl, G.out⟩, hbw3⟩
        · have HWF := wf_iff.1 hwf
          have DONE : Hid (RightAt h l ↔ h.kept = keptOf h.words l) := (by
            rw [RI l]
            exact ⟨fun k => k.2.2.2.symm, fun k => ⟨HLA.out, HO.out, HWF, k.symm⟩⟩ : RightAt h l ↔ h.kept = keptOf h.words l)
          have KO := fun W hb => keptObjects_any b o cap _ h.words l W (hW3.later hb) HLN.out hcap (hov3.later hb) hl OB
          have K3 : Hid (IR w3 v3 h.kept) := i3.later hbw3
          have hkl : (keptOf h.words l).length ≤ 3200 := by
            unfold keptOf
            rw [ints_length]
            have := List.length_filter_le (fun a => decide (a < 2000) && hasY h.words a) l
            omega
          obtain ⟨ka, kcap, rfl⟩ := i3.shape
          obtain ⟨c0, c1, c2, c3, c4, c5, c6, c7⟩ := id X3
          clear RI hwf HWF X3 c1 c2 c3 c4 c5 c6 i2 i3 hW hW3 hov3
          generalize keptOf h.words l = ks at *
          go_wp2_with fail
          go_region_held3 (fun w' => Below w3.heap.size w3 w' ∧ w'.cell? ⟨w.heap.size, 0, none⟩ = some (.slice (some ⟨b, o, none⟩) 3200 cap) ∧ w'.cell? ⟨w.heap.size, 7, none⟩ = some (.slice ka h.kept.length kcap))
            (first | assumption | exact ⟨(Below.refl _ _).drew, c0, c7⟩ | exact keepB (by assumption) (by assumption))
            (first
              | (go_at_call 35; refine (KO _ (And.left (by assumption))).mono ?_; rintro x w5 ⟨⟨v5, rfl, hk5⟩, hb5⟩)
              | (go_at_call 34; refine (equal_any _ _ h.kept _ _ (K3.out.later (And.left (by assumption))) hk5 (by omega) (by omega)).mono ?_; rintro x w6 ⟨rfl, hb6⟩))
          have hbx : Below w3.heap.size w3 w6 := bel_after (bel_after (Below.refl _ _).drew hb5) hb6
          by_cases hkk : h.kept = ks
          · have D := decide_eq_true hkk
            have G := DONE.out.2 hkk
            have ow := own_later hown3 hbx
            clear DONE hkk
            rw [D]
            go_wp2
            exact bodyPost_ret (v := .tuple #[.slice oa l.length oc, .bool true]) (by simp [results, Try.results16, go_sem]) rfl ⟨.inl ⟨l, _, rfl, ow, G, hl⟩, bel_after hbw3 hbx⟩
          · have D := decide_eq_false hkk
            have G : Hid (∀ m, ¬ RightAt h m) := fun m k => by
              have e := HRI.out m k
              subst e
              exact hkk (DONE.out.1 k)
            clear DONE hkk
            rw [D]
            go_wp2
            exact bodyPost_ret (v := .tuple #[.slice none 0 0, .bool false]) (by simp [results, Try.results16, go_sem]) rfl ⟨.inr ⟨rfl, G.out⟩, bel_after hbw3 hbx⟩
    · have G : Hid (∀ m, ¬ RightAt h m) := fun m k => hno m ((RI m).1 k).1
      clear RI hno hv hv1
      go_wp2
      exact bodyPost_ret (v := .tuple #[.slice none 0 0, .bool false]) (by simp [results, Try.results16, go_sem]) rfl ⟨.inr ⟨rfl, G.out⟩, hbw1⟩
  · have hl' : ((h.words.length : Int) != 3200) = true := by simp; omega
    have G : Hid (∀ m, ¬ RightAt h m) := fun m k => hlen k.1.1
    obtain ⟨a, c, rfl⟩ := i1.shape
    clear hv hv0 X0 i1 i2 i3 hlen
    go_enter Try.func16, Try.ntmps16
    go_wp2
    exact bodyPost_ret (v := .tuple #[.slice none 0 0, .bool false]) (by simp [results, Try.results16, go_sem]) rfl ⟨.inr ⟨rfl, G.out⟩, hb0⟩

end Go.Proofs.Ytphkmgalgngjiaa
