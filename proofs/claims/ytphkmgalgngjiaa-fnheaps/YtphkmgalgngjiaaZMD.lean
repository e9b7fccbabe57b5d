import Derived.Test.YtphkmgalgngjiaaZME
/- l5All, l5Fits, l5Young, l5Same and l5Kept of the model. -/
namespace Go.Proofs.Ytphkmgalgngjiaa
open Go.RowKit

def fitS (f : Nat → Bool) (x : Int) : Bool := wokB x && (decide (x % 2 = 0) || f (x / 2).toNat)
def youngS (x : Int) : Bool := !(x.tmod 2 == 0) && decide (2000 ≤ x.tdiv 2)
def hasYS (W : List Int) (a : Nat) : Bool := (flds W a).any youngS
def keptS (W : List Int) (l : List Nat) : List Nat := l.filter fun a => decide (a < 2000) && hasYS W a

theorem kind_even {x : Int} (h : x % 2 = 0) : kindW x = if numB (x / 2) = true then 1 else 0 := by
  unfold kindW; rw [if_neg (by omega)]
theorem kind_odd {x : Int} (h : ¬ x % 2 = 0) : kindW x = if adrB (x / 2) = true then 2 else 0 := by
  unfold kindW; rw [if_pos (by omega)]
theorem fit_eq (l : List Nat) (x : Int) : fitS (fun i => decide (i ∈ l)) x = fitB l x := by
  unfold fitS fitB wokB
  by_cases h : x % 2 = 0
  · rw [kind_even h, decide_eq_true h]
    split <;> simp
  · rw [kind_odd h, decide_eq_false h]
    split
    · rename_i ha
      have hx : 0 ≤ x / 2 := (of_decide_eq_true ha).1
      obtain ⟨m, hm⟩ := Int.eq_ofNat_of_zero_le hx
      rw [hm]
      simp [ints]
      exact ⟨fun h => ⟨m, h, rfl⟩, fun ⟨a, h, e⟩ => by obtain rfl : a = m := by omega
                                                       exact h⟩
    · simp
theorem young_eq {x : Int} (h : ¬ kindW x = 0) : youngS x = youngB x := by
  unfold youngS youngB
  rw [tmod_two]
  by_cases e : x % 2 = 0
  · rw [decide_eq_true e, kind_even e]
    split <;> simp
  · rw [kind_odd e] at h
    split at h
    · rename_i ha
      have hx := of_decide_eq_true ha
      rw [decide_eq_false e, kind_odd e, if_pos ha, Int.tdiv_eq_ediv_of_nonneg (by omega)]
      simp
    · exact absurd rfl h
theorem fit_kind {l : List Nat} {x : Int} (h : fitB l x = true) : ¬ kindW x = 0 := by
  intro e
  unfold fitB at h
  rw [e] at h
  simp at h
theorem kept_eq {W : List Int} {l : List Nat} (h : ∀ a, a ∈ l → fieldsFit W l a) : ints (keptS W l) = keptOf W l := by
  unfold keptS keptOf
  congr 1
  apply List.filter_congr
  intro a ha
  congr 1
  unfold hasYS hasY
  have hf := (fld_mem (W := W) (a := a) (p := fitB l)).2 (h a ha)
  revert hf
  generalize flds W a = fs
  intro hf
  induction fs with
  | nil => rfl
  | cons x r ih =>
    simp only [List.any_cons]
    rw [young_eq (fit_kind (hf x (by simp))), ih (fun y hy => hf y (by simp [hy]))]

theorem l5All_any (v : Value) (h : Hp) (w : World) (hv : HR w v h) :
    Calls Try.prog 23 #[v] w fun x w' => (∃ l v', l.length ≤ 3200 ∧ x = .returned v' ∧ w'.ownsRow w.heap.size 2 1 v' l.length (icells (ints l)) ∧ ∀ m, PartsAt h m → PartsAt h l) ∧ Below w.heap.size w w' := by
  have C := fun hv' => l5Parts_any v h (w.alloc (.cells (v.cells) 26)) hv'
  obtain ⟨v1, v2, v3, rfl, i1, i2, i3⟩ := id hv
  have hb0 := bel_one w (.cells #[v1, v2, .int .i64 h.old, .int .i64 h.eden, .int .i64 h.surv, .bool h.flip, .int .i64 h.hash, v3] 26)
  have C1 := C (hv.later hb0)
  clear C
  go_enter Try.func23, Try.ntmps23
  go_wp2_with fail
  refine C1.mono ?_
  rintro x w1 ⟨⟨l, g, cp, ok, hl, rfl, ho, y, n⟩, hb1⟩
  have hok : Hid (∀ m, PartsAt h m → PartsAt h l) := fun m k => by
    cases ok
    · exact absurd k (n rfl m)
    · exact y rfl
  have hbw := bel_after hb0 hb1
  have ho' := own_mono ho hb0.size
  clear y n ho hb1 C1
  go_wp2
  go_ret
  exact ⟨⟨l, _, hl, rfl, ho', hok.out⟩, hbw⟩

theorem l5Fits_any (b c : Nat) (f : Nat → Bool) (x : Int) (w : World) (hf : ∀ i, i < 3200 → w.cell? ⟨b, i, none⟩ = some (.bool (f i))) :
    Calls Try.prog 20 #[.slice (some ⟨b, 0, none⟩) 3200 c, .int .i64 x] w fun e w' => e = .returned (.bool (fitS f x)) ∧ w' = w := by
  have T := tmod_two x
  by_cases hw : wokB x = true
  · by_cases h2 : x % 2 = 0
    · have G : Hid (fitS f x = true) := (by unfold fitS; rw [hw, decide_eq_true h2]; rfl : fitS f x = true)
      rw [decide_eq_true h2] at T
      clear h2
      go_enter Try.func20, Try.ntmps20
      go_wp2_with (go_at_call 37; refine (specWordOk_any _ _).mono ?_; rintro e w' ⟨rfl, rfl⟩; rw [hw])
      go_ret
      exact ⟨wret_bool G.out.symm, rfl⟩
    · have G : Hid (fitS f x = f (x / 2).toNat) := (by unfold fitS; rw [hw, decide_eq_false h2]; rfl : fitS f x = f (x / 2).toNat)
      rw [decide_eq_false h2] at T
      have hr : 1 ≤ x ∧ x ≤ 6399 := by
        have := wok_odd h2
        rw [hw] at this
        exact of_decide_eq_true this.symm
      have hc := hf (x / 2).toNat (by omega)
      have ht : x.tdiv 2 = x / 2 := Int.tdiv_eq_ediv_of_nonneg (by omega)
      obtain ⟨m, hm⟩ := Int.eq_ofNat_of_zero_le (show 0 ≤ x / 2 by omega)
      rw [hm] at hc ht G
      rw [Int.toNat_natCast] at hc G
      have hm2 : m < 3200 := by omega
      have hmi : (m : Int) < 3200 := by omega
      clear h2 hm hf hr
      go_enter Try.func20, Try.ntmps20
      go_wp2_with (go_at_call 37; refine (specWordOk_any _ _).mono ?_; rintro e w' ⟨rfl, rfl⟩; rw [hw])
      go_ret
      exact ⟨wret_bool G.out.symm, rfl⟩
  · have hw' : wokB x = false := by simpa using hw
    have G : Hid (fitS f x = false) := (by unfold fitS; rw [hw']; rfl : fitS f x = false)
    clear hw
    go_enter Try.func20, Try.ntmps20
    go_wp2_with (go_at_call 37; refine (specWordOk_any _ _).mono ?_; rintro e w' ⟨rfl, rfl⟩; rw [hw'])
    go_ret
    exact ⟨wret_bool G.out.symm, rfl⟩

theorem half_le {x : Int} (h : ¬ kindW x = 0) : -4611686018427387904 ≤ x.tdiv 2 ∧ x.tdiv 2 ≤ 4611686018427387904 := by
  by_cases e : x % 2 = 0
  · rw [kind_even e] at h
    split at h
    · rename_i ha
      have hx := of_decide_eq_true ha
      rw [tdiv_even e]
      omega
    · exact absurd rfl h
  · rw [kind_odd e] at h
    split at h
    · rename_i ha
      have hx := of_decide_eq_true ha
      rw [Int.tdiv_eq_ediv_of_nonneg (by omega)]
      omega
    · exact absurd rfl h
theorem l5Young_any (x : Int) (w : World) (hr : -4611686018427387904 ≤ x.tdiv 2 ∧ x.tdiv 2 ≤ 4611686018427387904) : Calls Try.prog 38 #[.int .i64 x] w fun e w' => e = .returned (.bool (youngS x)) ∧ w' = w := by
  obtain ⟨r1, r2⟩ := hr
  have T : (x.tmod 2 != 0) = !(x.tmod 2 == 0) := rfl
  cases hx : (x.tmod 2 == 0)
  · rw [hx] at T
    have G : Hid (youngS x = decide (2000 ≤ x.tdiv 2)) := (by unfold youngS; rw [hx]; rfl : youngS x = decide (2000 ≤ x.tdiv 2))
    clear hx
    go_enter Try.func38, Try.ntmps38
    go_wp2
    go_ret
    exact ⟨wret_bool (by rw [G.out]), rfl⟩
  · rw [hx] at T
    have G : Hid (youngS x = false) := (by unfold youngS; rw [hx]; rfl : youngS x = false)
    clear hx
    go_enter Try.func38, Try.ntmps38
    go_wp2
    go_ret
    exact ⟨wret_bool (by rw [G.out]), rfl⟩

end Go.Proofs.Ytphkmgalgngjiaa

/- l5Same and l5Kept of the model. -/
namespace Go.Proofs.Ytphkmgalgngjiaa
open Go.RowKit

set_option maxHeartbeats 400000 in
theorem l5Same_any (v u : Value) (ss tt : List Int) (w : World) (hv : IR w v ss) (hu : IR w u tt) (h1 : ss.length ≤ 1000000000000000) (_h2 : tt.length ≤ 1000000000000000) :
    Calls Try.prog 21 #[v, u] w fun e w' => e = .returned (.bool (decide (ss = tt))) ∧ Below w.heap.size w w' := by
  obtain ⟨ao, cap, rfl, _, hv⟩ := hv
  obtain ⟨bo, cbp, rfl, _, hu⟩ := hu
  by_cases hl : ss.length = tt.length
  · have hl' : ((ss.length : Int) != (tt.length : Int)) = false := by simp [hl]
    have HL : Hid (ss.length = tt.length) := hl
    go_enter Try.func21, Try.ntmps21
    go_wp2
    go_loopw [5] (fun a wr => ∃ (k : Nat), a = .int .i64 k ∧ k ≤ ss.length ∧ Hid (∀ j, j < k → ss.getD j 0 = tt.getD j 0) ∧ ∃ n, wr = w.drewN n) (fun a _ => (ss.length - (intOf a).toNat))
    case atStart => exact ⟨0, rfl, Nat.zero_le _, fun j hj => absurd hj (by omega), 0, rfl⟩
    case round =>
      obtain ⟨k, rfl, hk, hj, n, rfl⟩ := hrel
      by_cases hlt : k < ss.length
      · obtain ⟨b, o, rfl, hc⟩ := hv k hlt
        obtain ⟨b', o', rfl, hc'⟩ := hu k (by omega)
        have hlt' : k < tt.length := by omega
        generalize hs : ss.getD k 0 = s at *
        generalize ht : tt.getD k 0 = t at *
        have HS : Hid (ss.getD k 0 = s) := hs
        have HT : Hid (tt.getD k 0 = t) := ht
        clear hs ht hv hu hl
        go_wp2
        go_region
        all_goals go_wp2
        · have hne : s ≠ t := by simpa using ‹(s != t) = true›
          go_ret
          exact ⟨ret_bool (decide_eq_false (fun e => hne (by rw [← HS.out, ← HT.out, e]))).symm, below_drewN (Below.refl _ _) _⟩
        · have he : s = t := by simpa using ‹(s != t) = false›
          go_roundw
          case rel => exact ⟨k + 1, by go_num, by omega, all_upto hj.out (by rw [HS.out, HT.out, he]), _, rfl⟩
          case measure => simp [intOf]; omega
      · go_wp2
        go_ret
        exact ⟨ret_bool (decide_eq_true (ilists_eq hl (fun j hj' => hj.out j (by omega)))).symm, below_drewN (Below.refl _ _) _⟩
  · have hl' : ((ss.length : Int) != (tt.length : Int)) = true := by simp; omega
    go_enter Try.func21, Try.ntmps21
    go_wp2
    go_ret
    exact ⟨ret_bool (decide_eq_false (fun e => hl (by rw [e]))).symm, Below.refl _ _⟩

theorem flds_take {W : List Int} {a j m : Nat} (hm : (gw W a).toNat = m) (hj : j < m) : (flds W a).take (j + 1) = (flds W a).take j ++ [gw W (a + 4 + j)] := by
  have hl : j < (flds W a).length := by simp [flds]; omega
  rw [List.take_add_one, List.getElem?_eq_getElem hl]
  simp [flds]
theorem flds_all {W : List Int} {a m : Nat} (hm : (gw W a).toNat = m) : (flds W a).take m = flds W a := by
  apply List.take_of_length_le
  simp [flds]
  omega
theorem keptS_snoc (W : List Int) (l : List Nat) (a : Nat) : keptS W (l ++ [a]) = if (decide (a < 2000) && hasYS W a) = true then keptS W l ++ [a] else keptS W l := by
  unfold keptS
  rw [List.filter_append]
  by_cases h : (decide (a < 2000) && hasYS W a) = true
  · rw [if_pos h]; congr 1; simp only [List.filter_cons, h, if_true, List.filter_nil]
  · rw [if_neg h]; simp only [List.filter_cons, h, if_false, List.filter_nil, Bool.false_eq_true, List.append_nil]
theorem take_snoc' {α : Type} [Inhabited α] (l : List α) (k : Nat) (d : α) (h : k < l.length) : l.take (k + 1) = l.take k ++ [l.getD k d] := by
  rw [List.take_add_one, List.getElem?_eq_getElem h]
  simp [h]
theorem ints_get (l : List Nat) (k : Nat) (h : k < l.length) : (ints l).getD k 0 = ((l.getD k 0 : Nat) : Int) := by
  simp [ints, h]
theorem get_mem (l : List Nat) (k : Nat) (h : k < l.length) : l.getD k 0 ∈ l := by
  simp [h]

theorem own_low {w : World} {B e size n b : Nat} {v : Value} {xs : List Value} (h : w.ownsRow B e size v n xs) (hk : v.ownBlock = some b) : B ≤ b := by
  rcases h.2 with ⟨rfl, _⟩ | ⟨g, cap, cur, rfl, hg, _⟩
  · cases hk
  · cases hk; exact hg

set_option maxRecDepth 100000 in
set_option maxHeartbeats 3200000 in
theorem l5Kept_any (v lv : Value) (h : Hp) (l : List Nat) (w : World) (hv : HR w v h) (hlv : IR w lv (ints l)) (hlen : h.words.length = 3200) (hl : l.length ≤ 3200)
    (hobj : ∀ a, a ∈ l → a + 4 ≤ 3200 ∧ nx h.words a ≤ 3200 ∧ headB h.words a = true) (hy : ∀ a, a ∈ l → ∀ x, x ∈ flds h.words a → -4611686018427387904 ≤ x.tdiv 2 ∧ x.tdiv 2 ≤ 4611686018427387904) :
    Calls Try.prog 22 #[v, lv] w fun x w' => (∃ v', x = .returned v' ∧ IR w' v' (ints (keptS h.words l))) ∧ Below w.heap.size w w' := by
  obtain ⟨v1, v2, v3, rfl, i1, i2, i3⟩ := hv
  obtain ⟨b, o, cap, rfl, _, hW⟩ := i1.ws (by omega)
  rw [hlen]
  have HLN : Hid (h.words.length = 3200) := hlen
  obtain ⟨ao, lcap, rfl, _, hc⟩ := hlv
  rw [ints_length] at hc ⊢
  have X0 := Bx.new w (.slice (some ⟨b, o, none⟩) 3200 cap) v2 v3 h 26
  have hb0 := bel_one w (.cells #[.slice (some ⟨b, o, none⟩) 3200 cap, v2, .int .i64 h.old, .int .i64 h.eden, .int .i64 h.surv, .bool h.flip, .int .i64 h.hash, v3] 26)
  have hb1 := bel_after hb0 (bel_one _ (.cells #[] 2))
  have ho0 : ((w.alloc (.cells #[.slice (some ⟨b, o, none⟩) 3200 cap, v2, .int .i64 h.old, .int .i64 h.eden, .int .i64 h.surv, .bool h.flip, .int .i64 h.hash, v3] 26)).alloc (.cells #[] 2)).ownsRow (w.heap.size + 1) 2 1 (.slice (some ⟨w.heap.size + 1, 0, none⟩) 0 0) 0 [] := by
    have q := own_none (w.alloc (.cells #[.slice (some ⟨b, o, none⟩) 3200 cap, v2, .int .i64 h.old, .int .i64 h.eden, .int .i64 h.surv, .bool h.flip, .int .i64 h.hash, v3] 26)) (w.heap.size + 1) 2 1 (by simp)
    rwa [World.size_alloc] at q
  have bx0 := X0.later (bel_one _ (.cells #[] 2))
  have BX : Hid (((w.alloc (.cells #[.slice (some ⟨b, o, none⟩) 3200 cap, v2, .int .i64 h.old, .int .i64 h.eden, .int .i64 h.surv, .bool h.flip, .int .i64 h.hash, v3] 26)).alloc (.cells #[] 2)).cell? ⟨w.heap.size, 0, none⟩ = some (.slice (some ⟨b, o, none⟩) 3200 cap)) := bx0.c0
  clear X0 bx0 i1 i2 i3 hlen hb0
  have hW0 := hW.later hb1
  go_enter Try.func22, Try.ntmps22
  go_wp2
  go_loopw [5, 6] (fun ov iv wr => ∃ (k : Nat) (v0 : Value), k ≤ l.length ∧ iv = .int .i64 k ∧ v0 = ov ∧ wr.ownsRow (w.heap.size + 1) 2 1 v0 (keptS h.words (l.take k)).length (icells (ints (keptS h.words (l.take k)))) ∧ wr.cell? ⟨w.heap.size, 0, none⟩ = some (.slice (some ⟨b, o, none⟩) 3200 cap) ∧ w.heap.size + 1 ≤ wr.heap.size ∧ Below w.heap.size w wr) (fun _ iv _ => l.length - (intOf iv).toNat)
  case atStart => exact ⟨0, _, Nat.zero_le _, rfl, rfl, ho0, BX.out, by simp, hb1⟩
  case round =>
    obtain ⟨k, ov, hk, rfl, rfl, hown, bx, hsz, hb⟩ := hrel
    by_cases hlt : k < l.length
    · obtain ⟨b', o', e', hci⟩ := hc k hlt
      subst e'
      rw [ints_get l k hlt] at hci
      have hm := get_mem l k hlt
      have TS := take_snoc' l k 0 hlt
      generalize l.getD k 0 = a at *
      obtain ⟨q1, q2, q3⟩ := hobj a hm
      have hya := hy a hm
      have hsz0 := size_of q3
      obtain ⟨m, hme⟩ := Int.eq_ofNat_of_zero_le hsz0.1
      have hmN : (gw h.words a).toNat = m := by rw [hme]; rfl
      have hnx : nx h.words a = a + 4 + m := by unfold nx; rw [hmN]
      rw [hnx] at q2
      have ca := (hW.later hb) a (by rw [HLN.out]; omega)
      rw [hme] at ca
      have hcl := cell_later hb hci
      have HC : Hid (∀ j, j < m → wr.cell? ⟨b, o + (a + 4 + j), none⟩ = some (.int .i64 (gw h.words (a + 4 + j)))) := fun j hj => (hW.later hb) _ (by rw [HLN.out]; omega)
      have HM : Hid ((gw h.words a).toNat = m) := hmN
      have HYR : Hid (∀ j, j < m → -4611686018427387904 ≤ (gw h.words (a + 4 + j)).tdiv 2 ∧ (gw h.words (a + 4 + j)).tdiv 2 ≤ 4611686018427387904) := fun j hj => hya _ (List.mem_map.2 ⟨j, by rw [List.mem_range]; omega, rfl⟩)
      have HTS : Hid (l.take (k + 1) = l.take k ++ [a]) := TS
      have mle : m ≤ 60 := by omega
      clear hci TS hme hmN hnx hya hW hW0 hsz0 q3 hobj hy hc hm
      go_wp2
      go_loopw [8, 9] (fun yv kv wr2 => ∃ (j : Nat), j ≤ m ∧ kv = .int .i64 ((a + 4 + j : Nat) : Int) ∧ yv = .bool (((flds h.words a).take j).any youngS) ∧ wr2 = wr) (fun _ kv _ => a + 4 + m - (intOf kv).toNat)
      case atStart => exact ⟨0, Nat.zero_le _, by go_num, rfl, rfl⟩
      case round =>
        obtain ⟨j, hj, rfl, rfl, rfl⟩ := hrel
        by_cases hjm : j < m
        · have c1 := HC.out j hjm
          have T1 := flds_take HM.out hjm
          have r := HYR.out j hjm
          generalize gw h.words (a + 4 + j) = x at *
          have T2 : Hid (((flds h.words a).take (j + 1)).any youngS = (((flds h.words a).take j).any youngS || youngS x)) := (by rw [T1]; simp : ((flds h.words a).take (j + 1)).any youngS = (((flds h.words a).take j).any youngS || youngS x))
          clear T1
          generalize ((flds h.words a).take j).any youngS = y at *
          cases y
          · go_wp2_with (go_at_call 38; refine (l5Young_any _ _ r).mono ?_; rintro e w' ⟨rfl, rfl⟩)
            exact ⟨⟨j + 1, by omega, by go_num, by rw [T2.out]; rfl, trivial⟩, by simp [intOf]; omega⟩
          · go_wp2
            exact ⟨⟨j + 1, by omega, by go_num, by rw [T2.out]; rfl, trivial⟩, by simp [intOf]; omega⟩
        · obtain rfl : j = m := by omega
          have TA := flds_all HM.out
          rw [TA]
          have KS := keptS_snoc h.words (l.take k) a
          rw [← HTS.out] at KS
          have HH : hasYS h.words a = (flds h.words a).any youngS := rfl
          rw [← HH]
          clear TA HH
          generalize hasYS h.words a = y at *
          have hg2 : ∀ (W : World), (W.alloc (.cells #[.int .i64 a] 2)).cell? ⟨W.heap.size, 0, none⟩ = some (.int .i64 (a : Int)) := fun W => by simp
          by_cases h2 : a < 2000
          · have h2i : (a : Int) < 2000 := by omega
            cases y
            · rw [decide_eq_true h2] at KS
              have KS' : Hid (keptS h.words (l.take (k + 1)) = keptS h.words (l.take k)) := KS
              clear KS
              go_wp2
              exact ⟨⟨k + 1, ov, by omega, by go_num, rfl, by rw [KS'.out]; exact hown, bx, hsz, hb⟩, by simp [intOf]; omega⟩
            · rw [decide_eq_true h2] at KS
              have KS' : Hid (keptS h.words (l.take (k + 1)) = keptS h.words (l.take k) ++ [a]) := KS
              have hlk : (keptS h.words (l.take k)).length ≤ 3200 := by
                have := List.length_filter_le (fun a => decide (a < 2000) && hasYS h.words a) (l.take k)
                rw [List.length_take] at this
                unfold keptS
                omega
              clear KS
              generalize keptS h.words (l.take k) = ks at *
              have hown2 := own_later hown (bel_one wr (.cells #[.int .i64 a] 2))
              have hb2 := bel_after hb (bel_one wr (.cells #[.int .i64 a] 2))
              have bx2 := cell_later (bel_one wr (.cells #[.int .i64 a] 2)) bx
              go_wp2_with (at_builtin; refine app_int _ rfl _ _ rfl _ _ ks.length (icells (ints ks)) rfl hown2 _ 1 a rfl (hg2 _) (by omega) (Nat.le_trans hsz (by simp)) ?_; intro v4 w4 hown4 hg4'; have hg4 : (wr.alloc (.cells #[.int .i64 a] 2)).grownBy w4 ov.ownBlock := hg4'; have hb4 := Below.grown hb2 hg4 (Nat.le_trans hb.size (by simp)) (fun b e => by have := own_low hown2 e; omega); have bx4 := hg4.cell bx2 (fun e => by have q : w.heap.size + 1 ≤ w.heap.size := own_low hown2 e.symm; omega); have hs4 := hg4.size)
              exact ⟨⟨k + 1, v4, by omega, by go_num, rfl, by rw [KS'.out]; simpa [icells, ints] using hown4, bx4, Nat.le_trans hsz (Nat.le_trans (by simp) hs4), hb4⟩, by simp [intOf]; omega⟩
          · have h2i : ¬ (a : Int) < 2000 := by omega
            rw [decide_eq_false h2] at KS
            have KS' : Hid (keptS h.words (l.take (k + 1)) = keptS h.words (l.take k)) := KS
            clear KS
            go_wp2
            exact ⟨⟨k + 1, ov, by omega, by go_num, rfl, by rw [KS'.out]; exact hown, bx, hsz, hb⟩, by simp [intOf]; omega⟩
    · obtain rfl : k = l.length := by omega
      rw [List.take_length] at hown
      go_wp2
      exact bodyPost_ret (v := ov) (by simp [results, Try.results22, go_sem]) rfl ⟨⟨ov, rfl, IR_of_owns' hown⟩, hb⟩

end Go.Proofs.Ytphkmgalgngjiaa

/- HeapOk of the model. -/
namespace Go.Proofs.Ytphkmgalgngjiaa
open Go.RowKit

theorem Try.infoBo : (Try.prog.info? 4).map (fun i => (i.zero, i.size, i.bytes)) = some (some (.bool false), 1, 1) := by kernel_rfl
theorem makeB (w : World) : (Instr.makeSlice 42 (.int .i64 3200) (.int .i64 3200)).run Try.prog w = .ok (.slice (some ⟨w.heap.size, 0, none⟩) 3200 3200) (w.alloc (.cells (madeCells #[.bool false] 3200) 4)) :=
  run_make_row' (P := Try.prog) 42 4 (.bool false) 1 Try.underlying42 Try.infoBo rfl .i64 .i64 3200 (by decide) (by decide) w
theorem made_bools (w : World) : (w.alloc (.cells (madeCells #[.bool false] 3200) 4)).rowIs w.heap.size 4 3200 (fun _ => .bool false) := World.rowIs_made w _ 3200 4

def OkOut (h : Hp) (x : Ending) : Prop := ∃ ok : Bool, x = .returned (.bool ok) ∧ (ok = true ↔ ∃ l, RightAt h l)
theorem ok_no {h : Hp} (k : ∀ l, ¬ RightAt h l) : OkOut h (.returned (.bool false)) := ⟨false, rfl, by simp; exact k⟩
theorem ok_yes {h : Hp} {l : List Nat} (k : RightAt h l) : OkOut h (.returned (.bool true)) := ⟨true, rfl, by simp; exact ⟨l, k⟩⟩

theorem IL {w : World} {g n cp k : Nat} {l : List Nat} (h : IR w (.slice (some ⟨g, 0, none⟩) n cp) (ints l)) (hk : k < l.length) : w.cell? ⟨g, k, none⟩ = some (.int .i64 ((l.getD k 0 : Nat) : Int)) := by
  obtain ⟨ao, cap, e, _, hc⟩ := h
  obtain ⟨b, o, e2, hcell⟩ := hc k (by rw [ints_length]; exact hk)
  simp only [Value.slice.injEq] at e
  rw [← e.1] at e2
  simp only [Option.some.injEq, Addr.mk.injEq] at e2
  obtain ⟨rfl, rfl, _⟩ := e2
  rw [ints_get l k hk, Nat.zero_add] at hcell
  exact hcell
theorem row_start {w : World} {S k : Nat} {l : List Nat} (h : w.rowIs S 4 3200 (fun i => .bool (decide (i ∈ l.take k)))) (hk : k < l.length) :
    (w.setCell ⟨S, l.getD k 0, none⟩ (.bool true)).rowIs S 4 3200 (fun i => .bool (decide (i ∈ l.take (k + 1)))) := by
  refine (h.set _ _).congr fun i _ => ?_
  rw [take_snoc' l k 0 hk]
  by_cases e : i = l.getD k 0
  · rw [if_pos e]
    simp [e]
  · rw [if_neg e]
    simp only [List.mem_append, List.mem_singleton, e, or_false]
theorem keep8 {W a b : World} {N : Nat} {u0 u1 u2 u3 u4 u5 u6 u7 : Value} (k : Below a.heap.size a b) (h : Below W.heap.size W a ∧ a.cell? ⟨N, 0, none⟩ = some u0 ∧ a.cell? ⟨N, 1, none⟩ = some u1 ∧ a.cell? ⟨N, 2, none⟩ = some u2 ∧ a.cell? ⟨N, 3, none⟩ = some u3 ∧ a.cell? ⟨N, 4, none⟩ = some u4 ∧ a.cell? ⟨N, 5, none⟩ = some u5 ∧ a.cell? ⟨N, 6, none⟩ = some u6 ∧ a.cell? ⟨N, 7, none⟩ = some u7) :
    Below W.heap.size W b ∧ b.cell? ⟨N, 0, none⟩ = some u0 ∧ b.cell? ⟨N, 1, none⟩ = some u1 ∧ b.cell? ⟨N, 2, none⟩ = some u2 ∧ b.cell? ⟨N, 3, none⟩ = some u3 ∧ b.cell? ⟨N, 4, none⟩ = some u4 ∧ b.cell? ⟨N, 5, none⟩ = some u5 ∧ b.cell? ⟨N, 6, none⟩ = some u6 ∧ b.cell? ⟨N, 7, none⟩ = some u7 :=
  ⟨bel_after h.1 k, cell_later k h.2.1, cell_later k h.2.2.1, cell_later k h.2.2.2.1, cell_later k h.2.2.2.2.1, cell_later k h.2.2.2.2.2.1, cell_later k h.2.2.2.2.2.2.1, cell_later k h.2.2.2.2.2.2.2.1, cell_later k h.2.2.2.2.2.2.2.2⟩
/-- The first k objects are right. -/
def ObjsOk (h : Hp) (l : List Nat) (k : Nat) : Prop := ∀ j, j < k → (1 ≤ gw h.words (l.getD j 0 + 2) ∧ gw h.words (l.getD j 0 + 2) < h.hash) ∧ (∀ i, i < j → gw h.words (l.getD i 0 + 2) ≠ gw h.words (l.getD j 0 + 2)) ∧ fieldsFit h.words l (l.getD j 0)
theorem objs_of {h : Hp} {l m : List Nat} (hp : PartsAt h l) (k : RightAt h m) : ObjsOk h l l.length := by
  obtain rfl := hp.eq k.1
  obtain ⟨_, _, _, h4, ⟨h5, h6⟩, _, _, h7, _⟩ := k
  intro j hj
  have hm := get_mem l j hj
  refine ⟨⟨h4 _ hm, h5 _ hm⟩, fun i hi e => ?_, h7 _ hm⟩
  unfold hashesOf at h6
  rw [List.nodup_iff_pairwise_ne, List.pairwise_map, List.pairwise_iff_getElem] at h6
  exact h6 i j (by omega) hj hi (by simpa [hj, show i < l.length by omega] using e)
theorem right_of {h : Hp} {l : List Nat} (hp : PartsAt h l) (hz : noughts h) (hh : 1 ≤ h.hash ∧ h.hash ≤ 1000000000) (ho : ObjsOk h l l.length) (hr : h.roots.length ≤ 20) (hf : ∀ j, j < h.roots.length → fitB l (h.roots.getD j 0) = true) (hk : keptOf h.words l = h.kept) : RightAt h l := by
  have at_ : ∀ a, a ∈ l → ∃ j, j < l.length ∧ l.getD j 0 = a := fun a ha => by
    obtain ⟨j, hj, e⟩ := List.getElem_of_mem ha
    exact ⟨j, hj, by simp [hj, e]⟩
  refine ⟨hp, hz, hh, fun a ha => ?_, ⟨fun a ha => ?_, ?_⟩, hr, fun x hx => ?_, fun a ha => ?_, hk⟩
  · obtain ⟨j, hj, rfl⟩ := at_ a ha; exact (ho j hj).1.1
  · obtain ⟨j, hj, rfl⟩ := at_ a ha; exact (ho j hj).1.2
  · unfold hashesOf
    rw [List.nodup_iff_pairwise_ne, List.pairwise_map, List.pairwise_iff_getElem]
    intro i j hi hj hij
    have := (ho j hj).2.1 i hij
    simpa [hj, hi] using this
  · obtain ⟨j, hj, e⟩ := List.getElem_of_mem hx
    have := hf j hj
    simpa [hj, e] using this
  · obtain ⟨j, hj, rfl⟩ := at_ a ha; exact (ho j hj).2.2

set_option maxRecDepth 100000 in
set_option maxHeartbeats 6400000 in
theorem specHeapOk_any (v : Value) (h : Hp) (w : World) (hv : HR w v h) (hro : h.roots.length ≤ 1000000000000) (hke : h.kept.length ≤ 1000000000000) :
    Calls Try.prog 8 #[v] w fun x w' => OkOut h x ∧ Below w.heap.size w w' := by
  have C := fun hv' => l5Parts_any v h (w.alloc (.cells (v.cells) 26)) hv'
  obtain ⟨v1, v2, v3, rfl, i1, i2, i3⟩ := id hv
  have hb0 := bel_one w (.cells #[v1, v2, .int .i64 h.old, .int .i64 h.eden, .int .i64 h.surv, .bool h.flip, .int .i64 h.hash, v3] 26)
  have X0 := Bx.new w v1 v2 v3 h 26
  have hmk := makeB
  have C1 := C (hv.later hb0)
  have hv0 := hv.later hb0
  clear C hv
  go_enter Try.func8, Try.ntmps8
  go_wp2_with fail
  refine C1.mono ?_
  rintro x w1 ⟨⟨l, g, cp, ok, hl, rfl, ho, y, n⟩, hb1⟩
  have hbw := bel_after hb0 hb1
  have X1 := X0.later hb1
  have hv1 := hv0.later hb1
  have j1 := i1.later hbw
  have j2 := i2.later hbw
  have j3 := i3.later hbw
  have hlv := IR_of_owns' ho
  clear C1 X0 hv0 i1 i2 i3 hb0 hb1 ho
  cases ok with
  | false =>
    have G := ok_no (h := h) (fun m k => n rfl m k.1)
    clear y n X1 j1 j2 j3 hlv
    go_wp2
    go_ret
    exact ⟨G, hbw⟩
  | true =>
    have P := y rfl
    have HP : Hid (PartsAt h l) := P
    have hlen := P.1
    have hsb : survB h.flip ≤ 2900 := by unfold survB; split <;> omega
    clear y n P
    obtain ⟨c0, c1, c2, c3, c4, c5, c6, c7⟩ := id X1
    by_cases hh : 1 ≤ h.hash ∧ h.hash ≤ 1000000000
    · have D := decide_eq_true hh
      obtain ⟨ro, rc, rfl, rcap, hrc⟩ := id j2
      by_cases hr : h.roots.length ≤ 20
      · have hri : ¬ (20 : Int) < (h.roots.length : Int) := by omega
        obtain ⟨b, o, cap, rfl, _, hW⟩ := j1.ws (by omega)
        have HLN : Hid (h.words.length = 3200) := hlen
        rw [hlen] at c0 X1 hv1
        have HIR : Hid (IR w1 (.slice ro h.roots.length rc) h.roots) := j2
        have HIL : Hid (IR w1 (.slice (some ⟨g, 0, none⟩) l.length cp) (ints l)) := hlv
        have HHV : Hid (HR w1 (.agg #[.slice (some ⟨b, o, none⟩) 3200 cap, .slice ro h.roots.length rc, .int .i64 h.old, .int .i64 h.eden, .int .i64 h.surv, .bool h.flip, .int .i64 h.hash, v3]) h) := hv1
        have HK : Hid (IR w1 v3 h.kept) := j3
        have HWS : Hid (WS w1 b o h.words) := hW
        have HX : Hid (Bx w1 w.heap.size (.slice (some ⟨b, o, none⟩) 3200 cap) (.slice ro h.roots.length rc) v3 h) := X1
        clear hW hlen hlv hrc hv1 j1 j2 j3 X1
        go_wp2_with (first | (go_at_call 18; refine (wl1In_any _ _ _ _).mono ?_; rintro x wq ⟨rfl, hq⟩; obtain rfl := hq.symm; rw [D]) | (go_at_call 19; refine (l5Surv_any _ _).mono ?_; rintro x wq ⟨rfl, hq⟩; obtain rfl := hq.symm))
        go_loopw [6] (fun iv wr => ∃ i : Nat, i ≤ 3200 ∧ iv = .int .i64 i ∧ Hid (∀ j, j < i → ¬ inUse h j → gw h.words j = 0) ∧ wr = w1) (fun iv _ => 3200 - (intOf iv).toNat)
        case atStart => exact ⟨0, by omega, rfl, fun j hj => by omega, rfl⟩
        case round =>
          obtain ⟨i, hi, rfl, hz, hwr⟩ := hrel
          obtain rfl := hwr.symm
          clear hwr
          by_cases hi2 : i < 3200
          · have hii : (i : Int) < 3200 := by omega
            have ci := HWS.out i (by rw [HLN.out]; exact hi2)
            have NOZ : Hid (¬ inUse h i → ¬ gw h.words i = 0 → OkOut h (.returned (.bool false))) := fun a c => ok_no (fun m k => c (k.2.1 i hi2 a))
            have NXT : Hid ((¬ inUse h i → gw h.words i = 0) → ∀ j, j < i + 1 → ¬ inUse h j → gw h.words j = 0) := fun a => all_upto hz.out a
            have IU : Hid (inUse h i ↔ ((i : Int) < h.old ∨ (2000 ≤ i ∧ (i : Int) < h.eden) ∨ (survB h.flip ≤ i ∧ (i : Int) < h.surv))) := Iff.rfl
            generalize gw h.words i = x at *
            clear hz
            by_cases q1 : (i : Int) < h.old
            · have N := NXT.out (fun u => absurd (IU.out.2 (.inl q1)) u)
              clear NXT NOZ IU
              go_wp2
              exact ⟨⟨i + 1, by omega, by go_num, N, trivial⟩, by simp [intOf]; omega⟩
            · by_cases q2 : (2000 : Int) ≤ i ∧ (i : Int) < h.eden
              · obtain ⟨q2, q3⟩ := q2
                have N := NXT.out (fun u => absurd (IU.out.2 (.inr (.inl ⟨by omega, q3⟩))) u)
                clear NXT NOZ IU
                go_wp2
                exact ⟨⟨i + 1, by omega, by go_num, N, trivial⟩, by simp [intOf]; omega⟩
              · by_cases q3 : (2000 : Int) ≤ i
                · have q3' : ¬ (i : Int) < h.eden := fun e => q2 ⟨q3, e⟩
                  clear q2
                  by_cases q4 : (survB h.flip : Int) ≤ i
                  · by_cases q5 : (i : Int) < h.surv
                    · have N := NXT.out (fun u => absurd (IU.out.2 (.inr (.inr ⟨by omega, q5⟩))) u)
                      clear NXT NOZ IU
                      go_wp2
                      exact ⟨⟨i + 1, by omega, by go_num, N, trivial⟩, by simp [intOf]; omega⟩
                    · have NI : ¬ inUse h i := fun u => by have := IU.out.1 u; omega
                      by_cases hx : x = 0
                      · subst hx
                        have N := NXT.out (fun _ => rfl)
                        clear NXT NOZ IU NI
                        go_wp2
                        exact ⟨⟨i + 1, by omega, by go_num, N, trivial⟩, by simp [intOf]; omega⟩
                      · have hx' : (x != 0) = true := by simpa using hx
                        have G := NOZ.out NI hx
                        clear NXT NOZ IU NI
                        go_wp2
                        go_ret
                        exact ⟨G, hbw⟩
                  · have NI : ¬ inUse h i := fun u => by have := IU.out.1 u; omega
                    by_cases hx : x = 0
                    · subst hx
                      have N := NXT.out (fun _ => rfl)
                      clear NXT NOZ IU NI
                      go_wp2
                      exact ⟨⟨i + 1, by omega, by go_num, N, trivial⟩, by simp [intOf]; omega⟩
                    · have hx' : (x != 0) = true := by simpa using hx
                      have G := NOZ.out NI hx
                      clear NXT NOZ IU NI
                      go_wp2
                      go_ret
                      exact ⟨G, hbw⟩
                · clear q2
                  by_cases q4 : (survB h.flip : Int) ≤ i
                  · by_cases q5 : (i : Int) < h.surv
                    · have N := NXT.out (fun u => absurd (IU.out.2 (.inr (.inr ⟨by omega, q5⟩))) u)
                      clear NXT NOZ IU
                      go_wp2
                      exact ⟨⟨i + 1, by omega, by go_num, N, trivial⟩, by simp [intOf]; omega⟩
                    · have NI : ¬ inUse h i := fun u => by have := IU.out.1 u; omega
                      by_cases hx : x = 0
                      · subst hx
                        have N := NXT.out (fun _ => rfl)
                        clear NXT NOZ IU NI
                        go_wp2
                        exact ⟨⟨i + 1, by omega, by go_num, N, trivial⟩, by simp [intOf]; omega⟩
                      · have hx' : (x != 0) = true := by simpa using hx
                        have G := NOZ.out NI hx
                        clear NXT NOZ IU NI
                        go_wp2
                        go_ret
                        exact ⟨G, hbw⟩
                  · have NI : ¬ inUse h i := fun u => by have := IU.out.1 u; omega
                    by_cases hx : x = 0
                    · subst hx
                      have N := NXT.out (fun _ => rfl)
                      clear NXT NOZ IU NI
                      go_wp2
                      exact ⟨⟨i + 1, by omega, by go_num, N, trivial⟩, by simp [intOf]; omega⟩
                    · have hx' : (x != 0) = true := by simpa using hx
                      have G := NOZ.out NI hx
                      clear NXT NOZ IU NI
                      go_wp2
                      go_ret
                      exact ⟨G, hbw⟩
          · have HZ : Hid (noughts h) := (fun j hj => hz.out j (by omega) : noughts h)
            have hii : ¬ (i : Int) < 3200 := by omega
            clear hz
            go_wp2_with fail
            go_loopw [9] (fun kv wr => ∃ k : Nat, k ≤ l.length ∧ kv = .int .i64 k ∧ wr.rowIs w1.heap.size 4 3200 (fun i => .bool (decide (i ∈ l.take k))) ∧ Below w1.heap.size w1 wr) (fun kv _ => l.length - (intOf kv).toNat)
            case atStart => exact ⟨0, Nat.zero_le _, rfl, (made_bools w1).congr (fun i _ => by simp), bel_one _ _⟩
            case round =>
              obtain ⟨k, hk, rfl, hrow, hb2⟩ := hrel
              by_cases hlt : k < l.length
              · have ca := cell_later hb2 (IL HIL.out hlt)
                have ho := (PartsAt.obj HP.out (get_mem l k hlt)).1
                have R := row_start hrow hlt
                have G := hb2.setCell (p := ⟨w1.heap.size, l.getD k 0, none⟩) (Nat.le_refl _) (.bool true)
                have hcs := hrow.cell (i := l.getD k 0) (by omega)
                have hfz := hrow.frozen (l.getD k 0)
                generalize l.getD k 0 = a at *
                have hai : (a : Int) < 3200 := by omega
                clear hrow hb2
                go_wp2
                exact ⟨⟨k + 1, by omega, by go_num, R, G⟩, by simp [intOf]; omega⟩
              · obtain rfl : k = l.length := by omega
                rw [List.take_length] at hrow
                obtain ⟨w3, hw3⟩ : ∃ w3, w3 = wr := ⟨wr, rfl⟩
                obtain rfl := hw3
                have hbw3 := bel_after hbw hb2
                have ST : Hid (∀ i, i < 3200 → w3.cell? ⟨w1.heap.size, i, none⟩ = some (.bool (decide (i ∈ l)))) := fun i hi => hrow.cell hi
                have X3 := HX.out.later hb2
                obtain ⟨d0, d1, d2, d3, d4, d5, d6, d7⟩ := id X3
                have L3 : Hid (∀ k, k < l.length → w3.cell? ⟨g, k, none⟩ = some (.int .i64 ((l.getD k 0 : Nat) : Int))) := fun k hk => cell_later hb2 (IL HIL.out hk)
                have W3 : Hid (WS w3 b o h.words) := HWS.out.later hb2
                have OB : Hid (∀ a, a ∈ l → a + 4 ≤ 3200 ∧ nx h.words a ≤ 3200 ∧ headB h.words a = true) := fun a ha => PartsAt.obj HP.out ha
                have NOB : Hid (¬ ObjsOk h l l.length → OkOut h (.returned (.bool false))) := fun a => ok_no (fun m k => a (objs_of HP.out k))
                have R3 : Hid (IR w3 (.slice ro h.roots.length rc) h.roots) := HIR.out.later hb2
                have K3 : Hid (IR w3 v3 h.kept) := HK.out.later hb2
                have V3 : Hid (HR w3 (.agg #[.slice (some ⟨b, o, none⟩) 3200 cap, .slice ro h.roots.length rc, .int .i64 h.old, .int .i64 h.eden, .int .i64 h.surv, .bool h.flip, .int .i64 h.hash, v3]) h) := HHV.out.later hb2
                have LV3 : Hid (IR w3 (.slice (some ⟨g, 0, none⟩) l.length cp) (ints l)) := HIL.out.later hb2
                clear hrow X3 HX HIL HWS HIR HK HHV c0 c1 c2 c3 c4 c5 c6 c7 hmk D hq hb2
                go_wp2_with fail
                go_loopw [10] (fun kv wr => ∃ k q : Nat, k ≤ l.length ∧ kv = .int .i64 k ∧ Hid (ObjsOk h l k) ∧ wr = w3.drewN q) (fun kv _ => l.length - (intOf kv).toNat)
                case atStart => exact ⟨0, 0, Nat.zero_le _, rfl, fun j hj => by omega, rfl⟩
                case round =>
                  obtain ⟨k, q, hk, rfl, hobj, rfl⟩ := hrel
                  by_cases hlt : k < l.length
                  · have ca := L3.out k hlt
                    obtain ⟨o1, o2, o3⟩ := OB.out _ (get_mem l k hlt)
                    have cx := W3.out (l.getD k 0 + 2) (by rw [HLN.out]; omega)
                    have BAD : Hid (¬ ((1 ≤ gw h.words (l.getD k 0 + 2) ∧ gw h.words (l.getD k 0 + 2) < h.hash) ∧ (∀ i, i < k → gw h.words (l.getD i 0 + 2) ≠ gw h.words (l.getD k 0 + 2)) ∧ fieldsFit h.words l (l.getD k 0)) → OkOut h (.returned (.bool false))) := fun a => NOB.out (fun c => a (c k hlt))
                    have GOOD : Hid (((1 ≤ gw h.words (l.getD k 0 + 2) ∧ gw h.words (l.getD k 0 + 2) < h.hash) ∧ (∀ i, i < k → gw h.words (l.getD i 0 + 2) ≠ gw h.words (l.getD k 0 + 2)) ∧ fieldsFit h.words l (l.getD k 0)) → ObjsOk h l (k + 1)) := fun a => all_upto hobj.out a
                    have c_size := W3.out (l.getD k 0) (by rw [HLN.out]; omega)
                    have hsz0 := size_of o3
                    obtain ⟨m, hme⟩ := Int.eq_ofNat_of_zero_le hsz0.1
                    rw [hme] at c_size
                    have hnx : nx h.words (l.getD k 0) = l.getD k 0 + 4 + m := by unfold nx; rw [hme]; rfl
                    have FF : Hid (fieldsFit h.words l (l.getD k 0) ↔ ∀ i, i < m → fitB l (gw h.words (l.getD k 0 + 4 + i)) = true) := by
                      unfold fieldsFit
                      rw [hnx]
                      constructor
                      · intro z i hi
                        exact z _ (by omega) (by omega)
                      · intro z i h1 h2
                        have := z (i - (l.getD k 0 + 4)) (by omega)
                        rwa [show l.getD k 0 + 4 + (i - (l.getD k 0 + 4)) = i from by omega] at this
                    have CF : Hid (∀ i, i < m → w3.cell? ⟨b, o + (l.getD k 0 + 4 + i), none⟩ = some (.int .i64 (gw h.words (l.getD k 0 + 4 + i)))) := fun i hi => W3.out _ (by rw [HLN.out]; omega)
                    have m60 : m ≤ 60 := by omega
                    rw [hnx] at o2
                    clear hme hsz0 hnx o3 hobj
                    generalize l.getD k 0 = a at *
                    generalize gw h.words (a + 2) = x at *
                    by_cases hx1 : x < 1
                    · have G := BAD.out (fun z => by omega)
                      clear BAD GOOD
                      go_wp2
                      go_ret
                      exact ⟨G, below_drewN hbw3 _⟩
                    by_cases hx2 : h.hash ≤ x
                    · have G := BAD.out (fun z => by omega)
                      clear BAD GOOD
                      go_wp2
                      go_ret
                      exact ⟨G, below_drewN hbw3 _⟩
                    go_wp2
                    go_loopw [13] (fun jv wr => ∃ j q : Nat, j ≤ k ∧ jv = .int .i64 j ∧ Hid (∀ i, i < j → gw h.words (l.getD i 0 + 2) ≠ x) ∧ wr = w3.drewN q) (fun jv _ => k - (intOf jv).toNat)
                    case atStart => exact ⟨0, _, Nat.zero_le _, rfl, fun i hi => by omega, rfl⟩
                    case round =>
                      obtain ⟨j, q, hj, rfl, hne, rfl⟩ := hrel
                      by_cases hjk : j < k
                      · have cj := L3.out j (by omega)
                        obtain ⟨p1, p2, p3⟩ := OB.out _ (get_mem l j (by omega))
                        have cy := W3.out (l.getD j 0 + 2) (by rw [HLN.out]; omega)
                        have BAD2 : Hid (gw h.words (l.getD j 0 + 2) = x → OkOut h (.returned (.bool false))) := fun e => BAD.out (fun z => z.2.1 j hjk e)
                        have NX2 : Hid (gw h.words (l.getD j 0 + 2) ≠ x → ∀ i, i < j + 1 → gw h.words (l.getD i 0 + 2) ≠ x) := fun e => all_upto hne.out e
                        clear p2 p3 BAD GOOD hne
                        generalize l.getD j 0 = a2 at *
                        generalize gw h.words (a2 + 2) = y at *
                        have hjl : j < l.length := by omega
                        by_cases hyx : y = x
                        · have G := BAD2.out hyx
                          have hyb : (y == x) = true := by simpa using hyx
                          subst hyx
                          clear BAD2 NX2
                          go_wp2
                          go_region
                          all_goals go_wp2
                          all_goals go_ret
                          all_goals exact ⟨G, below_drewN hbw3 _⟩
                        · have N := NX2.out hyx
                          have hyb : (y == x) = false := by simpa using hyx
                          clear BAD2 NX2
                          go_wp2
                          go_region
                          all_goals go_wp2
                          all_goals exact ⟨⟨j + 1, _, by omega, by go_num, N, rfl⟩, by simp [intOf]; omega⟩
                      · obtain rfl : j = k := by omega
                        have HNE : Hid (∀ i, i < j → gw h.words (l.getD i 0 + 2) ≠ x) := hne.out
                        clear hne
                        go_wp2
                        go_loopw [14] (fun iv wr => ∃ i q : Nat, i ≤ m ∧ iv = .int .i64 ((a + 4 + i : Nat) : Int) ∧ Hid (∀ i', i' < i → fitB l (gw h.words (a + 4 + i')) = true) ∧ wr = w3.drewN q) (fun iv _ => a + 4 + m - (intOf iv).toNat)
                        case atStart => exact ⟨0, _, Nat.zero_le _, by go_num, fun i hi => by omega, rfl⟩
                        case round =>
                          obtain ⟨i, q, hi, rfl, hfi, rfl⟩ := hrel
                          by_cases him : i < m
                          · have ci := CF.out i him
                            have FT := fun z W hW => l5Fits_any w1.heap.size 3200 (fun i => decide (i ∈ l)) z W hW
                            simp only [fit_eq] at FT
                            have BAD3 : Hid (fitB l (gw h.words (a + 4 + i)) = false → OkOut h (.returned (.bool false))) := fun e => BAD.out (fun z => by rw [FF.out.1 z.2.2 i him] at e; cases e)
                            have NX3 : Hid (fitB l (gw h.words (a + 4 + i)) = true → ∀ i', i' < i + 1 → fitB l (gw h.words (a + 4 + i')) = true) := fun e => all_upto hfi.out e
                            have SC : Hid (∀ i, i < 3200 → (w3.drewN q).cell? ⟨w1.heap.size, i, none⟩ = some (.bool (decide (i ∈ l)))) := ST.out
                            clear hfi
                            generalize gw h.words (a + 4 + i) = y at *
                            cases hfy : fitB l y
                            · have G := BAD3.out hfy
                              clear BAD3 NX3 BAD GOOD
                              go_wp2_with (go_at_call 20; refine (FT _ _ SC.out).mono ?_; rintro e wq ⟨rfl, rfl⟩; rw [hfy])
                              go_ret
                              exact ⟨G, below_drewN hbw3 _⟩
                            · have N := NX3.out hfy
                              clear BAD3 NX3 BAD GOOD
                              go_wp2_with (go_at_call 20; refine (FT _ _ SC.out).mono ?_; rintro e wq ⟨rfl, rfl⟩; rw [hfy])
                              exact ⟨⟨i + 1, _, by omega, by go_num, N, rfl⟩, by simp [intOf]; omega⟩
                          · obtain rfl : i = m := by omega
                            have N := GOOD.out ⟨by omega, HNE.out, FF.out.2 hfi.out⟩
                            clear BAD GOOD hfi
                            go_wp2
                            go_roundw
                            case rel => exact ⟨j + 1, _, by omega, by go_num, N, rfl⟩
                            case measure => simp [intOf]; omega
                  · obtain rfl : k = l.length := by omega
                    have HOB : Hid (ObjsOk h l l.length) := hobj.out
                    clear hobj
                    go_wp2
                    go_loopw [15] (fun kv wr => ∃ k q : Nat, k ≤ h.roots.length ∧ kv = .int .i64 k ∧ Hid (∀ j, j < k → fitB l (h.roots.getD j 0) = true) ∧ wr = w3.drewN q) (fun kv _ => h.roots.length - (intOf kv).toNat)
                    case atStart => exact ⟨0, _, Nat.zero_le _, rfl, fun i hi => by omega, rfl⟩
                    case round =>
                      obtain ⟨k, q, hk, rfl, hfk, rfl⟩ := hrel
                      by_cases hkr : k < h.roots.length
                      · obtain ⟨r1, r2, re, _, rcell⟩ := id R3.out
                        obtain ⟨b9, o9, e9, hc9⟩ := rcell k hkr
                        simp only [Value.slice.injEq] at re
                        obtain ⟨re1, -, -⟩ := re
                        rw [e9] at re1
                        subst re1
                        have FT := fun z W hW => l5Fits_any w1.heap.size 3200 (fun i => decide (i ∈ l)) z W hW
                        simp only [fit_eq] at FT
                        have SC : Hid (∀ i, i < 3200 → (w3.drewN q).cell? ⟨w1.heap.size, i, none⟩ = some (.bool (decide (i ∈ l)))) := ST.out
                        have BAD3 : Hid (fitB l (h.roots.getD k 0) = false → OkOut h (.returned (.bool false))) := fun e => ok_no (fun m z => by
                          have zz := z.2.2.2.2.2.2.1 (h.roots.getD k 0) (by simp [hkr])
                          rw [← HP.out.eq z.1, e] at zz
                          cases zz)
                        have NX3 : Hid (fitB l (h.roots.getD k 0) = true → ∀ j, j < k + 1 → fitB l (h.roots.getD j 0) = true) := fun e => all_upto hfk.out e
                        generalize h.roots.getD k 0 = y at *
                        clear hfk rcell e9
                        cases hfy : fitB l y
                        · have G := BAD3.out hfy
                          clear BAD3 NX3
                          go_wp2_with (go_at_call 20; refine (FT _ _ SC.out).mono ?_; rintro e wq ⟨rfl, rfl⟩; rw [hfy])
                          go_ret
                          exact ⟨G, below_drewN hbw3 _⟩
                        · have N := NX3.out hfy
                          clear BAD3 NX3
                          go_wp2_with (go_at_call 20; refine (FT _ _ SC.out).mono ?_; rintro e wq ⟨rfl, rfl⟩; rw [hfy])
                          exact ⟨⟨k + 1, _, by omega, by go_num, N, rfl⟩, by simp [intOf]; omega⟩
                      · obtain rfl : k = h.roots.length := by omega
                        have HF : Hid (∀ j, j < h.roots.length → fitB l (h.roots.getD j 0) = true) := hfk.out
                        have FFl : ∀ a, a ∈ l → fieldsFit h.words l a := fun a ha => by
                          obtain ⟨j, hj, e⟩ := List.getElem_of_mem ha
                          have := (HOB.out j hj).2.2
                          simpa [hj, e] using this
                        have YR : ∀ a, a ∈ l → ∀ x, x ∈ flds h.words a → -4611686018427387904 ≤ x.tdiv 2 ∧ x.tdiv 2 ≤ 4611686018427387904 := fun a ha x hx => half_le (fit_kind ((fld_mem (W := h.words) (a := a) (p := fitB l)).2 (FFl a ha) x hx))
                        have KE := kept_eq FFl
                        have DONE : Hid (∀ ok : Bool, ok = decide (ints (keptS h.words l) = h.kept) → OkOut h (.returned (.bool ok))) := fun ok e => by
                          rw [KE] at e
                          by_cases kk : keptOf h.words l = h.kept
                          · rw [decide_eq_true kk] at e
                            subst e
                            exact ok_yes (right_of HP.out HZ.out hh HOB.out hr HF.out kk)
                          · rw [decide_eq_false kk] at e
                            subst e
                            exact ok_no (fun m z => kk (by have := z.2.2.2.2.2.2.2.2; rw [HP.out.eq z.1]; exact this))
                        have KC : ∀ W, Below w3.heap.size w3 W → Calls Try.prog 22 #[.agg #[.slice (some ⟨b, o, none⟩) 3200 cap, .slice ro h.roots.length rc, .int .i64 h.old, .int .i64 h.eden, .int .i64 h.surv, .bool h.flip, .int .i64 h.hash, v3], .slice (some ⟨g, 0, none⟩) l.length cp] W fun x w' => (∃ v', x = .returned v' ∧ IR w' v' (ints (keptS h.words l))) ∧ Below W.heap.size W w' := fun W hb => l5Kept_any _ _ h l _ (V3.out.later hb) (LV3.out.later hb) HLN.out hl OB.out YR
                        have hkl : (ints (keptS h.words l)).length ≤ 1000000000000 := by
                          rw [ints_length]
                          have := List.length_filter_le (fun a => decide (a < 2000) && hasYS h.words a) l
                          unfold keptS
                          omega
                        have hbd := below_drewN hbw3 q
                        clear hfk KE YR FFl
                        generalize keptS h.words l = ks at *
                        obtain ⟨ka, kcap, rfl, hkc⟩ : ∃ ka kcap, v3 = .slice ka h.kept.length kcap ∧ True := by obtain ⟨ka, kcap, e, _⟩ := K3.out; exact ⟨ka, kcap, e, trivial⟩
                        go_wp2_with fail
                        go_region_held3 (fun w' => Below w3.heap.size w3 w' ∧ w'.cell? ⟨w.heap.size, 0, none⟩ = some (.slice (some ⟨b, o, none⟩) 3200 cap) ∧ w'.cell? ⟨w.heap.size, 1, none⟩ = some (.slice ro h.roots.length rc) ∧ w'.cell? ⟨w.heap.size, 2, none⟩ = some (.int .i64 h.old) ∧ w'.cell? ⟨w.heap.size, 3, none⟩ = some (.int .i64 h.eden) ∧ w'.cell? ⟨w.heap.size, 4, none⟩ = some (.int .i64 h.surv) ∧ w'.cell? ⟨w.heap.size, 5, none⟩ = some (.bool h.flip) ∧ w'.cell? ⟨w.heap.size, 6, none⟩ = some (.int .i64 h.hash) ∧ w'.cell? ⟨w.heap.size, 7, none⟩ = some (.slice ka h.kept.length kcap))
                          (first | assumption | exact ⟨(below_drewN (Below.refl _ _) q).drew, d0, d1, d2, d3, d4, d5, d6, d7⟩ | exact keep8 (by assumption) (by assumption))
                          (first
                            | (go_at_call 22; refine (KC _ (And.left (by assumption))).mono ?_; rintro x w5 ⟨⟨v5, rfl, hk5⟩, hb5⟩)
                            | (go_at_call 21; refine (l5Same_any _ _ _ h.kept _ hk5 (K3.out.later (And.left (by assumption))) (by omega) (by omega)).mono ?_; rintro x w6 ⟨rfl, hb6⟩))
                        all_goals go_wp2_with fail
                        all_goals go_ret
                        all_goals exact ⟨DONE.out _ rfl, bel_after hbw3 (bel_after (bel_after (below_drewN (Below.refl _ _) q).drew hb5) hb6)⟩
      · have hri : (20 : Int) < (h.roots.length : Int) := by omega
        have G := ok_no (h := h) (fun m k => hr k.2.2.2.2.2.1)
        go_wp2_with (first | (go_at_call 18; refine (wl1In_any _ _ _ _).mono ?_; rintro x w' ⟨rfl, rfl⟩; rw [D]) | (go_at_call 19; refine (l5Surv_any _ _).mono ?_; rintro x w' ⟨rfl, rfl⟩))
        go_ret
        exact ⟨G, hbw⟩
    · have D := decide_eq_false hh
      have G := ok_no (h := h) (fun m k => hh k.2.2.1)
      go_wp2_with (first | (go_at_call 18; refine (wl1In_any _ _ _ _).mono ?_; rintro x w' ⟨rfl, rfl⟩; rw [D]) | (go_at_call 19; refine (l5Surv_any _ _).mono ?_; rintro x w' ⟨rfl, rfl⟩))
      go_ret
      exact ⟨G, hbw⟩

end Go.Proofs.Ytphkmgalgngjiaa
