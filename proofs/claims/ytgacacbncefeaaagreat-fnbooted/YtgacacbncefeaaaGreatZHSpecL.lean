/- l5Same and l5Kept of the model. -/
import Derived.Test.YtgacacbncefeaaaGreatZHSpecK
namespace Go.Proofs.YtgacacbncefeaaaGreat
open Go.RowKit

set_option maxHeartbeats 400000 in
theorem l5Same_any (v u : Value) (ss tt : List Int) (w : World) (hv : IR w v ss) (hu : IR w u tt) (h1 : ss.length ≤ 1000000000000000) (_h2 : tt.length ≤ 1000000000000000) :
    Calls Tryz.prog 86 #[v, u] w fun e w' => e = .returned (.bool (decide (ss = tt))) ∧ Below w.heap.size w w' := by
  obtain ⟨ao, cap, rfl, _, hv⟩ := hv
  obtain ⟨bo, cbp, rfl, _, hu⟩ := hu
  by_cases hl : ss.length = tt.length
  · have hl' : ((ss.length : Int) != (tt.length : Int)) = false := by simp [hl]
    have HL : Hid (ss.length = tt.length) := hl
    go_enter Tryz.func86, Tryz.ntmps86
    go_wp2
    go_loopw [5] (fun a wr => ∃ (k : Nat), a = .int .i64 k ∧ k ≤ ss.length ∧ Hid (∀ j, j < k → ss.getD j 0 = tt.getD j 0) ∧ ∃ n, wr = w.drewN n) (fun a _ => (ss.length - (intOf a).toNat))
    case atStart => exact ⟨0, rfl, Nat.zero_le _, fun j hj => absurd hj (by omega), 0, rfl⟩
    case round =>
      obtain ⟨k, rfl, hk, hj, n, rfl⟩ := hrel
      by_cases hlt : k < ss.length
      · obtain ⟨b, o, rfl, hc⟩ := hv k hlt
        obtain ⟨b', o', rfl, hc'⟩ := hu k (by omega)
        have hlt' : k < tt.length := by omega
        generalize hs : ss.getD k 0 = s at *
        generalize ht : tt.getD k 0 = t at *
        have HS : Hid (ss.getD k 0 = s) := hs
        have HT : Hid (tt.getD k 0 = t) := ht
        clear hs ht hv hu hl
        go_wp2
        go_region
        all_goals go_wp2
        · have hne : s ≠ t := by simpa using ‹(s != t) = true›
          go_ret
          exact ⟨ret_bool (decide_eq_false (fun e => hne (by rw [← HS.out, ← HT.out, e]))).symm, below_drewN (Below.refl _ _) _⟩
        · have he : s = t := by simpa using ‹(s != t) = false›
          go_roundw
          case rel => exact ⟨k + 1, by go_num, by omega, all_upto hj.out (by rw [HS.out, HT.out, he]), _, rfl⟩
          case measure => simp [intOf]; omega
      · go_wp2
        go_ret
        exact ⟨ret_bool (decide_eq_true (ilists_eq hl (fun j hj' => hj.out j (by omega)))).symm, below_drewN (Below.refl _ _) _⟩
  · have hl' : ((ss.length : Int) != (tt.length : Int)) = true := by simp; omega
    go_enter Tryz.func86, Tryz.ntmps86
    go_wp2
    go_ret
    exact ⟨ret_bool (decide_eq_false (fun e => hl (by rw [e]))).symm, Below.refl _ _⟩

theorem flds_take {W : List Int} {a j m : Nat} (hm : (gw W a).toNat = m) (hj : j < m) : (flds W a).take (j + 1) = (flds W a).take j ++ [gw W (a + 4 + j)] := by
  have hl : j < (flds W a).length := by simp [flds]; omega
  rw [List.take_add_one, List.getElem?_eq_getElem hl]
  simp [flds]
theorem flds_all {W : List Int} {a m : Nat} (hm : (gw W a).toNat = m) : (flds W a).take m = flds W a := by
  apply List.take_of_length_le
  simp [flds]
  omega
theorem keptS_snoc (W : List Int) (l : List Nat) (a : Nat) : keptS W (l ++ [a]) = if (decide (a < 2000) && hasYS W a) = true then keptS W l ++ [a] else keptS W l := by
  unfold keptS
  rw [List.filter_append]
  by_cases h : (decide (a < 2000) && hasYS W a) = true
  · rw [if_pos h]; congr 1; simp only [List.filter_cons, h, if_true, List.filter_nil]
  · rw [if_neg h]; simp only [List.filter_cons, h, if_false, List.filter_nil, Bool.false_eq_true, List.append_nil]
theorem take_snoc' {α : Type} [Inhabited α] (l : List α) (k : Nat) (d : α) (h : k < l.length) : l.take (k + 1) = l.take k ++ [l.getD k d] := by
  rw [List.take_add_one, List.getElem?_eq_getElem h]
  simp [h]
theorem ints_get (l : List Nat) (k : Nat) (h : k < l.length) : (ints l).getD k 0 = ((l.getD k 0 : Nat) : Int) := by
  simp [ints, h]
theorem get_mem (l : List Nat) (k : Nat) (h : k < l.length) : l.getD k 0 ∈ l := by
  simp [h]

theorem own_low {w : World} {B e size n b : Nat} {v : Value} {xs : List Value} (h : w.ownsRow B e size v n xs) (hk : v.ownBlock = some b) : B ≤ b := by
  rcases h.2 with ⟨rfl, _⟩ | ⟨g, cap, cur, rfl, hg, _⟩
  · cases hk
  · cases hk; exact hg

set_option maxRecDepth 100000 in
set_option maxHeartbeats 3200000 in
theorem l5Kept_any (v lv : Value) (h : Hp) (l : List Nat) (w : World) (hv : HR w v h) (hlv : IR w lv (ints l)) (hlen : h.words.length = 3200) (hl : l.length ≤ 3200)
    (hobj : ∀ a, a ∈ l → a + 4 ≤ 3200 ∧ nx h.words a ≤ 3200 ∧ headB h.words a = true) (hy : ∀ a, a ∈ l → ∀ x, x ∈ flds h.words a → -4611686018427387904 ≤ x.tdiv 2 ∧ x.tdiv 2 ≤ 4611686018427387904) :
    Calls Tryz.prog 87 #[v, lv] w fun x w' => (∃ v', x = .returned v' ∧ IR w' v' (ints (keptS h.words l))) ∧ Below w.heap.size w w' := by
  obtain ⟨v1, v2, v3, rfl, i1, i2, i3⟩ := hv
  obtain ⟨b, o, cap, rfl, _, hW⟩ := i1.ws (by omega)
  rw [hlen]
  have HLN : Hid (h.words.length = 3200) := hlen
  obtain ⟨ao, lcap, rfl, _, hc⟩ := hlv
  rw [ints_length] at hc ⊢
  have X0 := Bx.new w (.slice (some ⟨b, o, none⟩) 3200 cap) v2 v3 h 28
  have hb0 := bel_one w (.cells #[.slice (some ⟨b, o, none⟩) 3200 cap, v2, .int .i64 h.old, .int .i64 h.eden, .int .i64 h.surv, .bool h.flip, .int .i64 h.hash, v3] 28)
  have hb1 := bel_after hb0 (bel_one _ (.cells #[] 2))
  have ho0 : ((w.alloc (.cells #[.slice (some ⟨b, o, none⟩) 3200 cap, v2, .int .i64 h.old, .int .i64 h.eden, .int .i64 h.surv, .bool h.flip, .int .i64 h.hash, v3] 28)).alloc (.cells #[] 2)).ownsRow (w.heap.size + 1) 2 1 (.slice (some ⟨w.heap.size + 1, 0, none⟩) 0 0) 0 [] := by
    have q := own_none (w.alloc (.cells #[.slice (some ⟨b, o, none⟩) 3200 cap, v2, .int .i64 h.old, .int .i64 h.eden, .int .i64 h.surv, .bool h.flip, .int .i64 h.hash, v3] 28)) (w.heap.size + 1) 2 1 (by simp)
    rwa [World.size_alloc] at q
  have bx0 := X0.later (bel_one _ (.cells #[] 2))
  have BX : Hid (((w.alloc (.cells #[.slice (some ⟨b, o, none⟩) 3200 cap, v2, .int .i64 h.old, .int .i64 h.eden, .int .i64 h.surv, .bool h.flip, .int .i64 h.hash, v3] 28)).alloc (.cells #[] 2)).cell? ⟨w.heap.size, 0, none⟩ = some (.slice (some ⟨b, o, none⟩) 3200 cap)) := bx0.c0
  clear X0 bx0 i1 i2 i3 hlen hb0
  have hW0 := hW.later hb1
  go_enter Tryz.func87, Tryz.ntmps87
  go_wp2
  go_loopw [5, 6] (fun ov iv wr => ∃ (k : Nat) (v0 : Value), k ≤ l.length ∧ iv = .int .i64 k ∧ v0 = ov ∧ wr.ownsRow (w.heap.size + 1) 2 1 v0 (keptS h.words (l.take k)).length (icells (ints (keptS h.words (l.take k)))) ∧ wr.cell? ⟨w.heap.size, 0, none⟩ = some (.slice (some ⟨b, o, none⟩) 3200 cap) ∧ w.heap.size + 1 ≤ wr.heap.size ∧ Below w.heap.size w wr) (fun _ iv _ => l.length - (intOf iv).toNat)
  case atStart => exact ⟨0, _, Nat.zero_le _, rfl, rfl, ho0, BX.out, by simp, hb1⟩
  case round =>
    obtain ⟨k, ov, hk, rfl, rfl, hown, bx, hsz, hb⟩ := hrel
    by_cases hlt : k < l.length
    · obtain ⟨b', o', e', hci⟩ := hc k hlt
      subst e'
      rw [ints_get l k hlt] at hci
      have hm := get_mem l k hlt
      have TS := take_snoc' l k 0 hlt
      generalize l.getD k 0 = a at *
      obtain ⟨q1, q2, q3⟩ := hobj a hm
      have hya := hy a hm
      have hsz0 := size_of q3
      obtain ⟨m, hme⟩ := Int.eq_ofNat_of_zero_le hsz0.1
      have hmN : (gw h.words a).toNat = m := by rw [hme]; rfl
      have hnx : nx h.words a = a + 4 + m := by unfold nx; rw [hmN]
      rw [hnx] at q2
      have ca := (hW.later hb) a (by rw [HLN.out]; omega)
      rw [hme] at ca
      have hcl := cell_later hb hci
      have HC : Hid (∀ j, j < m → wr.cell? ⟨b, o + (a + 4 + j), none⟩ = some (.int .i64 (gw h.words (a + 4 + j)))) := fun j hj => (hW.later hb) _ (by rw [HLN.out]; omega)
      have HM : Hid ((gw h.words a).toNat = m) := hmN
      have HYR : Hid (∀ j, j < m → -4611686018427387904 ≤ (gw h.words (a + 4 + j)).tdiv 2 ∧ (gw h.words (a + 4 + j)).tdiv 2 ≤ 4611686018427387904) := fun j hj => hya _ (List.mem_map.2 ⟨j, by rw [List.mem_range]; omega, rfl⟩)
      have HTS : Hid (l.take (k + 1) = l.take k ++ [a]) := TS
      have mle : m ≤ 60 := by omega
      clear hci TS hme hmN hnx hya hW hW0 hsz0 q3 hobj hy hc hm
      go_wp2
      go_loopw [8, 9] (fun yv kv wr2 => ∃ (j : Nat), j ≤ m ∧ kv = .int .i64 ((a + 4 + j : Nat) : Int) ∧ yv = .bool (((flds h.words a).take j).any youngS) ∧ wr2 = wr) (fun _ kv _ => a + 4 + m - (intOf kv).toNat)
      case atStart => exact ⟨0, Nat.zero_le _, by go_num, rfl, rfl⟩
      case round =>
        obtain ⟨j, hj, rfl, rfl, rfl⟩ := hrel
        by_cases hjm : j < m
        · have c1 := HC.out j hjm
          have T1 := flds_take HM.out hjm
          have r := HYR.out j hjm
          generalize gw h.words (a + 4 + j) = x at *
          have T2 : Hid (((flds h.words a).take (j + 1)).any youngS = (((flds h.words a).take j).any youngS || youngS x)) := (by rw [T1]; simp : ((flds h.words a).take (j + 1)).any youngS = (((flds h.words a).take j).any youngS || youngS x))
          clear T1
          generalize ((flds h.words a).take j).any youngS = y at *
          cases y
          · go_wp2_with (go_at_call 113; refine (l5Young_any _ _ r).mono ?_; rintro e w' ⟨rfl, rfl⟩)
            exact ⟨⟨j + 1, by omega, by go_num, by rw [T2.out]; rfl, trivial⟩, by simp [intOf]; omega⟩
          · go_wp2
            exact ⟨⟨j + 1, by omega, by go_num, by rw [T2.out]; rfl, trivial⟩, by simp [intOf]; omega⟩
        · obtain rfl : j = m := by omega
          have TA := flds_all HM.out
          rw [TA]
          have KS := keptS_snoc h.words (l.take k) a
          rw [← HTS.out] at KS
          have HH : hasYS h.words a = (flds h.words a).any youngS := rfl
          rw [← HH]
          clear TA HH
          generalize hasYS h.words a = y at *
          have hg2 : ∀ (W : World), (W.alloc (.cells #[.int .i64 a] 2)).cell? ⟨W.heap.size, 0, none⟩ = some (.int .i64 (a : Int)) := fun W => by simp
          by_cases h2 : a < 2000
          · have h2i : (a : Int) < 2000 := by omega
            cases y
            · rw [decide_eq_true h2] at KS
              have KS' : Hid (keptS h.words (l.take (k + 1)) = keptS h.words (l.take k)) := KS
              clear KS
              go_wp2
              exact ⟨⟨k + 1, ov, by omega, by go_num, rfl, by rw [KS'.out]; exact hown, bx, hsz, hb⟩, by simp [intOf]; omega⟩
            · rw [decide_eq_true h2] at KS
              have KS' : Hid (keptS h.words (l.take (k + 1)) = keptS h.words (l.take k) ++ [a]) := KS
              have hlk : (keptS h.words (l.take k)).length ≤ 3200 := by
                have := List.length_filter_le (fun a => decide (a < 2000) && hasYS h.words a) (l.take k)
                rw [List.length_take] at this
                unfold keptS
                omega
              clear KS
              generalize keptS h.words (l.take k) = ks at *
              have hown2 := own_later hown (bel_one wr (.cells #[.int .i64 a] 2))
              have hb2 := bel_after hb (bel_one wr (.cells #[.int .i64 a] 2))
              have bx2 := cell_later (bel_one wr (.cells #[.int .i64 a] 2)) bx
              go_wp2_with (at_builtin; refine app_int _ rfl _ _ rfl _ _ ks.length (icells (ints ks)) rfl hown2 _ 1 a rfl (hg2 _) (by omega) (Nat.le_trans hsz (by simp)) ?_; intro v4 w4 hown4 hg4'; have hg4 : (wr.alloc (.cells #[.int .i64 a] 2)).grownBy w4 ov.ownBlock := hg4'; have hb4 := Below.grown hb2 hg4 (Nat.le_trans hb.size (by simp)) (fun b e => by have := own_low hown2 e; omega); have bx4 := hg4.cell bx2 (fun e => by have q : w.heap.size + 1 ≤ w.heap.size := own_low hown2 e.symm; omega); have hs4 := hg4.size)
              exact ⟨⟨k + 1, v4, by omega, by go_num, rfl, by rw [KS'.out]; simpa [icells, ints] using hown4, bx4, Nat.le_trans hsz (Nat.le_trans (by simp) hs4), hb4⟩, by simp [intOf]; omega⟩
          · have h2i : ¬ (a : Int) < 2000 := by omega
            rw [decide_eq_false h2] at KS
            have KS' : Hid (keptS h.words (l.take (k + 1)) = keptS h.words (l.take k)) := KS
            clear KS
            go_wp2
            exact ⟨⟨k + 1, ov, by omega, by go_num, rfl, by rw [KS'.out]; exact hown, bx, hsz, hb⟩, by simp [intOf]; omega⟩
    · obtain rfl : k = l.length := by omega
      rw [List.take_length] at hown
      go_wp2
      exact bodyPost_ret (v := ov) (by simp [results, Tryz.results87, go_sem]) rfl ⟨⟨ov, rfl, IR_of_owns' hown⟩, hb⟩

end Go.Proofs.YtgacacbncefeaaaGreat
