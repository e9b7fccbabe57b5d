import Derived.Test.YtjclpbaiiklhcaaGreatDoorZV6
import Derived.Test.YtjclpbaiiklhcaaGreatDoorZV7
import Derived.Test.YtjclpbaiiklhcaaGreatDoorZV8
import Derived.Test.YtjclpbaiiklhcaaGreatDoorZV2
/- SuperText of the model. -/
namespace Go.Proofs.YtjclpbaiiklhcaaGreatDoor
open Go.RowKit

set_option maxRecDepth 100000 in
set_option maxHeartbeats 3200000 in
theorem specSuper_any (e : Int) (v : Value) (l : List Int) (w : World) (hv : IR w v l) (hl : l.length ≤ 1000000000000) :
    Calls Tryz.prog 21 #[.int .i64 e, v] w fun x w' => x = .returned (.tuple #[.string (supT e l), .bool (supOk e l)]) ∧ Below w.heap.size w w' := by
  obtain ⟨ao, cap, rfl, _, hv⟩ := hv
  go_enter Tryz.func21, Tryz.ntmps21
  go_wp2_with fail
  refine (l1In_any _ _ _ _).mono ?_
  rintro x w ⟨rfl, rfl⟩
  cases h1 : decide (1 ≤ e ∧ e ≤ 999999999)
  · have G : Hid (supOk e l = false) := supOk_e (of_decide_eq_false h1)
    clear h1 hv
    go_wp2
    exact bodyPost_ret (v := .tuple #[.string ⟨#[]⟩, .bool false]) (by simp [results, Tryz.results21, go_sem]) rfl ⟨by rw [supT_no G.out, G.out], Below.refl _ _⟩
  obtain ⟨he0, he1⟩ := of_decide_eq_true h1
  clear h1
  by_cases h30 : 30 < l.length
  · have G : Hid (supOk e l = false) := supOk_l (by omega)
    have g2 : decide ((30 : Int) < (l.length : Int)) = true := by simp; omega
    clear hv
    go_wp2
    exact bodyPost_ret (v := .tuple #[.string ⟨#[]⟩, .bool false]) (by simp [results, Tryz.results21, go_sem]) rfl ⟨by rw [supT_no G.out, G.out], Below.refl _ _⟩
  have g2 : decide ((30 : Int) < (l.length : Int)) = false := by simp; omega
  have s1 := itoaB_size (n := e) (by omega) (by omega)
  have s2 := itoaB_size (n := (l.length : Int)) (by omega) (by omega)
  have g4 : (⟨#[83]⟩ ++ itoaB e ++ semi : ByteArray).size ≤ 22 := by
    rw [ByteArray.size_append, ByteArray.size_append]
    have c : semi.size = 1 := rfl
    have d : (⟨#[83]⟩ : ByteArray).size = 1 := rfl
    omega
  have s5 := supHead_size (n := l.length) he0 he1 (by omega)
  go_wp2_with fail
  refine (l2Int_any e _ (by omega) (by omega)).mono ?_
  rintro x w1 ⟨rfl, hb1⟩
  have e1 : (⟨(Lib.itoa e).toArray⟩ : ByteArray) = itoaB e := rfl
  rw [e1]
  clear e1
  go_wp2_with fail
  refine (l2Int_any _ _ (by omega) (by omega)).mono ?_
  rintro x w2 ⟨rfl, hb2⟩
  have e2 : (⟨(Lib.itoa (l.length : Int)).toArray⟩ : ByteArray) = itoaB l.length := rfl
  rw [e2]
  clear e2
  have HH : Hid (supHead e l.length = ⟨#[83]⟩ ++ itoaB e ++ ⟨#[59]⟩ ++ itoaB l.length ++ ⟨#[59]⟩) := (rfl : supHead e l.length = ⟨#[83]⟩ ++ itoaB e ++ ⟨#[59]⟩ ++ itoaB l.length ++ ⟨#[59]⟩)
  have hb3 := bel_after hb1 hb2
  go_wp2
  clear g4 s1 s2
  go_loopw [6, 7] (fun s i wr => ∃ k : Nat, k ≤ l.length ∧ i = .int .i64 k ∧ s = .string (supL (supHead e l.length) (l.take k)) ∧ Hid (rowOk l k = true) ∧ Below w.heap.size w wr) (fun _ i _ => l.length - (intOf i).toNat)
  case atStart => exact ⟨0, Nat.zero_le _, rfl, by rw [← HH.out]; rfl, (by rfl : rowOk l 0 = true), hb3⟩
  case round =>
    obtain ⟨k, hk, rfl, rfl, hr, hb⟩ := hrel
    have sz := supL_size (acc := supHead e l.length) k hk hr.out
    by_cases hlt : k < l.length
    · have HS : Hid (supL (supHead e l.length) (l.take (k + 1)) = supL (supHead e l.length) (l.take k) ++ itoaB (l.getD k 0) ++ semi) := supL_succ _ l k hlt
      obtain ⟨b, o, rfl, hc0⟩ := hv k hlt
      have hc := cell_later hb hc0
      have hvk : Hid (∀ m, m < k → wr.cell? ⟨b, o + m, none⟩ = some (.int .i64 (l.getD m 0))) := (fun m hm => by
        obtain ⟨b', o', e', hc'⟩ := hv m (by omega)
        cases e'
        exact cell_later hb hc' : ∀ m, m < k → wr.cell? ⟨b, o + m, none⟩ = some (.int .i64 (l.getD m 0)))
      have NO : Hid (¬ (2 ≤ l.getD k 0 ∧ l.getD k 0 ≤ 63) → goodAt l k = false) := fun h => goodAt_no h
      have NT : Hid (2 ≤ l.getD k 0 ∧ l.getD k 0 ≤ 63 → (∀ j, j < k → l.getD j 0 ≠ l.getD k 0) → goodAt l k = true) := fun hin hh => goodAt_yes hin (not_mem_of (fun j hj => by
          rw [List.length_take] at hj
          rw [take_get (by omega)]
          exact hh j (by omega)))
      have YT : Hid (∀ j, j < k → l.getD j 0 = l.getD k 0 → goodAt l k = false) := fun j hj e => goodAt_twice (mem_of (k := j) (by rw [List.length_take]; omega) (by rw [take_get hj, e]))
      clear hv hc0
      generalize l.getD k 0 = y at *
      have NG : Hid (goodAt l k = false → supOk e l = false) := fun h => supOk_row (rowOk_false h hlt)
      by_cases hin : 2 ≤ y ∧ y ≤ 63
      · have s3 := itoaB_size (n := y) (by omega) (by omega)
        have hd : decide (2 ≤ y ∧ y ≤ 63) = true := decide_eq_true hin
        have NT2 : Hid ((∀ j, j < k → l.getD j 0 ≠ y) → goodAt l k = true) := NT.out hin
        obtain ⟨y0, y1⟩ := hin
        clear NT NO
        go_wp2_with fail
        refine (l1In_any _ _ _ _).mono ?_
        rintro x wr' ⟨rfl, rfl⟩
        rw [hd]
        clear hd
        go_wp2
        go_loopw [8] (fun j wq => ∃ m : Nat, m ≤ k ∧ j = .int .i64 m ∧ Hid (∀ i, i < m → l.getD i 0 ≠ y) ∧ ∃ n, wq = wr'.drewN n) (fun j _ => k - (intOf j).toNat)
        case atStart => exact ⟨0, Nat.zero_le _, rfl, fun j hj => absurd hj (by omega), 0, rfl⟩
        case round =>
          obtain ⟨m, hm, rfl, hn, n, rfl⟩ := hrel
          by_cases hmk : m < k
          · have hcm := hvk.out m hmk
            have hml : m < l.length := by omega
            have HE : Hid (l.getD m 0 = y → goodAt l k = false) := YT.out m hmk
            have HN : Hid (l.getD m 0 ≠ y → ∀ i, i < m + 1 → l.getD i 0 ≠ y) := fun h => all_upto hn.out h
            generalize l.getD m 0 = z at *
            clear hvk NT2 YT HS
            go_wp2
            go_region
            all_goals go_wp2
            · have he : z = y := by simpa using ‹(z == y) = true›
              have G := NG.out (HE.out he)
              exact bodyPost_ret (v := .tuple #[.string ⟨#[]⟩, .bool false]) (by simp [results, Tryz.results21, go_sem]) rfl ⟨by rw [supT_no G, G], below_drewN hb _⟩
            · have he : z ≠ y := by simpa using ‹(z == y) = false›
              go_roundw
              case rel => exact ⟨m + 1, by omega, by go_num, HN.out he, _, rfl⟩
              case measure => simp [intOf]; omega
          · obtain rfl : m = k := by omega
            have G : Hid (rowOk l (m + 1) = true) := (by rw [rowOk_succ, hr.out, NT2.out hn.out]; rfl : rowOk l (m + 1) = true)
            clear hvk NT2 YT hn hr
            go_wp2_with fail
            refine (l2Int_any y _ (by omega) (by omega)).mono ?_
            rintro x w5 ⟨rfl, hb5⟩
            have e5 : (⟨(Lib.itoa y).toArray⟩ : ByteArray) = itoaB y := rfl
            rw [e5]
            clear e5
            go_wp2
            exact ⟨⟨m + 1, by omega, by go_num, by rw [HS.out]; rfl, G, bel_after (below_drewN hb _) hb5⟩, by simp [intOf]; omega⟩
      · have G : Hid (supOk e l = false) := NG.out (NO.out hin)
        have hd : decide (2 ≤ y ∧ y ≤ 63) = false := decide_eq_false hin
        clear NT NO hin hvk YT NG
        go_wp2_with fail
        refine (l1In_any _ _ _ _).mono ?_
        rintro x wr' ⟨rfl, rfl⟩
        rw [hd]
        clear hd
        go_wp2
        exact bodyPost_ret (v := .tuple #[.string ⟨#[]⟩, .bool false]) (by simp [results, Tryz.results21, go_sem]) rfl ⟨by rw [supT_no G.out, G.out], hb⟩
    · obtain rfl : k = l.length := by omega
      have G := supOk_yes he0 he1 (by omega) hr.out
      have HT : Hid (supT e l = supS e l ++ itoaB (crcS (supS e l))) := supT_yes G
      have HG : Hid (supOk e l = true) := G
      have e7 : l.take l.length = l := List.take_of_length_le (Nat.le_refl _)
      rw [e7] at sz ⊢
      clear e7 G hv
      have e8 : supL (supHead e l.length) l = supS e l := rfl
      rw [e8] at sz ⊢
      clear e8
      obtain ⟨c1, c2⟩ := crcS_range (supS e l)
      have si := itoaB_size (n := crcS (supS e l)) (by omega) (by omega)
      go_wp2_with fail
      refine (crc_any _ _ (by omega)).mono ?_
      rintro x w5 ⟨rfl, rfl⟩
      go_wp2_with fail
      refine (l2Int_any _ _ (by omega) (by omega)).mono ?_
      rintro x w6 ⟨rfl, hb6⟩
      have e9 : (⟨(Lib.itoa (crcS (supS e l))).toArray⟩ : ByteArray) = itoaB (crcS (supS e l)) := rfl
      rw [e9]
      clear e9
      go_wp2
      exact bodyPost_ret (v := .tuple #[.string (supS e l ++ itoaB (crcS (supS e l))), .bool true]) (by simp [results, Tryz.results21, go_sem]) rfl ⟨by rw [HT.out, HG.out], bel_after hb hb6⟩

end Go.Proofs.YtjclpbaiiklhcaaGreatDoor

/- l3Form of the model: a superblock's text read. -/
namespace Go.Proofs.YtjclpbaiiklhcaaGreatDoor
open Go.RowKit

/-- Epoch and sectors, or 0 and none. -/
def orNone (x : Option (Int × List Int)) : Int × List Int := x.getD (0, [])

theorem str_ne'' {s t : ByteArray} (h : s ≠ t) : (!s.toList == t.toList) = true := by
  simp
  intro e
  rw [ByteArray.toList_eq, ByteArray.toList_eq] at e
  exact h (ByteArray.ext (Array.toList_inj.1 e))
theorem fieldsN_cut (s : ByteArray) : ∀ (k a : Nat) (xs : List Int) (q : List UInt8), fieldsN k (s.data.toList.drop a) = some (xs, q) → a ≤ s.size → ∃ p, q = s.data.toList.drop p ∧ p ≤ s.size
  | 0, a, xs, q, h, ha => by
    simp only [fieldsN, Option.some.injEq, Prod.mk.injEq] at h
    exact ⟨a, h.2.symm, ha⟩
  | k + 1, a, xs, q, h, ha => by
    unfold fieldsN at h
    rw [cut_field] at h
    cases hf : fieldN s a 9 with
    | none => rw [hf] at h; simp at h
    | some x =>
      obtain ⟨v, p⟩ := x
      rw [hf] at h
      simp only [Option.map_some] at h
      cases hk : fieldsN k (s.data.toList.drop p) with
      | none => rw [hk] at h; simp at h
      | some y =>
        obtain ⟨ys, q'⟩ := y
        rw [hk] at h
        simp only [Option.some.injEq, Prod.mk.injEq] at h
        obtain ⟨_, rfl⟩ := h
        exact fieldsN_cut s k p ys q' hk (field_le hf).1

theorem supR_1 {s : ByteArray} (h : fieldN s 1 9 = none) : supR s = none := by
  unfold supR
  rw [cut_field s 1 9, h]
  simp
theorem supR_2 {s : ByteArray} {n : Int} {a : Nat} (h : fieldN s 1 9 = some (n, a)) (h2 : fieldN s a 9 = none) : supR s = none := by
  unfold supR
  rw [cut_field s 1 9, h]
  simp only [Option.map_some]
  rw [cut_field s a 9, h2]
  simp
theorem supR_3 {s : ByteArray} {e n : Int} {a b : Nat} (h0 : s.data.toList.head? = some 83) (h : fieldN s 1 9 = some (e, a)) (h2 : fieldN s a 9 = some (n, b)) :
    supR s = if 0 ≤ n ∧ n ≤ 30 then (match fieldsN n.toNat (s.data.toList.drop b) with | none => none | some (xs, _) => if supOk e xs = true ∧ supT e xs = s then some (e, xs) else none) else none := by
  unfold supR
  rw [if_pos h0, cut_field s 1 9, h]
  simp only [Option.map_some]
  rw [cut_field s a 9, h2]
  rfl
theorem supR_head {s : ByteArray} (h : s.data.toList.head? ≠ some 83) : supR s = none := by unfold supR; rw [if_neg h]

set_option maxRecDepth 100000 in
set_option maxHeartbeats 3200000 in
theorem l3Form_any (s : ByteArray) (w : World) (hs : s.size ≤ 1000000000000) :
    Calls Tryz.prog 59 #[.string s] w fun x w' => (∃ v, x = .returned (.tuple #[.int .i64 (orNone (supR s)).1, v]) ∧ IR w' v (orNone (supR s)).2) ∧ Below w.heap.size w w' := by
  have hb0 := bel_one w (.cells #[] 2)
  have hir0 : ∀ w', Below (w.alloc (.cells #[] 2)).heap.size (w.alloc (.cells #[] 2)) w' → IR w' (.slice (some ⟨w.heap.size, 0, none⟩) 0 0) [] := fun w' _ => ⟨_, _, rfl, Nat.le_refl _, fun i hi => by simp at hi⟩
  have NO : ∀ w', Below (w.alloc (.cells #[] 2)).heap.size (w.alloc (.cells #[] 2)) w' → supR s = none → ((∃ v, Ending.returned (.tuple #[.int .i64 0, .slice (some ⟨w.heap.size, 0, none⟩) 0 0]) = .returned (.tuple #[.int .i64 (orNone (supR s)).1, v]) ∧ IR w' v (orNone (supR s)).2) ∧ Below w.heap.size w w') := fun w' hb h => by
    rw [h]
    exact ⟨⟨_, rfl, hir0 w' hb⟩, bel_after hb0 hb⟩
  have NO' : Hid (∀ w', Below (w.alloc (.cells #[] 2)).heap.size (w.alloc (.cells #[] 2)) w' → supR s = none → ((∃ v, Ending.returned (.tuple #[.int .i64 0, .slice (some ⟨w.heap.size, 0, none⟩) 0 0]) = .returned (.tuple #[.int .i64 (orNone (supR s)).1, v]) ∧ IR w' v (orNone (supR s)).2) ∧ Below w.heap.size w w')) := NO
  clear NO hir0
  by_cases h0 : s = ⟨#[]⟩
  · subst h0
    go_enter Tryz.func59, Tryz.ntmps59
    go_wp2
    exact bodyPost_ret (v := .tuple #[.int .i64 0, .slice (some ⟨w.heap.size, 0, none⟩) 0 0]) (by simp [results, Tryz.results59, go_sem]) rfl (NO'.out _ (Below.refl _ _) rfl)
  have hp : 0 < s.size := by have := size_pos h0; omega
  have q1 := str_nil h0
  have q2 : s.toList.isEmpty = false := by simpa using q1
  clear h0
  by_cases h83 : s[0].toNat = 83
  · have h83i : (s[0].toNat : Int) = 83 := by omega
    have HD : Hid (s.data.toList.head? = some 83) := (by rw [head_is s hp]; exact congrArg some (UInt8.toNat_inj.1 h83) : s.data.toList.head? = some 83)
    have F1 := fun w => l2Field_any s 1 9 w hs hp (by omega)
    cases h1 : fieldN s 1 9 with
    | none =>
      obtain ⟨e1, e2⟩ := fieldV_none h1
      rw [e1, e2] at F1
      have G : Hid (supR s = none) := supR_1 h1
      clear h1 e1 e2
      go_enter Tryz.func59, Tryz.ntmps59
      go_wp2_with (go_at_call 84; refine (F1 _).mono ?_; rintro x w' ⟨rfl, rfl⟩)
      exact bodyPost_ret (v := .tuple #[.int .i64 0, .slice (some ⟨w.heap.size, 0, none⟩) 0 0]) (by simp [results, Tryz.results59, go_sem]) rfl (NO'.out _ (Below.refl _ _) G.out)
    | some x1 =>
      obtain ⟨e, a⟩ := x1
      obtain ⟨e1, e2⟩ := fieldV_some h1
      obtain ⟨l1, l1'⟩ := field_le h1
      obtain ⟨r1, r2⟩ := field_range (by omega) h1
      have F2 := fun w => l2Field_any s a 9 w hs l1 (by omega)
      rw [e1, e2] at F1
      clear e1 e2
      go_enter Tryz.func59, Tryz.ntmps59
      go_wp2_with fail
      refine (F1 _).mono ?_
      rintro x w1 ⟨rfl, rfl⟩
      clear F1
      cases h2 : fieldN s a 9 with
      | none =>
        obtain ⟨e1, e2⟩ := fieldV_none h2
        rw [e1, e2] at F2
        have G : Hid (supR s = none) := supR_2 h1 h2
        clear h1 h2 e1 e2
        go_wp2_with (go_at_call 84; refine (F2 _).mono ?_; rintro x w' ⟨rfl, rfl⟩)
        exact bodyPost_ret (v := .tuple #[.int .i64 0, .slice (some ⟨w.heap.size, 0, none⟩) 0 0]) (by simp [results, Tryz.results59, go_sem]) rfl (NO'.out _ (Below.refl _ _) G.out)
      | some x2 =>
        obtain ⟨n, b⟩ := x2
        obtain ⟨e1, e2⟩ := fieldV_some h2
        obtain ⟨l2, l2'⟩ := field_le h2
        obtain ⟨r3, r4⟩ := field_range (by omega) h2
        rw [e1, e2] at F2
        have HS : Hid (supR s = if 0 ≤ n ∧ n ≤ 30 then (match fieldsN n.toNat (s.data.toList.drop b) with | none => none | some (xs, _) => if supOk e xs = true ∧ supT e xs = s then some (e, xs) else none) else none) := supR_3 HD.out h1 h2
        clear e1 e2 h1 h2
        go_wp2_with fail
        refine (F2 _).mono ?_
        rintro x w2 ⟨rfl, rfl⟩
        clear F2
        have hbi : ¬ (b : Int) < 0 := by omega
        by_cases hn : 0 ≤ n ∧ n ≤ 30
        · obtain ⟨m0, rfl⟩ := Int.eq_ofNat_of_zero_le hn.1
          have hd : decide (0 ≤ (m0 : Int) ∧ (m0 : Int) ≤ 30) = true := decide_eq_true hn
          rw [if_pos hn, Int.toNat_natCast] at HS
          obtain ⟨_, n1⟩ := hn
          have hb1 := bel_one (w.alloc (.cells #[] 2)) (.cells #[] 2)
          have ho0 : ((w.alloc (.cells #[] 2)).alloc (.cells #[] 2)).ownsRow (w.alloc (.cells #[] 2)).heap.size 2 1 (.slice (some ⟨w.heap.size + 1, 0, none⟩) 0 0) 0 [] := by
            have h := own_none (w.alloc (.cells #[] 2)) (w.alloc (.cells #[] 2)).heap.size 2 1 (Nat.le_refl _)
            simp only [World.size_alloc] at h ⊢
            exact h
          go_wp2_with fail
          refine (l1In_any _ _ _ _).mono ?_
          rintro x w3 ⟨rfl, rfl⟩
          rw [hd]
          clear hd
          go_wp2
          go_loopw [6, 7, 8] (fun av nv lv wr => ∃ (k p : Nat) (xs : List Int) (v0 : Value), k ≤ m0 ∧ p ≤ s.size ∧ av = .int .i64 p ∧ nv = .int .i64 ((m0 : Int) - k) ∧ xs.length = k ∧ v0 = lv ∧ wr.ownsRow (w.alloc (.cells #[] 2)).heap.size 2 1 v0 k (icells xs) ∧ Hid (fieldsN k (s.data.toList.drop b) = some (xs, s.data.toList.drop p)) ∧ Below (w.alloc (.cells #[] 2)).heap.size (w.alloc (.cells #[] 2)) wr) (fun _ nv _ _ => (intOf nv).toNat)
          case atStart => exact ⟨0, b, [], _, Nat.zero_le _, l2, rfl, by simp, rfl, rfl, ho0, rfl, hb1⟩
          case round =>
            obtain ⟨k, p, xs, lv, hk, hp', rfl, rfl, hxl, rfl, hown, hf, hb⟩ := hrel
            by_cases hlt : k < m0
            · have FP := fun w => l2Field_any s p 9 w hs hp' (by omega)
              have hki : (0 : Int) < (m0 : Int) - k := by omega
              have SN := fieldsN_snoc k _ _ _ hf.out
              rw [cut_field s p 9] at SN
              cases hpf : fieldN s p 9 with
              | none =>
                obtain ⟨e1, e2⟩ := fieldV_none hpf
                rw [e1, e2] at FP
                rw [hpf] at SN
                have G : Hid (supR s = none) := (by rw [HS.out, fieldsN_le (k := k + 1) SN (by omega)] : supR s = none)
                clear SN hpf e1 e2 hf HS
                go_wp2_with (go_at_call 84; refine (FP _).mono ?_; rintro x w' ⟨rfl, rfl⟩)
                exact bodyPost_ret (v := .tuple #[.int .i64 0, .slice (some ⟨w.heap.size, 0, none⟩) 0 0]) (by simp [results, Tryz.results59, go_sem]) rfl (NO'.out _ hb G.out)
              | some x3 =>
                obtain ⟨y, p2⟩ := x3
                obtain ⟨e1, e2⟩ := fieldV_some hpf
                obtain ⟨l3, l3'⟩ := field_le hpf
                rw [e1, e2] at FP
                rw [hpf] at SN
                have HF : Hid (fieldsN (k + 1) (s.data.toList.drop b) = some (xs ++ [y], s.data.toList.drop p2)) := SN
                clear SN hpf e1 e2 hf
                have hc : ∀ W : World, (W.alloc (.cells #[.int .i64 y] 2)).cell? ⟨W.heap.size, 0, none⟩ = some (.int .i64 y) := fun W => by simp
                have hown2 := own_later hown (bel_one wr (.cells #[.int .i64 y] 2))
                have hb2 := bel_after hb (bel_one wr (.cells #[.int .i64 y] 2))
                have hsz := hb.size
                have hp2i : ¬ (p2 : Int) < 0 := by omega
                go_wp2_with (first
                  | (go_at_call 84; refine (FP _).mono ?_; rintro x w' ⟨rfl, rfl⟩)
                  | (at_builtin; refine app_int _ rfl _ _ rfl _ _ k (icells xs) rfl hown2 _ 1 y rfl (hc _) (by omega) (Nat.le_trans hsz (by simp)) ?_; intro v4 w4 hown4 hg4; have hb4 := own_grown hb2 hown2 hg4 (Nat.le_trans hsz (by simp))))
                have ei : icells (xs ++ [y]) = icells xs ++ [.int .i64 y] := by simp [icells]
                exact ⟨⟨k + 1, p2, xs ++ [y], _, by omega, l3, rfl, congrArg (Value.int .i64) (by omega), by simp [hxl], rfl, by rw [ei]; exact hown4, HF, hb4⟩, by simp [intOf]; omega⟩
            · obtain rfl : k = m0 := by omega
              have hki : ¬ (0 : Int) < (k : Int) - k := by omega
              have hown' : wr.ownsRow (w.alloc (.cells #[] 2)).heap.size 2 1 lv xs.length (icells xs) := by rw [hxl]; exact hown
              have hir := IR_of_owns hown'
              have ST := specSuper_any e lv xs wr hir (by omega)
              have HS2 : Hid (supR s = if supOk e xs = true ∧ supT e xs = s then some (e, xs) else none) := (by rw [HS.out, hf.out] : supR s = if supOk e xs = true ∧ supT e xs = s then some (e, xs) else none)
              clear HS hf hown hown'
              go_wp2_with fail
              refine ST.mono ?_
              rintro x w5 ⟨rfl, hb5⟩
              have hbk := bel_after hb hb5
              cases hok : supOk e xs
              · rw [supT_no hok]
                have G : Hid (supR s = none) := (by rw [HS2.out, if_neg (by rw [hok]; simp)] : supR s = none)
                clear hok HS2 ST
                go_wp2
                exact bodyPost_ret (v := .tuple #[.int .i64 0, .slice (some ⟨w.heap.size, 0, none⟩) 0 0]) (by simp [results, Tryz.results59, go_sem]) rfl (NO'.out _ hbk G.out)
              · by_cases hts : supT e xs = s
                · have G : Hid (supR s = some (e, xs)) := (by rw [HS2.out, if_pos ⟨hok, hts⟩] : supR s = some (e, xs))
                  rw [hts]
                  clear hok HS2 ST hts
                  go_wp2
                  exact bodyPost_ret (v := .tuple #[.int .i64 e, lv]) (by simp [results, Tryz.results59, go_sem]) rfl ⟨⟨lv, by rw [G.out]; rfl, by rw [G.out]; exact hir.later hb5⟩, bel_after hb0 hbk⟩
                · have G : Hid (supR s = none) := (by rw [HS2.out, if_neg (fun h => hts h.2)] : supR s = none)
                  have hn := str_ne'' hts
                  clear hok HS2 ST hts
                  go_wp2
                  exact bodyPost_ret (v := .tuple #[.int .i64 0, .slice (some ⟨w.heap.size, 0, none⟩) 0 0]) (by simp [results, Tryz.results59, go_sem]) rfl (NO'.out _ hbk G.out)
        · have hd : decide (0 ≤ n ∧ n ≤ 30) = false := decide_eq_false hn
          rw [if_neg hn] at HS
          clear hn
          go_wp2_with fail
          refine (l1In_any _ _ _ _).mono ?_
          rintro x w3 ⟨rfl, rfl⟩
          rw [hd]
          clear hd
          go_wp2
          exact bodyPost_ret (v := .tuple #[.int .i64 0, .slice (some ⟨w.heap.size, 0, none⟩) 0 0]) (by simp [results, Tryz.results59, go_sem]) rfl (NO'.out _ (Below.refl _ _) HS.out)
  · have h83i : ¬ (s[0].toNat : Int) = 83 := by omega
    have G : Hid (supR s = none) := supR_head (by rw [head_is s hp]; intro e; exact h83 (by rw [Option.some.inj e]; rfl))
    go_enter Tryz.func59, Tryz.ntmps59
    go_wp2
    exact bodyPost_ret (v := .tuple #[.int .i64 0, .slice (some ⟨w.heap.size, 0, none⟩) 0 0]) (by simp [results, Tryz.results59, go_sem]) rfl (NO'.out _ (Below.refl _ _) G.out)

end Go.Proofs.YtjclpbaiiklhcaaGreatDoor
