import Derived.Test.YtjclpbaiiklhcaaGreatDoorZV7
import Derived.Test.YtjclpbaiiklhcaaGreatDoorZV8
import Derived.Test.YtjclpbaiiklhcaaGreatDoorZOpenS
import Derived.Test.YtjclpbaiiklhcaaGreatDoorZV3
import Derived.Test.YtjclpbaiiklhcaaGreatDoorZDBase
/- l3Form of the model: a superblock's text read. -/
namespace Go.Proofs.YtjclpbaiiklhcaaGreatDoor
open Go.RowKit

/-- Epoch and sectors, or 0 and none. -/
def orNone (x : Option (Int × List Int)) : Int × List Int := x.getD (0, [])

theorem str_ne'' {s t : ByteArray} (h : s ≠ t) : (!s.toList == t.toList) = true := by
  simp
  intro e
  rw [ByteArray.toList_eq, ByteArray.toList_eq] at e
  exact h (ByteArray.ext (Array.toList_inj.1 e))
theorem fieldsN_cut (s : ByteArray) : ∀ (k a : Nat) (xs : List Int) (q : List UInt8), fieldsN k (s.data.toList.drop a) = some (xs, q) → a ≤ s.size → ∃ p, q = s.data.toList.drop p ∧ p ≤ s.size
  | 0, a, xs, q, h, ha => by
    simp only [fieldsN, Option.some.injEq, Prod.mk.injEq] at h
    exact ⟨a, h.2.symm, ha⟩
  | k + 1, a, xs, q, h, ha => by
    unfold fieldsN at h
    rw [cut_field] at h
    cases hf : fieldN s a 9 with
    | none => rw [hf] at h; simp at h
    | some x =>
      obtain ⟨v, p⟩ := x
      rw [hf] at h
      simp only [Option.map_some] at h
      cases hk : fieldsN k (s.data.toList.drop p) with
      | none => rw [hk] at h; simp at h
      | some y =>
        obtain ⟨ys, q'⟩ := y
        rw [hk] at h
        simp only [Option.some.injEq, Prod.mk.injEq] at h
        obtain ⟨_, rfl⟩ := h
        exact fieldsN_cut s k p ys q' hk (field_le hf).1

theorem supR_1 {s : ByteArray} (h : fieldN s 1 9 = none) : supR s = none := by
  unfold supR
  rw [cut_field s 1 9, h]
  simp
theorem supR_2 {s : ByteArray} {n : Int} {a : Nat} (h : fieldN s 1 9 = some (n, a)) (h2 : fieldN s a 9 = none) : supR s = none := by
  unfold supR
  rw [cut_field s 1 9, h]
  simp only [Option.map_some]
  rw [cut_field s a 9, h2]
  simp
theorem supR_3 {s : ByteArray} {e n : Int} {a b : Nat} (h0 : s.data.toList.head? = some 83) (h : fieldN s 1 9 = some (e, a)) (h2 : fieldN s a 9 = some (n, b)) :
    supR s = if 0 ≤ n ∧ n ≤ 30 then (match fieldsN n.toNat (s.data.toList.drop b) with | none => none | some (xs, _) => if supOk e xs = true ∧ supT e xs = s then some (e, xs) else none) else none := by
  unfold supR
  rw [if_pos h0, cut_field s 1 9, h]
  simp only [Option.map_some]
  rw [cut_field s a 9, h2]
  rfl
theorem supR_head {s : ByteArray} (h : s.data.toList.head? ≠ some 83) : supR s = none := by unfold supR; rw [if_neg h]

set_option maxRecDepth 100000 in
set_option maxHeartbeats 3200000 in
theorem l3Form_any (s : ByteArray) (w : World) (hs : s.size ≤ 1000000000000) :
    Calls Tryz.prog 59 #[.string s] w fun x w' => (∃ v, x = .returned (.tuple #[.int .i64 (orNone (supR s)).1, v]) ∧ IR w' v (orNone (supR s)).2) ∧ Below w.heap.size w w' := by
  have hb0 := bel_one w (.cells #[] 2)
  have hir0 : ∀ w', Below (w.alloc (.cells #[] 2)).heap.size (w.alloc (.cells #[] 2)) w' → IR w' (.slice (some ⟨w.heap.size, 0, none⟩) 0 0) [] := fun w' _ => ⟨_, _, rfl, Nat.le_refl _, fun i hi => by simp at hi⟩
  have NO : ∀ w', Below (w.alloc (.cells #[] 2)).heap.size (w.alloc (.cells #[] 2)) w' → supR s = none → ((∃ v, Ending.returned (.tuple #[.int .i64 0, .slice (some ⟨w.heap.size, 0, none⟩) 0 0]) = .returned (.tuple #[.int .i64 (orNone (supR s)).1, v]) ∧ IR w' v (orNone (supR s)).2) ∧ Below w.heap.size w w') := fun w' hb h => by
    rw [h]
    exact ⟨⟨_, rfl, hir0 w' hb⟩, bel_after hb0 hb⟩
  have NO' : Hid (∀ w', Below (w.alloc (.cells #[] 2)).heap.size (w.alloc (.cells #[] 2)) w' → supR s = none → ((∃ v, Ending.returned (.tuple #[.int .i64 0, .slice (some ⟨w.heap.size, 0, none⟩) 0 0]) = .returned (.tuple #[.int .i64 (orNone (supR s)).1, v]) ∧ IR w' v (orNone (supR s)).2) ∧ Below w.heap.size w w')) := NO
  clear NO hir0
  by_cases h0 : s = ⟨#[]⟩
  · subst h0
    go_enter Tryz.func59, Tryz.ntmps59
    go_wp2
    exact bodyPost_ret (v := .tuple #[.int .i64 0, .slice (some ⟨w.heap.size, 0, none⟩) 0 0]) (by simp [results, Tryz.results59, go_sem]) rfl (NO'.out _ (Below.refl _ _) rfl)
  have hp : 0 < s.size := by have := size_pos h0; omega
  have q1 := str_nil h0
  have q2 : s.toList.isEmpty = false := by simpa using q1
  clear h0
  by_cases h83 : s[0].toNat = 83
  · have h83i : (s[0].toNat : Int) = 83 := by omega
    have HD : Hid (s.data.toList.head? = some 83) := (by rw [head_is s hp]; exact congrArg some (UInt8.toNat_inj.1 h83) : s.data.toList.head? = some 83)
    have F1 := fun w => l2Field_any s 1 9 w hs hp (by omega)
    cases h1 : fieldN s 1 9 with
    | none =>
      obtain ⟨e1, e2⟩ := fieldV_none h1
      rw [e1, e2] at F1
      have G : Hid (supR s = none) := supR_1 h1
      clear h1 e1 e2
      go_enter Tryz.func59, Tryz.ntmps59
      go_wp2_with (go_at_call 84; refine (F1 _).mono ?_; rintro x w' ⟨rfl, rfl⟩)
      exact bodyPost_ret (v := .tuple #[.int .i64 0, .slice (some ⟨w.heap.size, 0, none⟩) 0 0]) (by simp [results, Tryz.results59, go_sem]) rfl (NO'.out _ (Below.refl _ _) G.out)
    | some x1 =>
      obtain ⟨e, a⟩ := x1
      obtain ⟨e1, e2⟩ := fieldV_some h1
      obtain ⟨l1, l1'⟩ := field_le h1
      obtain ⟨r1, r2⟩ := field_range (by omega) h1
      have F2 := fun w => l2Field_any s a 9 w hs l1 (by omega)
      rw [e1, e2] at F1
      clear e1 e2
      go_enter Tryz.func59, Tryz.ntmps59
      go_wp2_with fail
      refine (F1 _).mono ?_
      rintro x w1 ⟨rfl, rfl⟩
      clear F1
      cases h2 : fieldN s a 9 with
      | none =>
        obtain ⟨e1, e2⟩ := fieldV_none h2
        rw [e1, e2] at F2
        have G : Hid (supR s = none) := supR_2 h1 h2
        clear h1 h2 e1 e2
        go_wp2_with (go_at_call 84; refine (F2 _).mono ?_; rintro x w' ⟨rfl, rfl⟩)
        exact bodyPost_ret (v := .tuple #[.int .i64 0, .slice (some ⟨w.heap.size, 0, none⟩) 0 0]) (by simp [results, Tryz.results59, go_sem]) rfl (NO'.out _ (Below.refl _ _) G.out)
      | some x2 =>
        obtain ⟨n, b⟩ := x2
        obtain ⟨e1, e2⟩ := fieldV_some h2
        obtain ⟨l2, l2'⟩ := field_le h2
        obtain ⟨r3, r4⟩ := field_range (by omega) h2
        rw [e1, e2] at F2
        have HS : Hid (supR s = if 0 ≤ n ∧ n ≤ 30 then (match fieldsN n.toNat (s.data.toList.drop b) with | none => none | some (xs, _) => if supOk e xs = true ∧ supT e xs = s then some (e, xs) else none) else none) := supR_3 HD.out h1 h2
        clear e1 e2 h1 h2
        go_wp2_with fail
        refine (F2 _).mono ?_
        rintro x w2 ⟨rfl, rfl⟩
        clear F2
        have hbi : ¬ (b : Int) < 0 := by omega
        by_cases hn : 0 ≤ n ∧ n ≤ 30
        · obtain ⟨m0, rfl⟩ := Int.eq_ofNat_of_zero_le hn.1
          have hd : decide (0 ≤ (m0 : Int) ∧ (m0 : Int) ≤ 30) = true := decide_eq_true hn
          rw [if_pos hn, Int.toNat_natCast] at HS
          obtain ⟨_, n1⟩ := hn
          have hb1 := bel_one (w.alloc (.cells #[] 2)) (.cells #[] 2)
          have ho0 : ((w.alloc (.cells #[] 2)).alloc (.cells #[] 2)).ownsRow (w.alloc (.cells #[] 2)).heap.size 2 1 (.slice (some ⟨w.heap.size + 1, 0, none⟩) 0 0) 0 [] := by
            have h := own_none (w.alloc (.cells #[] 2)) (w.alloc (.cells #[] 2)).heap.size 2 1 (Nat.le_refl _)
            simp only [World.size_alloc] at h ⊢
            exact h
          go_wp2_with fail
          refine (l1In_any _ _ _ _).mono ?_
          rintro x w3 ⟨rfl, rfl⟩
          rw [hd]
          clear hd
          go_wp2
          go_loopw [6, 7, 8] (fun av nv lv wr => ∃ (k p : Nat) (xs : List Int) (v0 : Value), k ≤ m0 ∧ p ≤ s.size ∧ av = .int .i64 p ∧ nv = .int .i64 ((m0 : Int) - k) ∧ xs.length = k ∧ v0 = lv ∧ wr.ownsRow (w.alloc (.cells #[] 2)).heap.size 2 1 v0 k (icells xs) ∧ Hid (fieldsN k (s.data.toList.drop b) = some (xs, s.data.toList.drop p)) ∧ Below (w.alloc (.cells #[] 2)).heap.size (w.alloc (.cells #[] 2)) wr) (fun _ nv _ _ => (intOf nv).toNat)
          case atStart => exact ⟨0, b, [], _, Nat.zero_le _, l2, rfl, by simp, rfl, rfl, ho0, rfl, hb1⟩
          case round =>
            obtain ⟨k, p, xs, lv, hk, hp', rfl, rfl, hxl, rfl, hown, hf, hb⟩ := hrel
            by_cases hlt : k < m0
            · have FP := fun w => l2Field_any s p 9 w hs hp' (by omega)
              have hki : (0 : Int) < (m0 : Int) - k := by omega
              have SN := fieldsN_snoc k _ _ _ hf.out
              rw [cut_field s p 9] at SN
              cases hpf : fieldN s p 9 with
              | none =>
                obtain ⟨e1, e2⟩ := fieldV_none hpf
                rw [e1, e2] at FP
                rw [hpf] at SN
                have G : Hid (supR s = none) := (by rw [HS.out, fieldsN_le (k := k + 1) SN (by omega)] : supR s = none)
                clear SN hpf e1 e2 hf HS
                go_wp2_with (go_at_call 84; refine (FP _).mono ?_; rintro x w' ⟨rfl, rfl⟩)
                exact bodyPost_ret (v := .tuple #[.int .i64 0, .slice (some ⟨w.heap.size, 0, none⟩) 0 0]) (by simp [results, Tryz.results59, go_sem]) rfl (NO'.out _ hb G.out)
              | some x3 =>
                obtain ⟨y, p2⟩ := x3
                obtain ⟨e1, e2⟩ := fieldV_some hpf
                obtain ⟨l3, l3'⟩ := field_le hpf
                rw [e1, e2] at FP
                rw [hpf] at SN
                have HF : Hid (fieldsN (k + 1) (s.data.toList.drop b) = some (xs ++ [y], s.data.toList.drop p2)) := SN
                clear SN hpf e1 e2 hf
                have hc : ∀ W : World, (W.alloc (.cells #[.int .i64 y] 2)).cell? ⟨W.heap.size, 0, none⟩ = some (.int .i64 y) := fun W => by simp
                have hown2 := own_later hown (bel_one wr (.cells #[.int .i64 y] 2))
                have hb2 := bel_after hb (bel_one wr (.cells #[.int .i64 y] 2))
                have hsz := hb.size
                have hp2i : ¬ (p2 : Int) < 0 := by omega
                go_wp2_with (first
                  | (go_at_call 84; refine (FP _).mono ?_; rintro x w' ⟨rfl, rfl⟩)
                  | (at_builtin; refine app_int _ rfl _ _ rfl _ _ k (icells xs) rfl hown2 _ 1 y rfl (hc _) (by omega) (Nat.le_trans hsz (by simp)) ?_; intro v4 w4 hown4 hg4; have hb4 := own_grown hb2 hown2 hg4 (Nat.le_trans hsz (by simp))))
                have ei : icells (xs ++ [y]) = icells xs ++ [.int .i64 y] := by simp [icells]
                exact ⟨⟨k + 1, p2, xs ++ [y], _, by omega, l3, rfl, congrArg (Value.int .i64) (by omega), by simp [hxl], rfl, by rw [ei]; exact hown4, HF, hb4⟩, by simp [intOf]; omega⟩
            · obtain rfl : k = m0 := by omega
              have hki : ¬ (0 : Int) < (k : Int) - k := by omega
              have hown' : wr.ownsRow (w.alloc (.cells #[] 2)).heap.size 2 1 lv xs.length (icells xs) := by rw [hxl]; exact hown
              have hir := IR_of_owns hown'
              have ST := specSuper_any e lv xs wr hir (by omega)
              have HS2 : Hid (supR s = if supOk e xs = true ∧ supT e xs = s then some (e, xs) else none) := (by rw [HS.out, hf.out] : supR s = if supOk e xs = true ∧ supT e xs = s then some (e, xs) else none)
              clear HS hf hown hown'
              go_wp2_with fail
              refine ST.mono ?_
              rintro x w5 ⟨rfl, hb5⟩
              have hbk := bel_after hb hb5
              cases hok : supOk e xs
              · rw [supT_no hok]
                have G : Hid (supR s = none) := (by rw [HS2.out, if_neg (by rw [hok]; simp)] : supR s = none)
                clear hok HS2 ST
                go_wp2
                exact bodyPost_ret (v := .tuple #[.int .i64 0, .slice (some ⟨w.heap.size, 0, none⟩) 0 0]) (by simp [results, Tryz.results59, go_sem]) rfl (NO'.out _ hbk G.out)
              · by_cases hts : supT e xs = s
                · have G : Hid (supR s = some (e, xs)) := (by rw [HS2.out, if_pos ⟨hok, hts⟩] : supR s = some (e, xs))
                  rw [hts]
                  clear hok HS2 ST hts
                  go_wp2
                  exact bodyPost_ret (v := .tuple #[.int .i64 e, lv]) (by simp [results, Tryz.results59, go_sem]) rfl ⟨⟨lv, by rw [G.out]; rfl, by rw [G.out]; exact hir.later hb5⟩, bel_after hb0 hbk⟩
                · have G : Hid (supR s = none) := (by rw [HS2.out, if_neg (fun h => hts h.2)] : supR s = none)
                  have hn := str_ne'' hts
                  clear hok HS2 ST hts
                  go_wp2
                  exact bodyPost_ret (v := .tuple #[.int .i64 0, .slice (some ⟨w.heap.size, 0, none⟩) 0 0]) (by simp [results, Tryz.results59, go_sem]) rfl (NO'.out _ hbk G.out)
        · have hd : decide (0 ≤ n ∧ n ≤ 30) = false := decide_eq_false hn
          rw [if_neg hn] at HS
          clear hn
          go_wp2_with fail
          refine (l1In_any _ _ _ _).mono ?_
          rintro x w3 ⟨rfl, rfl⟩
          rw [hd]
          clear hd
          go_wp2
          exact bodyPost_ret (v := .tuple #[.int .i64 0, .slice (some ⟨w.heap.size, 0, none⟩) 0 0]) (by simp [results, Tryz.results59, go_sem]) rfl (NO'.out _ (Below.refl _ _) HS.out)
  · have h83i : ¬ (s[0].toNat : Int) = 83 := by omega
    have G : Hid (supR s = none) := supR_head (by rw [head_is s hp]; intro e; exact h83 (by rw [Option.some.inj e]; rfl))
    go_enter Tryz.func59, Tryz.ntmps59
    go_wp2
    exact bodyPost_ret (v := .tuple #[.int .i64 0, .slice (some ⟨w.heap.size, 0, none⟩) 0 0]) (by simp [results, Tryz.results59, go_sem]) rfl (NO'.out _ (Below.refl _ _) G.out)

end Go.Proofs.YtjclpbaiiklhcaaGreatDoor

/- The newest superblock of a disk, in plain words. -/
namespace Go.Proofs.YtjclpbaiiklhcaaGreatDoor
open Go.RowKit

def pageAt (ss : List ByteArray) (l : List Int) (i : Nat) : Int × Int × ByteArray × Int := openR (ss.getD (l.getD i 0).toNat ByteArray.empty)
/-- Sector number i of the list holds the page of that number, not younger than e. -/
def soundAt (ss : List ByteArray) (e : Int) (l : List Int) (i : Nat) : Bool := decide ((pageAt ss l i).2.2.2 = 0) && decide ((pageAt ss l i).1 = i) && decide ((pageAt ss l i).2.1 ≤ e)
def soundB (ss : List ByteArray) (e : Int) (l : List Int) (k : Nat) : Bool := (List.range k).all (soundAt ss e l)
def superR (ss : List ByteArray) (s : ByteArray) : Option (Int × List Int) :=
  match supR s with
  | none => none
  | some (e, l) => if soundB ss e l l.length = true then some (e, l) else none
def textAt (ss : List ByteArray) (i : Nat) : ByteArray := ss.getD i ByteArray.empty
def newR (ss : List ByteArray) : Int × List Int :=
  if (orNone (superR ss (textAt ss 0))).1 < (orNone (superR ss (textAt ss 1))).1 then orNone (superR ss (textAt ss 1)) else orNone (superR ss (textAt ss 0))

theorem soundB_succ (ss : List ByteArray) (e : Int) (l : List Int) (k : Nat) : soundB ss e l (k + 1) = (soundB ss e l k && soundAt ss e l k) := by
  unfold soundB
  rw [List.range_succ, List.all_append]
  simp
theorem soundB_false {ss : List ByteArray} {e : Int} {l : List Int} {i n : Nat} (h : soundAt ss e l i = false) (hi : i < n) : soundB ss e l n = false := by
  rw [Bool.eq_false_iff]
  intro hc
  unfold soundB at hc
  rw [List.all_eq_true.1 hc i (List.mem_range.2 hi)] at h
  exact absurd h (by simp)
theorem superR_or (ss : List ByteArray) (s : ByteArray) : orNone (superR ss s) = if soundB ss (orNone (supR s)).1 (orNone (supR s)).2 (orNone (supR s)).2.length = true then orNone (supR s) else (0, []) := by
  unfold superR
  cases h : supR s with
  | none => rfl
  | some x =>
    obtain ⟨e, l⟩ := x
    show orNone (if soundB ss e l l.length = true then some (e, l) else none) = if soundB ss e l l.length = true then (e, l) else (0, [])
    split <;> rfl
theorem or_mem (s : ByteArray) : ∀ i, i < (orNone (supR s)).2.length → 2 ≤ (orNone (supR s)).2.getD i 0 ∧ (orNone (supR s)).2.getD i 0 ≤ 63 := by
  cases h : supR s with
  | none => intro i hi; simp [orNone] at hi
  | some x =>
    obtain ⟨e, l⟩ := x
    intro i hi
    change i < l.length at hi
    have := supOk_mem (supR_is h).1 (l.getD i 0) (by simp [hi])
    exact this
theorem or_len (s : ByteArray) : (orNone (supR s)).2.length ≤ 30 := by
  cases h : supR s with
  | none => simp [orNone]
  | some x => exact (supOk_parts (supR_is h).1).2.2.1
theorem or_pos {s : ByteArray} {e : Int} {l : List Int} (h : supR s = some (e, l)) : 1 ≤ e := (supOk_parts (supR_is h).1).1
/-- A disk's sectors, all of which fit. -/
structure Ss (w : World) (v1 : Value) (ss : List ByteArray) : Prop where
  sr : Disk.SR w v1 ss
  len : ss.length = 64
  fit : ∀ k, k < 64 → (textAt ss k).size ≤ 256
theorem Ss.later {w w' : World} {v : Value} {ss : List ByteArray} (h : Ss w v ss) (hb : Below w.heap.size w w') : Ss w' v ss := ⟨h.sr.later hb, h.len, h.fit⟩

end Go.Proofs.YtjclpbaiiklhcaaGreatDoor
