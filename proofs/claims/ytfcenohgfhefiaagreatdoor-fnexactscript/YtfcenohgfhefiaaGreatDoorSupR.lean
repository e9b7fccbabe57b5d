/- Superblocks read, in plain words. -/
import Derived.Test.YtfcenohgfhefiaaGreatDoorSuperP
import Derived.Test.YtfcenohgfhefiaaGreatDoorNumer
namespace Go.Proofs.YtfcenohgfhefiaaGreatDoor
open Go.RowKit

/-- So many numbers, each with a ; behind it: they, and the rest. -/
def fieldsN : Nat → List UInt8 → Option (List Int × List UInt8)
  | 0, l => some ([], l)
  | k + 1, l => match cutN l 9 with
    | none => none
    | some (x, r) => match fieldsN k r with
      | none => none
      | some (xs, q) => some (x :: xs, q)
/-- The epoch and the sectors of a superblock's text, if it is one. -/
def supR (s : ByteArray) : Option (Int × List Int) :=
  if s.data.toList.head? = some 83 then
    match cutN (s.data.toList.drop 1) 9 with
    | none => none
    | some (e, r1) => match cutN r1 9 with
      | none => none
      | some (n, r2) =>
        if 0 ≤ n ∧ n ≤ 30 then
          match fieldsN n.toNat r2 with
          | none => none
          | some (xs, _) => if supOk e xs = true ∧ supT e xs = s then some (e, xs) else none
        else none
  else none

theorem fieldsN_len : ∀ (k : Nat) (l q : List UInt8) (xs : List Int), fieldsN k l = some (xs, q) → xs.length = k ∧ q.length ≤ l.length
  | 0, l, q, xs, h => by
    simp only [fieldsN, Option.some.injEq, Prod.mk.injEq] at h
    obtain ⟨rfl, rfl⟩ := h
    simp
  | k + 1, l, q, xs, h => by
    unfold fieldsN at h
    cases hc : cutN l 9 with
    | none => rw [hc] at h; simp at h
    | some x =>
      obtain ⟨v, r⟩ := x
      rw [hc] at h
      simp only at h
      cases hf : fieldsN k r with
      | none => rw [hf] at h; simp at h
      | some y =>
        obtain ⟨ys, q'⟩ := y
        rw [hf] at h
        simp only [Option.some.injEq, Prod.mk.injEq] at h
        obtain ⟨rfl, rfl⟩ := h
        obtain ⟨h1, h2⟩ := fieldsN_len k r q' ys hf
        obtain ⟨_, _, h3⟩ := cutN_range (by omega) hc
        simp
        omega
/-- One more. -/
theorem fieldsN_snoc : ∀ (k : Nat) (l q : List UInt8) (xs : List Int), fieldsN k l = some (xs, q) → fieldsN (k + 1) l = match cutN q 9 with | none => none | some (x, r) => some (xs ++ [x], r)
  | 0, l, q, xs, h => by
    simp only [fieldsN, Option.some.injEq, Prod.mk.injEq] at h
    obtain ⟨rfl, rfl⟩ := h
    unfold fieldsN
    cases cutN l 9 with
    | none => rfl
    | some x => rfl
  | k + 1, l, q, xs, h => by
    unfold fieldsN at h ⊢
    cases hc : cutN l 9 with
    | none => rw [hc] at h; simp at h
    | some x =>
      obtain ⟨v, r⟩ := x
      rw [hc] at h
      simp only at h ⊢
      cases hf : fieldsN k r with
      | none => rw [hf] at h; simp at h
      | some y =>
        obtain ⟨ys, q'⟩ := y
        rw [hf] at h
        simp only [Option.some.injEq, Prod.mk.injEq] at h
        obtain ⟨rfl, rfl⟩ := h
        rw [fieldsN_snoc k r q' ys hf]
        cases cutN q' 9 with
        | none => rfl
        | some z => rfl
theorem fieldsN_none : ∀ (k : Nat) (l : List UInt8), fieldsN k l = none → fieldsN (k + 1) l = none
  | 0, l, h => by simp [fieldsN] at h
  | k + 1, l, h => by
    unfold fieldsN at h ⊢
    cases hc : cutN l 9 with
    | none => rfl
    | some x =>
      obtain ⟨v, r⟩ := x
      rw [hc] at h
      simp only at h ⊢
      cases hf : fieldsN k r with
      | none => rw [fieldsN_none k r hf]
      | some y => rw [hf] at h; simp at h
theorem fieldsN_le {k m : Nat} {l : List UInt8} (h : fieldsN k l = none) (hk : k ≤ m) : fieldsN m l = none := by
  obtain ⟨d, rfl⟩ : ∃ d, m = k + d := ⟨m - k, by omega⟩
  clear hk
  induction d with
  | zero => exact h
  | succ d ih => exact fieldsN_none _ _ ih

/-- No ; stands in a numeral. -/
theorem itoa_semi (v : Int) : ∀ b ∈ (itoaB v).data.toList, (b == 59) = false := by
  intro b hb
  have E : (itoaB v).data.toList = Lib.itoa v := by unfold itoaB; simp
  rw [E] at hb
  have dig : ∀ m : Nat, b ∈ Lib.decDigits m → (b == 59) = false := fun m h => by
    have := List.all_eq_true.1 (dec_facts m m (Nat.le_refl _)).1 b h
    unfold isDig at this
    have h2 := of_decide_eq_true this
    simp
    intro e
    rw [e] at h2
    change _ ∧ 59 ≤ 57 at h2
    omega
  unfold Lib.itoa at hb
  split at hb
  · rcases List.mem_cons.1 hb with rfl | h
    · rfl
    · exact dig _ h
  · exact dig _ hb
theorem find_semi (l r : List UInt8) (h : ∀ b ∈ l, (b == 59) = false) : (l ++ 59 :: r).findIdx? (· == 59) = some l.length := by
  induction l with
  | nil => rfl
  | cons x t ih =>
    rw [List.cons_append, List.findIdx?_cons, if_neg (by rw [h x (List.mem_cons_self ..)]; simp), ih (fun b hb => h b (List.mem_cons_of_mem _ hb))]
    rfl
/-- A numeral with a ; behind it is cut off as its number. -/
theorem cut_itoa (v : Int) (r : List UInt8) (most : Nat) (h : (bodyN (itoaB v)).length ≤ most) : cutN ((itoaB v).data.toList ++ 59 :: r) most = some (v, r) := by
  unfold cutN
  rw [find_semi _ _ (itoa_semi v)]
  simp only
  have e1 : ((itoaB v).data.toList ++ 59 :: r).take (itoaB v).data.toList.length = (itoaB v).data.toList := List.take_left
  have e2 : ((itoaB v).data.toList ++ 59 :: r).drop ((itoaB v).data.toList.length + 1) = r := by
    rw [← List.drop_drop, List.drop_left]
    rfl
  rw [e1, e2]
  have e3 : (⟨(itoaB v).data.toList.toArray⟩ : ByteArray) = itoaB v := by apply ByteArray.ext; simp
  rw [e3]
  obtain ⟨i1, i2⟩ := num_itoa v most
  have hi : numIs (itoaB v) most = true := by rw [i1]; exact decide_eq_true h
  rw [if_pos hi, i2 hi]
theorem body_small (v : Int) (h0 : 0 ≤ v) (h1 : v ≤ 999999999) : (bodyN (itoaB v)).length ≤ 9 := by
  have E : (itoaB v).data.toList = Lib.itoa v := by unfold itoaB; simp
  have EL : Lib.itoa v = Lib.decDigits v.toNat := by unfold Lib.itoa; rw [if_neg (by omega)]
  have := dec_len 8 v.toNat (by omega)
  have hb : (bodyN (itoaB v)).length ≤ (Lib.itoa v).length := by
    unfold bodyN
    rw [E, List.length_drop]
    omega
  rw [EL] at hb
  omega
theorem supL_list (acc : ByteArray) (l : List Int) : (supL acc l).data.toList = acc.data.toList ++ (l.map fun x => (itoaB x).data.toList ++ [59]).flatten := by
  unfold supL
  induction l generalizing acc with
  | nil => simp
  | cons x t ih =>
    rw [List.foldl_cons, ih]
    have : (acc ++ itoaB x ++ semi).data.toList = acc.data.toList ++ ((itoaB x).data.toList ++ [59]) := by
      rw [ByteArray.data_append, ByteArray.data_append, Array.toList_append, Array.toList_append, List.append_assoc]
      rfl
    rw [this, List.map_cons, List.flatten_cons, List.append_assoc]
theorem fields_flat : ∀ (xs : List Int) (r : List UInt8), (∀ x ∈ xs, 0 ≤ x ∧ x ≤ 999999999) → fieldsN xs.length ((xs.map fun x => (itoaB x).data.toList ++ [59]).flatten ++ r) = some (xs, r)
  | [], r, _ => rfl
  | x :: t, r, h => by
    have hx := h x (List.mem_cons_self ..)
    show fieldsN (t.length + 1) _ = _
    unfold fieldsN
    have e : ((x :: t).map fun x => (itoaB x).data.toList ++ [59]).flatten ++ r = (itoaB x).data.toList ++ 59 :: ((t.map fun x => (itoaB x).data.toList ++ [59]).flatten ++ r) := by
      simp [List.append_assoc]
    rw [e, cut_itoa x _ 9 (body_small x hx.1 hx.2)]
    simp only
    rw [fields_flat t r (fun y hy => h y (List.mem_cons_of_mem _ hy))]
theorem supT_list {e : Int} {l : List Int} (h : supOk e l = true) : (supT e l).data.toList = 83 :: ((itoaB e).data.toList ++ 59 :: ((itoaB l.length).data.toList ++ 59 :: ((l.map fun x => (itoaB x).data.toList ++ [59]).flatten ++ (itoaB (crcS (supS e l))).data.toList))) := by
  rw [supT_yes h, ByteArray.data_append, Array.toList_append]
  unfold supS
  rw [supL_list]
  have : (supHead e l.length).data.toList = 83 :: ((itoaB e).data.toList ++ 59 :: ((itoaB l.length).data.toList ++ [59])) := by
    unfold supHead
    rw [ByteArray.data_append, ByteArray.data_append, ByteArray.data_append, ByteArray.data_append, Array.toList_append, Array.toList_append, Array.toList_append, Array.toList_append]
    show [83] ++ _ ++ [59] ++ _ ++ [59] = _
    simp [List.append_assoc]
  rw [this]
  simp [List.append_assoc]
theorem supOk_parts {e : Int} {l : List Int} (h : supOk e l = true) : 1 ≤ e ∧ e ≤ 999999999 ∧ l.length ≤ 30 ∧ rowOk l l.length = true := by
  unfold supOk at h
  simp only [Bool.and_eq_true, decide_eq_true_eq] at h
  exact ⟨h.1.1.1, h.1.1.2, h.1.2, h.2⟩
theorem supOk_mem {e : Int} {l : List Int} (h : supOk e l = true) : ∀ x ∈ l, 2 ≤ x ∧ x ≤ 63 := by
  intro x hx
  obtain ⟨i, hi, rfl⟩ := List.getElem_of_mem hx
  have := goodAt_range (rowOk_mem (supOk_parts h).2.2.2 i hi)
  simpa [hi] using this
/-- A superblock's text read: what it was made of. -/
theorem sup_cuts {e : Int} {l : List Int} (h : supOk e l = true) :
    ∃ r1 r2 q, (supT e l).data.toList.head? = some 83 ∧ cutN ((supT e l).data.toList.drop 1) 9 = some (e, r1) ∧ cutN r1 9 = some ((l.length : Int), r2) ∧ fieldsN l.length r2 = some (l, q) := by
  obtain ⟨h1, h2, h3, _⟩ := supOk_parts h
  rw [supT_list h]
  refine ⟨_, _, _, rfl, cut_itoa e _ 9 (body_small e (by omega) h2), cut_itoa _ _ 9 (body_small _ (by omega) (by omega)), fields_flat l _ (fun x hx => ?_)⟩
  have := supOk_mem h x hx
  omega
theorem supR_supT {e : Int} {l : List Int} (h : supOk e l = true) : supR (supT e l) = some (e, l) := by
  obtain ⟨r1, r2, q, h0, h1, h2, h3⟩ := sup_cuts h
  obtain ⟨_, _, hl, _⟩ := supOk_parts h
  unfold supR
  rw [if_pos h0, h1]
  simp only
  rw [h2]
  simp only
  rw [if_pos (by omega), Int.toNat_natCast, h3]
  simp only
  rw [if_pos ⟨h, trivial⟩]
theorem supR_is {s : ByteArray} {e : Int} {l : List Int} (h : supR s = some (e, l)) : supOk e l = true ∧ supT e l = s := by
  unfold supR at h
  split at h
  · cases h1 : cutN (s.data.toList.drop 1) 9 with
    | none => rw [h1] at h; simp at h
    | some x1 =>
      obtain ⟨e', r1⟩ := x1
      rw [h1] at h
      simp only at h
      cases h2 : cutN r1 9 with
      | none => rw [h2] at h; simp at h
      | some x2 =>
        obtain ⟨n, r2⟩ := x2
        rw [h2] at h
        simp only at h
        split at h
        · cases h3 : fieldsN n.toNat r2 with
          | none => rw [h3] at h; simp at h
          | some x3 =>
            obtain ⟨xs, q⟩ := x3
            rw [h3] at h
            simp only at h
            split at h
            · rename_i hh
              simp only [Option.some.injEq, Prod.mk.injEq] at h
              obtain ⟨rfl, rfl⟩ := h
              exact hh
            · simp at h
        · simp at h
  · simp at h
/-- A text is a superblock's just where it is the text of some. -/
theorem supR_iff {s : ByteArray} {e : Int} {l : List Int} : supR s = some (e, l) ↔ supOk e l = true ∧ supT e l = s :=
  ⟨supR_is, fun ⟨h, k⟩ => k ▸ supR_supT h⟩

end Go.Proofs.YtfcenohgfhefiaaGreatDoor
