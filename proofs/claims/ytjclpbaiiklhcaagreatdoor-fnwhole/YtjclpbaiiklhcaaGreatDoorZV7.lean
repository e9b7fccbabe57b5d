import Derived.Test.YtjclpbaiiklhcaaGreatDoorZRead
import Derived.Lib.AtoiTie
import Derived.Lib.ParseIntBTie
import Derived.Lib.IndexMore
import Derived.Lib.IndexBytes
import Derived.Lib.Strings
import Derived.Test.YtjclpbaiiklhcaaGreatDoorZV6
/- l2Field of the model: a number with a ; behind it. -/
namespace Go.Proofs.YtjclpbaiiklhcaaGreatDoor
open Go.RowKit

/-- The first ; from a place on. -/
def semiAt (s : ByteArray) (a : Nat) : Option Nat := ((s.data.toList.drop a).findIdx? (· == 59)).map (· + a)
def fieldN (s : ByteArray) (a most : Nat) : Option (Int × Nat) :=
  match semiAt s a with
  | none => none
  | some i => if numIs (s.extract a i) most = true then some (numV (s.extract a i) most, i + 1) else none
def fieldV (s : ByteArray) (a most : Nat) : Int := match fieldN s a most with | none => 0 | some x => x.1
def fieldP (s : ByteArray) (a most : Nat) : Int := match fieldN s a most with | none => -1 | some x => (x.2 : Int)

theorem drop_get (s : ByteArray) (a j : Nat) (h : a + j < s.size) : ∃ h', (s.data.toList.drop a)[j]'h' = s[a + j] := by
  refine ⟨by rw [List.length_drop, Array.length_toList]; change _ < s.size - a; omega, ?_⟩
  rw [List.getElem_drop, Array.getElem_toList]
  rfl
theorem semiAt_some {s : ByteArray} {a k : Nat} (ha : a ≤ k) (hk : k < s.size) (h : s[k].toNat = 59) (hn : ∀ j (_ : a ≤ j) (h2 : j < k), ¬ (s[j]'(by omega)).toNat = 59) : semiAt s a = some k := by
  unfold semiAt
  have e : (s.data.toList.drop a).findIdx? (· == 59) = some (k - a) := by
    rw [List.findIdx?_eq_some_iff_getElem]
    obtain ⟨h', e'⟩ := drop_get s a (k - a) (by omega)
    refine ⟨h', ?_, fun j hj => ?_⟩
    · rw [e']
      have e3 : s[a + (k - a)]'(by omega) = s[k] := by congr 1; omega
      rw [e3]
      have : s[k] = 59 := UInt8.toNat_inj.1 h
      simp [this]
    · obtain ⟨h2, e2⟩ := drop_get s a j (by omega)
      rw [e2]
      have := hn (a + j) (by omega) (by omega)
      intro e4
      exact this (by have e5 : s[a + j] = 59 := by simpa using e4
                     rw [e5]; rfl)
  rw [e]
  simp
  omega
theorem semiAt_none {s : ByteArray} {a : Nat} (hn : ∀ j (_ : a ≤ j) (h2 : j < s.size), ¬ (s[j]).toNat = 59) : semiAt s a = none := by
  unfold semiAt
  have e : (s.data.toList.drop a).findIdx? (· == 59) = none := by
    rw [List.findIdx?_eq_none_iff]
    intro x hx
    obtain ⟨j, hj, rfl⟩ := List.mem_iff_getElem.1 hx
    have hj2 : a + j < s.size := by rw [List.length_drop, Array.length_toList] at hj; change j < s.size - a at hj; omega
    obtain ⟨h2, e2⟩ := drop_get s a j hj2
    rw [e2]
    have := hn (a + j) (by omega) hj2
    simp
    intro e5
    exact this (by rw [e5]; rfl)
  rw [e]
  rfl

set_option maxRecDepth 100000 in
set_option maxHeartbeats 1000000 in
theorem l2Field_any (s : ByteArray) (a most : Nat) (w : World) (hs : s.size ≤ 1000000000000) (ha : a ≤ s.size) (hm : most ≤ 18) :
    Calls Tryz.prog 84 #[.string s, .int .i64 a, .int .i64 most] w fun x w' => x = .returned (.tuple #[.int .i64 (fieldV s a most), .int .i64 (fieldP s a most)]) ∧ w' = w := by
  go_enter Tryz.func84, Tryz.ntmps84
  go_wp2
  go_loopw [8] (fun kv wr => ∃ k : Nat, a ≤ k ∧ k ≤ s.size ∧ kv = .int .i64 k ∧ Hid (∀ j (_ : a ≤ j) (_ : j < k) (h2 : j < s.size), ¬ (s[j]).toNat = 59) ∧ wr = w) (fun kv _ => s.size - (intOf kv).toNat)
  case atStart => exact ⟨a, Nat.le_refl _, ha, rfl, fun j h1 h2 => absurd h2 (by omega), rfl⟩
  case round =>
    obtain ⟨k, hak, hk, rfl, hn, rfl⟩ := hrel
    by_cases hlt : k < s.size
    · by_cases hb : s[k].toNat = 59
      · have HS : Hid (semiAt s a = some k) := semiAt_some hak hlt hb (fun j h1 h2 => hn.out j h1 h2 (by omega))
        have hbi : (s[k].toNat : Int) = 59 := by omega
        go_wp2_with (fail)
        refine (l2Number_any _ _ _ (by rw [ByteArray.size_extract]; omega) hm).mono ?_
        rintro x w' ⟨rfl, hw'⟩
        rw [hw']
        clear hw' w'
        cases hi : numIs (s.extract a k) most
        · have HI : Hid (numIs (s.extract a k) most = false) := hi
          clear hi
          go_wp2
          exact bodyPost_ret (v := .tuple #[.int .i64 0, .int .i64 (-1)]) (by simp [results, Tryz.results84, go_sem]) rfl ⟨by unfold fieldV fieldP fieldN; rw [HS.out]; simp only [HI.out]; rfl, rfl⟩
        · have HI : Hid (numIs (s.extract a k) most = true) := hi
          clear hi
          go_wp2
          exact bodyPost_ret (v := .tuple #[.int .i64 (numV (s.extract a k) most), .int .i64 ((k : Int) + 1)]) (by simp [results, Tryz.results84, go_sem]) rfl ⟨by unfold fieldV fieldP fieldN; rw [HS.out]; simp only [HI.out]; rfl, rfl⟩
      · have hbi : ¬ (s[k].toNat : Int) = 59 := by omega
        have HN : Hid (∀ j (_ : a ≤ j) (_ : j < k + 1) (h2 : j < s.size), ¬ (s[j]).toNat = 59) := fun j h1 h2 h3 => by
          by_cases e : j = k
          · subst e; exact hb
          · exact hn.out j h1 (by omega) h3
        go_wp2
        exact ⟨⟨k + 1, by omega, by omega, by go_num, HN, trivial⟩, by simp [intOf]; omega⟩
    · obtain rfl : k = s.size := by omega
      have HS : Hid (semiAt s a = none) := semiAt_none (fun j h1 h2 => hn.out j h1 h2 h2)
      go_wp2
      exact bodyPost_ret (v := .tuple #[.int .i64 0, .int .i64 (-1)]) (by simp [results, Tryz.results84, go_sem]) rfl ⟨by unfold fieldV fieldP fieldN; rw [HS.out], rfl⟩

end Go.Proofs.YtjclpbaiiklhcaaGreatDoor

/- What a text opens to, in plain words. -/
namespace Go.Proofs.YtjclpbaiiklhcaaGreatDoor
open Go.RowKit

/-- A number and the ; behind it off the head of a text: the number, and the rest. -/
def cutN (l : List UInt8) (most : Nat) : Option (Int × List UInt8) :=
  match l.findIdx? (· == 59) with
  | none => none
  | some i => if numIs ⟨(l.take i).toArray⟩ most = true then some (numV ⟨(l.take i).toArray⟩ most, l.drop (i + 1)) else none
def formN (l : List UInt8) : Option (Int × Int × Int × List UInt8) :=
  if l.head? = some 80 then
    match cutN (l.drop 1) 9 with
    | none => none
    | some (n, r1) => match cutN r1 9 with
      | none => none
      | some (e, r2) => match cutN r2 10 with
        | none => none
        | some (c, b) => some (n, e, c, b)
  else none
def bytesOf (l : List UInt8) : ByteArray := ⟨l.toArray⟩
/-- Number, epoch, body and code of a text. -/
def openR (s : ByteArray) : Int × Int × ByteArray × Int :=
  if s = ⟨#[]⟩ then (0, 0, ⟨#[]⟩, 1) else
  match formN s.data.toList with
  | none => (0, 0, ⟨#[]⟩, 2)
  | some (n, e, c, b) =>
    if pgOk n e (bytesOf b) = true then
      if crcS (headS n e ++ bytesOf b) = c then (n, e, bytesOf b, 0) else (0, 0, ⟨#[]⟩, 4)
    else (0, 0, ⟨#[]⟩, 3)
def openV (r : Int × Int × ByteArray × Int) : Value := .tuple #[.int .i64 r.1, .int .i64 r.2.1, .string r.2.2.1, .int .i64 r.2.2.2]

theorem numV_range {s : ByteArray} {most : Nat} (hm : most ≤ 18) : -1000000000000000000 ≤ numV s most ∧ numV s most ≤ 1000000000000000000 := by
  cases h : numIs s most
  · rw [numV_not h]; omega
  · rw [numV_is h]
    unfold numIs at h
    simp only [Bool.and_eq_true, decide_eq_true_eq] at h
    have := dsv_full hm h.1.2 h.1.1.2
    split <;> omega
theorem cutN_range {l r : List UInt8} {most : Nat} {n : Int} (hm : most ≤ 18) (h : cutN l most = some (n, r)) : -1000000000000000000 ≤ n ∧ n ≤ 1000000000000000000 ∧ r.length ≤ l.length := by
  unfold cutN at h
  split at h
  · simp at h
  · split at h
    · rename_i i _ _
      simp only [Option.some.injEq, Prod.mk.injEq] at h
      obtain ⟨h1, h2⟩ := h
      have := numV_range (s := ⟨(l.take i).toArray⟩) hm
      rw [← h2, List.length_drop]
      omega
    · simp at h

theorem ext_list (s : ByteArray) (a i : Nat) : s.extract a i = ⟨((s.data.toList.drop a).take (i - a)).toArray⟩ := by
  apply ByteArray.ext
  apply Array.toList_inj.1
  rw [ByteArray.data_extract, Array.toList_extract, List.extract_eq_take_drop]
theorem cut_field (s : ByteArray) (a most : Nat) : cutN (s.data.toList.drop a) most = (fieldN s a most).map (fun x => (x.1, s.data.toList.drop x.2)) := by
  unfold cutN fieldN semiAt
  cases h : (s.data.toList.drop a).findIdx? (· == 59) with
  | none => rfl
  | some i =>
    simp only [Option.map_some]
    rw [ext_list s a (i + a), show i + a - a = i from by omega]
    split
    · simp only [Option.map_some, List.drop_drop]
      rw [show i + a + 1 = a + (i + 1) from by omega]
    · rfl
theorem field_le {s : ByteArray} {a most : Nat} {n : Int} {p : Nat} (h : fieldN s a most = some (n, p)) : p ≤ s.size ∧ a < p := by
  unfold fieldN semiAt at h
  cases hf : (s.data.toList.drop a).findIdx? (· == 59) with
  | none => rw [hf] at h; simp at h
  | some i =>
    rw [hf] at h
    simp only [Option.map_some] at h
    split at h
    · simp only [Option.some.injEq, Prod.mk.injEq] at h
      obtain ⟨h', _⟩ := List.findIdx?_eq_some_iff_getElem.1 hf
      rw [List.length_drop, Array.length_toList] at h'
      change i < s.size - a at h'
      omega
    · simp at h
theorem field_range {s : ByteArray} {a most : Nat} {n : Int} {p : Nat} (hm : most ≤ 18) (h : fieldN s a most = some (n, p)) : -1000000000000000000 ≤ n ∧ n ≤ 1000000000000000000 := by
  have e := cut_field s a most
  rw [h] at e
  have := cutN_range hm e
  omega

end Go.Proofs.YtjclpbaiiklhcaaGreatDoor

/- Numerals: a number's own numeral is read as the number, and a text that is read is the numeral of what it is read as. -/
namespace Go.Proofs.YtjclpbaiiklhcaaGreatDoor
open Go.RowKit

theorem dsv_snoc' (l : List UInt8) (b : UInt8) : dsv (l ++ [b]) = dsv l * 10 + (b.toNat - 48) := by
  unfold dsv
  rw [List.foldl_append]
  rfl
theorem dig_nat (d : Nat) (h : d < 10) : (UInt8.ofNat (48 + d)).toNat = 48 + d := by
  rw [UInt8.toNat_ofNat']
  omega
theorem isDig_of (d : Nat) (h : d < 10) : isDig (UInt8.ofNat (48 + d)) = true := by
  unfold isDig
  rw [dig_nat d h]
  exact decide_eq_true (by omega)
theorem dec_facts : ∀ (k m : Nat), m ≤ k → (Lib.decDigits m).all isDig = true ∧ dsv (Lib.decDigits m) = m ∧ 1 ≤ (Lib.decDigits m).length ∧ ((Lib.decDigits m).head? = some 48 → m = 0)
  | k, m, hk => by
    rw [dec_step]
    unfold pre10
    by_cases h : m / 10 = 0
    · rw [if_pos h, List.nil_append]
      have hm : m % 10 = m := by omega
      refine ⟨by rw [List.all_cons, List.all_nil, Bool.and_true]; exact isDig_of _ (Nat.mod_lt m (by omega)), ?_, by simp, fun e => ?_⟩
      · show 0 * 10 + _ = m
        rw [dig_nat _ (Nat.mod_lt m (by omega))]
        omega
      · simp only [List.head?_cons, Option.some.injEq] at e
        have := congrArg UInt8.toNat e
        rw [dig_nat _ (Nat.mod_lt m (by omega))] at this
        change _ = 48 at this
        omega
    · rw [if_neg h]
      cases k with
      | zero => omega
      | succ k =>
        obtain ⟨i1, i2, i3, i4⟩ := dec_facts k (m / 10) (by omega)
        refine ⟨?_, ?_, by simp, fun e => ?_⟩
        · rw [List.all_append, i1, List.all_cons, List.all_nil, Bool.and_true, Bool.true_and]
          exact isDig_of _ (Nat.mod_lt m (by omega))
        · rw [dsv_snoc', i2, dig_nat _ (Nat.mod_lt m (by omega))]
          omega
        · rw [List.head?_append] at e
          cases hh : (Lib.decDigits (m / 10)).head? with
          | none =>
            rw [List.head?_eq_none_iff] at hh
            rw [hh] at i3
            simp at i3
          | some b =>
            rw [hh] at e
            simp only [Option.some_or] at e
            exact absurd (i4 (by rw [hh]; exact e)) h

theorem head_dig {l : List UInt8} (h : l.all isDig = true) : (l.head? == some 45) = false := by
  cases l with
  | nil => rfl
  | cons b r =>
    simp only [List.all_cons, Bool.and_eq_true] at h
    have hb := h.1
    unfold isDig at hb
    have hb' := of_decide_eq_true hb
    simp
    intro e
    rw [e] at hb'
    change 48 ≤ 45 ∧ _ at hb'
    omega

/-- A number's own numeral is a number of as many digits, and the number that is read is the number. -/
theorem num_itoa (v : Int) (most : Nat) : numIs (itoaB v) most = decide ((bodyN (itoaB v)).length ≤ most) ∧ (numIs (itoaB v) most = true → numV (itoaB v) most = v) := by
  have E : (itoaB v).data.toList = Lib.itoa v := by unfold itoaB; simp
  by_cases hv : v < 0
  · have EL : Lib.itoa v = 45 :: Lib.decDigits v.natAbs := by unfold Lib.itoa; rw [if_pos hv]
    obtain ⟨i1, i2, i3, i4⟩ := dec_facts _ v.natAbs (Nat.le_refl _)
    have hn : negB (itoaB v) = true := by unfold negB; rw [E, EL]; rfl
    have ho : offN (itoaB v) = 1 := by unfold offN; rw [hn]; rfl
    have hb : bodyN (itoaB v) = Lib.decDigits v.natAbs := by unfold bodyN; rw [ho, E, EL]; rfl
    have hh : ((Lib.decDigits v.natAbs).head? == some 48) = false := by
      rw [Bool.eq_false_iff]
      intro e
      have := i4 (by simpa using e)
      omega
    have hi : numIs (itoaB v) most = decide ((bodyN (itoaB v)).length ≤ most) := by
      unfold numIs
      rw [hb, i1, hh]
      simp [i3]
    refine ⟨hi, fun h => ?_⟩
    rw [numV_is h, if_pos hn, hb, i2]
    omega
  · have EL : Lib.itoa v = Lib.decDigits v.toNat := by unfold Lib.itoa; rw [if_neg hv]
    obtain ⟨i1, i2, i3, i4⟩ := dec_facts _ v.toNat (Nat.le_refl _)
    have hn : negB (itoaB v) = false := by unfold negB; rw [E, EL]; exact head_dig i1
    have ho : offN (itoaB v) = 0 := by unfold offN; rw [hn]; rfl
    have hb : bodyN (itoaB v) = Lib.decDigits v.toNat := by unfold bodyN; rw [ho, E, EL]; rfl
    have hz : ((Lib.decDigits v.toNat).head? == some 48 && (false || decide (1 < (itoaB v).size))) = false := by
      rw [Bool.eq_false_iff]
      intro e
      rw [Bool.and_eq_true] at e
      have h0 := i4 (by simpa using e.1)
      have h1 : (itoaB v).size = 1 := by
        show (itoaB v).data.size = 1
        rw [← Array.length_toList, E, EL, h0, Lib.decDigits, dif_pos (by omega)]
        rfl
      rw [h1] at e
      simp at e
    have hi : numIs (itoaB v) most = decide ((bodyN (itoaB v)).length ≤ most) := by
      unfold numIs
      rw [hb, i1, hn, hz]
      simp [i3]
    refine ⟨hi, fun h => ?_⟩
    rw [numV_is h, if_neg (by rw [hn]; simp), hb, i2]
    omega

theorem dsv_pos : ∀ (l : List UInt8), l.all isDig = true → l ≠ [] → l.head? ≠ some 48 → dsv l ≠ 0 := by
  intro l
  cases l with
  | nil => intro _ h; exact absurd rfl h
  | cons b r =>
    intro ha _ hh
    simp only [List.all_cons, Bool.and_eq_true] at ha
    have hb := ha.1
    unfold isDig at hb
    have hb' := of_decide_eq_true hb
    have hne : b.toNat ≠ 48 := fun e => hh (by rw [List.head?_cons]; exact congrArg some (UInt8.toNat_inj.1 e))
    have key : ∀ (r : List UInt8) (c : Nat), c ≠ 0 → r.foldl (fun n b => n * 10 + (b.toNat - 48)) c ≠ 0 := by
      intro r
      induction r with
      | nil => intro c h; exact h
      | cons x t ih => intro c h; exact ih (c * 10 + (x.toNat - 48)) (by omega)
    unfold dsv
    rw [List.foldl_cons]
    exact key r (0 * 10 + (b.toNat - 48)) (by omega)
theorem dec_dsv : ∀ (n : Nat) (l : List UInt8), l.length = n + 1 → l.all isDig = true → (l.head? = some 48 → n = 0) → Lib.decDigits (dsv l) = l
  | n, l, hl, ha, hh => by
    have hne : l ≠ [] := fun e => by rw [e] at hl; simp at hl
    have hsp := List.dropLast_concat_getLast hne
    obtain ⟨r, b, rfl⟩ : ∃ r b, l = r ++ [b] := ⟨_, _, hsp.symm⟩
    rw [List.all_append, Bool.and_eq_true] at ha
    have hb := ha.2
    simp only [List.all_cons, List.all_nil, Bool.and_true] at hb
    unfold isDig at hb
    have hb' := of_decide_eq_true hb
    rw [dsv_snoc', dec_step]
    have e1 : (dsv r * 10 + (b.toNat - 48)) / 10 = dsv r := by omega
    have e2 : UInt8.ofNat (48 + (dsv r * 10 + (b.toNat - 48)) % 10) = b := by
      apply UInt8.toNat_inj.1
      rw [dig_nat _ (by omega)]
      omega
    rw [e1, e2]
    congr 1
    unfold pre10
    cases n with
    | zero =>
      have : r = [] := by
        rw [List.length_append] at hl
        exact List.length_eq_zero_iff.1 (by simpa using hl)
      subst this
      rfl
    | succ n =>
      have hr : r.length = n + 1 := by rw [List.length_append] at hl; simpa using hl
      have hrn : r ≠ [] := fun e => by rw [e] at hr; simp at hr
      have hrh : r.head? ≠ some 48 := fun e => by
        have := hh (by rw [List.head?_append, e]; rfl)
        omega
      rw [if_neg (dsv_pos r ha.1 hrn hrh)]
      exact dec_dsv n r hr ha.1 (fun e => absurd e hrh)

/-- A text that is read is the numeral of what it is read as. -/
theorem itoa_num {s : ByteArray} {most : Nat} (h : numIs s most = true) : itoaB (numV s most) = s := by
  have hV := numV_is h
  unfold numIs at h
  simp only [Bool.and_eq_true, decide_eq_true_eq] at h
  obtain ⟨⟨⟨h1, h2⟩, h3⟩, h4⟩ := h
  have hlen : ∃ n, (bodyN s).length = n + 1 := ⟨(bodyN s).length - 1, by omega⟩
  obtain ⟨n, hn⟩ := hlen
  cases hneg : negB s
  · rw [hneg] at hV h4
    have ho : offN s = 0 := by unfold offN; rw [hneg]; rfl
    have hb : bodyN s = s.data.toList := by unfold bodyN; rw [ho]; rfl
    have hz : (bodyN s).head? = some 48 → n = 0 := fun e => by
      rw [e] at h4
      have : s.size = n + 1 := by
        have := body_len s
        rw [ho] at this
        omega
      simp at h4
      omega
    have hd := dec_dsv n _ hn h3 hz
    rw [hV, if_neg (by simp)]
    unfold itoaB Lib.itoa
    rw [if_neg (by omega), Int.toNat_natCast, hd, hb]
  · rw [hneg] at hV h4
    have ho : offN s = 1 := by unfold offN; rw [hneg]; rfl
    have hz : (bodyN s).head? = some 48 → n = 0 := fun e => by
      rw [e] at h4
      simp at h4
    have hz2 : (bodyN s).head? ≠ some 48 := fun e => by
      rw [e] at h4
      simp at h4
    have hd := dec_dsv n _ hn h3 hz
    have hp := dsv_pos _ h3 (fun e => by rw [e] at hn; simp at hn) hz2
    have hs : s.data.toList = 45 :: bodyN s := by
      unfold bodyN
      rw [ho]
      unfold negB at hneg
      cases hl : s.data.toList with
      | nil => rw [hl] at hneg; simp at hneg
      | cons x r =>
        rw [hl] at hneg
        simp at hneg
        rw [hneg]
        rfl
    rw [hV, if_pos rfl]
    unfold itoaB Lib.itoa
    rw [if_pos (by omega), Int.natAbs_neg, Int.natAbs_natCast, hd, ← hs]

theorem decFrom_dsv : ∀ (l : List UInt8) (c : Nat), l.all isDig = true → Lib.decFrom c l = some (l.foldl (fun n b => n * 10 + (b.toNat - 48)) c)
  | [], _, _ => rfl
  | b :: r, c, h => by
    simp only [List.all_cons, Bool.and_eq_true] at h
    have hb := h.1
    unfold isDig at hb
    have hb' := of_decide_eq_true hb
    unfold Lib.decFrom Lib.digitVal
    rw [if_pos hb']
    exact decFrom_dsv r _ h.2
/-- What the library makes of such a text. -/
theorem parse_num {s : ByteArray} {most : Nat} (hm : most ≤ 17) (h : numIs s most = true) : Lib.parseIntB 64 s.data.toList = .ok (numV s most) := by
  have hV := numV_is h
  unfold numIs at h
  simp only [Bool.and_eq_true, decide_eq_true_eq] at h
  obtain ⟨⟨⟨h1, h2⟩, h3⟩, h4⟩ := h
  have hl := body_len s
  have hsz : s.data.toList.length = s.size := Array.length_toList
  have ho : offN s ≤ 1 := by unfold offN; split <;> omega
  rw [Lib.parseIntB_64, Lib.atoiAll_short _ (by omega)]
  have hd : ∀ l : List UInt8, l ≠ [] → l.all isDig = true → Lib.decNat l = some (dsv l) := fun l hne ha => by
    unfold Lib.decNat
    rw [if_neg (by cases l with | nil => exact absurd rfl hne | cons => simp)]
    exact decFrom_dsv l 0 ha
  have hne : bodyN s ≠ [] := fun e => by rw [e] at h1; simp at h1
  suffices hs : Lib.atoi s.data.toList = some (numV s most) by rw [hs]; rfl
  cases hneg : negB s
  · have ho : offN s = 0 := by unfold offN; rw [hneg]; rfl
    have hb : bodyN s = s.data.toList := by unfold bodyN; rw [ho]; rfl
    rw [hb] at h3 hne
    rw [hV, if_neg (by rw [hneg]; simp), hb]
    have h45 := head_dig h3
    cases hc : s.data.toList with
    | nil => rw [hc] at hne; exact absurd rfl hne
    | cons b r =>
      rw [hc] at h3 hne h45
      have hb3 := h3
      simp only [List.all_cons, Bool.and_eq_true] at hb3
      have hb1 := hb3.1
      unfold isDig at hb1
      have hb1' := of_decide_eq_true hb1
      have h43 : (b == 43) = false := by
        simp
        intro e
        rw [e] at hb1'
        change 48 ≤ 43 ∧ _ at hb1'
        omega
      have h45' : (b == 45) = false := by simpa using h45
      unfold Lib.atoi
      simp only [h45', h43]
      rw [hd _ hne h3]
      rfl
  · have ho : offN s = 1 := by unfold offN; rw [hneg]; rfl
    rw [hV, if_pos hneg]
    unfold negB at hneg
    cases hc : s.data.toList with
    | nil => rw [hc] at hneg; simp at hneg
    | cons b r =>
      have hb : bodyN s = r := by unfold bodyN; rw [ho, hc]; rfl
      rw [hc] at hneg
      have hb45 : b = 45 := by simpa using hneg
      rw [hb] at h3 hne ⊢
      subst hb45
      unfold Lib.atoi
      simp only [beq_self_eq_true, if_true]
      rw [hd _ hne h3]
      rfl
theorem trim_body (s : ByteArray) : Lib.trimPrefix s.data.toList [45] = bodyN s := by
  unfold Lib.trimPrefix Lib.hasPrefix bodyN offN negB
  cases s.data.toList with
  | nil => rfl
  | cons b r =>
    by_cases hb : b = 45
    · subst hb
      rfl
    · have h1 : List.isPrefixOf [45] (b :: r) = false := by
        simp [List.isPrefixOf]
        exact fun e => hb e.symm
      have h2 : (some b == some (45 : UInt8)) = false := by simpa using hb
      rw [h1, List.head?_cons, h2]
      rfl

/-- Where the first ; stands. -/
theorem index_semi : ∀ (l : List UInt8), Lib.indexByte l 59 = match l.findIdx? (· == 59) with | none => -1 | some i => (i : Int) := by
  intro l
  induction l with
  | nil => rfl
  | cons b r ih =>
    unfold Lib.indexByte
    rw [List.findIdx?_cons, ih]
    by_cases hb : (b == 59) = true
    · rw [if_pos hb, if_pos hb]
      rfl
    · rw [if_neg hb, if_neg hb]
      cases hf : r.findIdx? (· == 59) with
      | none => rfl
      | some i =>
        simp only [Option.map_some]
        rw [if_neg (by simp)]
        show (i : Int) + 1 = ((i + 1 : Nat) : Int)
        omega

end Go.Proofs.YtjclpbaiiklhcaaGreatDoor

/- Superblocks read, in plain words. -/
namespace Go.Proofs.YtjclpbaiiklhcaaGreatDoor
open Go.RowKit

/-- So many numbers, each with a ; behind it: they, and the rest. -/
def fieldsN : Nat → List UInt8 → Option (List Int × List UInt8)
  | 0, l => some ([], l)
  | k + 1, l => match cutN l 9 with
    | none => none
    | some (x, r) => match fieldsN k r with
      | none => none
      | some (xs, q) => some (x :: xs, q)
/-- The epoch and the sectors of a superblock's text, if it is one. -/
def supR (s : ByteArray) : Option (Int × List Int) :=
  if s.data.toList.head? = some 83 then
    match cutN (s.data.toList.drop 1) 9 with
    | none => none
    | some (e, r1) => match cutN r1 9 with
      | none => none
      | some (n, r2) =>
        if 0 ≤ n ∧ n ≤ 30 then
          match fieldsN n.toNat r2 with
          | none => none
          | some (xs, _) => if supOk e xs = true ∧ supT e xs = s then some (e, xs) else none
        else none
  else none

theorem fieldsN_len : ∀ (k : Nat) (l q : List UInt8) (xs : List Int), fieldsN k l = some (xs, q) → xs.length = k ∧ q.length ≤ l.length
  | 0, l, q, xs, h => by
    simp only [fieldsN, Option.some.injEq, Prod.mk.injEq] at h
    obtain ⟨rfl, rfl⟩ := h
    simp
  | k + 1, l, q, xs, h => by
    unfold fieldsN at h
    cases hc : cutN l 9 with
    | none => rw [hc] at h; simp at h
    | some x =>
      obtain ⟨v, r⟩ := x
      rw [hc] at h
      simp only at h
      cases hf : fieldsN k r with
      | none => rw [hf] at h; simp at h
      | some y =>
        obtain ⟨ys, q'⟩ := y
        rw [hf] at h
        simp only [Option.some.injEq, Prod.mk.injEq] at h
        obtain ⟨rfl, rfl⟩ := h
        obtain ⟨h1, h2⟩ := fieldsN_len k r q' ys hf
        obtain ⟨_, _, h3⟩ := cutN_range (by omega) hc
        simp
        omega
/-- One more. -/
theorem fieldsN_snoc : ∀ (k : Nat) (l q : List UInt8) (xs : List Int), fieldsN k l = some (xs, q) → fieldsN (k + 1) l = match cutN q 9 with | none => none | some (x, r) => some (xs ++ [x], r)
  | 0, l, q, xs, h => by
    simp only [fieldsN, Option.some.injEq, Prod.mk.injEq] at h
    obtain ⟨rfl, rfl⟩ := h
    unfold fieldsN
    cases cutN l 9 with
    | none => rfl
    | some x => rfl
  | k + 1, l, q, xs, h => by
    unfold fieldsN at h ⊢
    cases hc : cutN l 9 with
    | none => rw [hc] at h; simp at h
    | some x =>
      obtain ⟨v, r⟩ := x
      rw [hc] at h
      simp only at h ⊢
      cases hf : fieldsN k r with
      | none => rw [hf] at h; simp at h
      | some y =>
        obtain ⟨ys, q'⟩ := y
        rw [hf] at h
        simp only [Option.some.injEq, Prod.mk.injEq] at h
        obtain ⟨rfl, rfl⟩ := h
        rw [fieldsN_snoc k r q' ys hf]
        cases cutN q' 9 with
        | none => rfl
        | some z => rfl
theorem fieldsN_none : ∀ (k : Nat) (l : List UInt8), fieldsN k l = none → fieldsN (k + 1) l = none
  | 0, l, h => by simp [fieldsN] at h
  | k + 1, l, h => by
    unfold fieldsN at h ⊢
    cases hc : cutN l 9 with
    | none => rfl
    | some x =>
      obtain ⟨v, r⟩ := x
      rw [hc] at h
      simp only at h ⊢
      cases hf : fieldsN k r with
      | none => rw [fieldsN_none k r hf]
      | some y => rw [hf] at h; simp at h
theorem fieldsN_le {k m : Nat} {l : List UInt8} (h : fieldsN k l = none) (hk : k ≤ m) : fieldsN m l = none := by
  obtain ⟨d, rfl⟩ : ∃ d, m = k + d := ⟨m - k, by omega⟩
  clear hk
  induction d with
  | zero => exact h
  | succ d ih => exact fieldsN_none _ _ ih

/-- No ; stands in a numeral. -/
theorem itoa_semi (v : Int) : ∀ b ∈ (itoaB v).data.toList, (b == 59) = false := by
  intro b hb
  have E : (itoaB v).data.toList = Lib.itoa v := by unfold itoaB; simp
  rw [E] at hb
  have dig : ∀ m : Nat, b ∈ Lib.decDigits m → (b == 59) = false := fun m h => by
    have := List.all_eq_true.1 (dec_facts m m (Nat.le_refl _)).1 b h
    unfold isDig at this
    have h2 := of_decide_eq_true this
    simp
    intro e
    rw [e] at h2
    change _ ∧ 59 ≤ 57 at h2
    omega
  unfold Lib.itoa at hb
  split at hb
  · rcases List.mem_cons.1 hb with rfl | h
    · rfl
    · exact dig _ h
  · exact dig _ hb
theorem find_semi (l r : List UInt8) (h : ∀ b ∈ l, (b == 59) = false) : (l ++ 59 :: r).findIdx? (· == 59) = some l.length := by
  induction l with
  | nil => rfl
  | cons x t ih =>
    rw [List.cons_append, List.findIdx?_cons, if_neg (by rw [h x (List.mem_cons_self ..)]; simp), ih (fun b hb => h b (List.mem_cons_of_mem _ hb))]
    rfl
/-- A numeral with a ; behind it is cut off as its number. -/
theorem cut_itoa (v : Int) (r : List UInt8) (most : Nat) (h : (bodyN (itoaB v)).length ≤ most) : cutN ((itoaB v).data.toList ++ 59 :: r) most = some (v, r) := by
  unfold cutN
  rw [find_semi _ _ (itoa_semi v)]
  simp only
  have e1 : ((itoaB v).data.toList ++ 59 :: r).take (itoaB v).data.toList.length = (itoaB v).data.toList := List.take_left
  have e2 : ((itoaB v).data.toList ++ 59 :: r).drop ((itoaB v).data.toList.length + 1) = r := by
    rw [← List.drop_drop, List.drop_left]
    rfl
  rw [e1, e2]
  have e3 : (⟨(itoaB v).data.toList.toArray⟩ : ByteArray) = itoaB v := by apply ByteArray.ext; simp
  rw [e3]
  obtain ⟨i1, i2⟩ := num_itoa v most
  have hi : numIs (itoaB v) most = true := by rw [i1]; exact decide_eq_true h
  rw [if_pos hi, i2 hi]
theorem body_small (v : Int) (h0 : 0 ≤ v) (h1 : v ≤ 999999999) : (bodyN (itoaB v)).length ≤ 9 := by
  have E : (itoaB v).data.toList = Lib.itoa v := by unfold itoaB; simp
  have EL : Lib.itoa v = Lib.decDigits v.toNat := by unfold Lib.itoa; rw [if_neg (by omega)]
  have := dec_len 8 v.toNat (by omega)
  have hb : (bodyN (itoaB v)).length ≤ (Lib.itoa v).length := by
    unfold bodyN
    rw [E, List.length_drop]
    omega
  rw [EL] at hb
  omega
theorem supL_list (acc : ByteArray) (l : List Int) : (supL acc l).data.toList = acc.data.toList ++ (l.map fun x => (itoaB x).data.toList ++ [59]).flatten := by
  unfold supL
  induction l generalizing acc with
  | nil => simp
  | cons x t ih =>
    rw [List.foldl_cons, ih]
    have : (acc ++ itoaB x ++ semi).data.toList = acc.data.toList ++ ((itoaB x).data.toList ++ [59]) := by
      rw [ByteArray.data_append, ByteArray.data_append, Array.toList_append, Array.toList_append, List.append_assoc]
      rfl
    rw [this, List.map_cons, List.flatten_cons, List.append_assoc]
theorem fields_flat : ∀ (xs : List Int) (r : List UInt8), (∀ x ∈ xs, 0 ≤ x ∧ x ≤ 999999999) → fieldsN xs.length ((xs.map fun x => (itoaB x).data.toList ++ [59]).flatten ++ r) = some (xs, r)
  | [], r, _ => rfl
  | x :: t, r, h => by
    have hx := h x (List.mem_cons_self ..)
    show fieldsN (t.length + 1) _ = _
    unfold fieldsN
    have e : ((x :: t).map fun x => (itoaB x).data.toList ++ [59]).flatten ++ r = (itoaB x).data.toList ++ 59 :: ((t.map fun x => (itoaB x).data.toList ++ [59]).flatten ++ r) := by
      simp [List.append_assoc]
    rw [e, cut_itoa x _ 9 (body_small x hx.1 hx.2)]
    simp only
    rw [fields_flat t r (fun y hy => h y (List.mem_cons_of_mem _ hy))]
theorem supT_list {e : Int} {l : List Int} (h : supOk e l = true) : (supT e l).data.toList = 83 :: ((itoaB e).data.toList ++ 59 :: ((itoaB l.length).data.toList ++ 59 :: ((l.map fun x => (itoaB x).data.toList ++ [59]).flatten ++ (itoaB (crcS (supS e l))).data.toList))) := by
  rw [supT_yes h, ByteArray.data_append, Array.toList_append]
  unfold supS
  rw [supL_list]
  have : (supHead e l.length).data.toList = 83 :: ((itoaB e).data.toList ++ 59 :: ((itoaB l.length).data.toList ++ [59])) := by
    unfold supHead
    rw [ByteArray.data_append, ByteArray.data_append, ByteArray.data_append, ByteArray.data_append, Array.toList_append, Array.toList_append, Array.toList_append, Array.toList_append]
    show [83] ++ _ ++ [59] ++ _ ++ [59] = _
    simp [List.append_assoc]
  rw [this]
  simp [List.append_assoc]
theorem supOk_parts {e : Int} {l : List Int} (h : supOk e l = true) : 1 ≤ e ∧ e ≤ 999999999 ∧ l.length ≤ 30 ∧ rowOk l l.length = true := by
  unfold supOk at h
  simp only [Bool.and_eq_true, decide_eq_true_eq] at h
  exact ⟨h.1.1.1, h.1.1.2, h.1.2, h.2⟩
theorem supOk_mem {e : Int} {l : List Int} (h : supOk e l = true) : ∀ x ∈ l, 2 ≤ x ∧ x ≤ 63 := by
  intro x hx
  obtain ⟨i, hi, rfl⟩ := List.getElem_of_mem hx
  have := goodAt_range (rowOk_mem (supOk_parts h).2.2.2 i hi)
  simpa [hi] using this
/-- A superblock's text read: what it was made of. -/
theorem sup_cuts {e : Int} {l : List Int} (h : supOk e l = true) :
    ∃ r1 r2 q, (supT e l).data.toList.head? = some 83 ∧ cutN ((supT e l).data.toList.drop 1) 9 = some (e, r1) ∧ cutN r1 9 = some ((l.length : Int), r2) ∧ fieldsN l.length r2 = some (l, q) := by
  obtain ⟨h1, h2, h3, _⟩ := supOk_parts h
  rw [supT_list h]
  refine ⟨_, _, _, rfl, cut_itoa e _ 9 (body_small e (by omega) h2), cut_itoa _ _ 9 (body_small _ (by omega) (by omega)), fields_flat l _ (fun x hx => ?_)⟩
  have := supOk_mem h x hx
  omega
theorem supR_supT {e : Int} {l : List Int} (h : supOk e l = true) : supR (supT e l) = some (e, l) := by
  obtain ⟨r1, r2, q, h0, h1, h2, h3⟩ := sup_cuts h
  obtain ⟨_, _, hl, _⟩ := supOk_parts h
  unfold supR
  rw [if_pos h0, h1]
  simp only
  rw [h2]
  simp only
  rw [if_pos (by omega), Int.toNat_natCast, h3]
  simp only
  rw [if_pos ⟨h, trivial⟩]
theorem supR_is {s : ByteArray} {e : Int} {l : List Int} (h : supR s = some (e, l)) : supOk e l = true ∧ supT e l = s := by
  unfold supR at h
  split at h
  · cases h1 : cutN (s.data.toList.drop 1) 9 with
    | none => rw [h1] at h; simp at h
    | some x1 =>
      obtain ⟨e', r1⟩ := x1
      rw [h1] at h
      simp only at h
      cases h2 : cutN r1 9 with
      | none => rw [h2] at h; simp at h
      | some x2 =>
        obtain ⟨n, r2⟩ := x2
        rw [h2] at h
        simp only at h
        split at h
        · cases h3 : fieldsN n.toNat r2 with
          | none => rw [h3] at h; simp at h
          | some x3 =>
            obtain ⟨xs, q⟩ := x3
            rw [h3] at h
            simp only at h
            split at h
            · rename_i hh
              simp only [Option.some.injEq, Prod.mk.injEq] at h
              obtain ⟨rfl, rfl⟩ := h
              exact hh
            · simp at h
        · simp at h
  · simp at h
/-- A text is a superblock's just where it is the text of some. -/
theorem supR_iff {s : ByteArray} {e : Int} {l : List Int} : supR s = some (e, l) ↔ supOk e l = true ∧ supT e l = s :=
  ⟨supR_is, fun ⟨h, k⟩ => k ▸ supR_supT h⟩

end Go.Proofs.YtjclpbaiiklhcaaGreatDoor
