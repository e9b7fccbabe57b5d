/- Numerals: a number's own numeral is read as the number, and a text that is read is the numeral of what it is read as. -/
import Derived.Test.YtimkdjolipnahaaDoorZPage
import Derived.Lib.AtoiTie
import Derived.Lib.ParseIntBTie
import Derived.Lib.IndexMore
import Derived.Lib.IndexBytes
import Derived.Lib.Strings
namespace Go.Proofs.YtimkdjolipnahaaDoor
open Go.RowKit

theorem dsv_snoc' (l : List UInt8) (b : UInt8) : dsv (l ++ [b]) = dsv l * 10 + (b.toNat - 48) := by
  unfold dsv
  rw [List.foldl_append]
  rfl
theorem dig_nat (d : Nat) (h : d < 10) : (UInt8.ofNat (48 + d)).toNat = 48 + d := by
  rw [UInt8.toNat_ofNat']
  omega
theorem isDig_of (d : Nat) (h : d < 10) : isDig (UInt8.ofNat (48 + d)) = true := by
  unfold isDig
  rw [dig_nat d h]
  exact decide_eq_true (by omega)
theorem dec_facts : ∀ (k m : Nat), m ≤ k → (Lib.decDigits m).all isDig = true ∧ dsv (Lib.decDigits m) = m ∧ 1 ≤ (Lib.decDigits m).length ∧ ((Lib.decDigits m).head? = some 48 → m = 0)
  | k, m, hk => by
    rw [dec_step]
    unfold pre10
    by_cases h : m / 10 = 0
    · rw [if_pos h, List.nil_append]
      have hm : m % 10 = m := by omega
      refine ⟨by rw [List.all_cons, List.all_nil, Bool.and_true]; exact isDig_of _ (Nat.mod_lt m (by omega)), ?_, by simp, fun e => ?_⟩
      · show 0 * 10 + _ = m
        rw [dig_nat _ (Nat.mod_lt m (by omega))]
        omega
      · simp only [List.head?_cons, Option.some.injEq] at e
        have := congrArg UInt8.toNat e
        rw [dig_nat _ (Nat.mod_lt m (by omega))] at this
        change _ = 48 at this
        omega
    · rw [if_neg h]
      cases k with
      | zero => omega
      | succ k =>
        obtain ⟨i1, i2, i3, i4⟩ := dec_facts k (m / 10) (by omega)
        refine ⟨?_, ?_, by simp, fun e => ?_⟩
        · rw [List.all_append, i1, List.all_cons, List.all_nil, Bool.and_true, Bool.true_and]
          exact isDig_of _ (Nat.mod_lt m (by omega))
        · rw [dsv_snoc', i2, dig_nat _ (Nat.mod_lt m (by omega))]
          omega
        · rw [List.head?_append] at e
          cases hh : (Lib.decDigits (m / 10)).head? with
          | none =>
            rw [List.head?_eq_none_iff] at hh
            rw [hh] at i3
            simp at i3
          | some b =>
            rw [hh] at e
            simp only [Option.some_or] at e
            exact absurd (i4 (by rw [hh]; exact e)) h

theorem head_dig {l : List UInt8} (h : l.all isDig = true) : (l.head? == some 45) = false := by
  cases l with
  | nil => rfl
  | cons b r =>
    simp only [List.all_cons, Bool.and_eq_true] at h
    have hb := h.1
    unfold isDig at hb
    have hb' := of_decide_eq_true hb
    simp
    intro e
    rw [e] at hb'
    change 48 ≤ 45 ∧ _ at hb'
    omega

/-- A number's own numeral is a number of as many digits, and the number that is read is the number. -/
theorem num_itoa (v : Int) (most : Nat) : numIs (itoaB v) most = decide ((bodyN (itoaB v)).length ≤ most) ∧ (numIs (itoaB v) most = true → numV (itoaB v) most = v) := by
  have E : (itoaB v).data.toList = Lib.itoa v := by unfold itoaB; simp
  by_cases hv : v < 0
  · have EL : Lib.itoa v = 45 :: Lib.decDigits v.natAbs := by unfold Lib.itoa; rw [if_pos hv]
    obtain ⟨i1, i2, i3, i4⟩ := dec_facts _ v.natAbs (Nat.le_refl _)
    have hn : negB (itoaB v) = true := by unfold negB; rw [E, EL]; rfl
    have ho : offN (itoaB v) = 1 := by unfold offN; rw [hn]; rfl
    have hb : bodyN (itoaB v) = Lib.decDigits v.natAbs := by unfold bodyN; rw [ho, E, EL]; rfl
    have hh : ((Lib.decDigits v.natAbs).head? == some 48) = false := by
      rw [Bool.eq_false_iff]
      intro e
      have := i4 (by simpa using e)
      omega
    have hi : numIs (itoaB v) most = decide ((bodyN (itoaB v)).length ≤ most) := by
      unfold numIs
      rw [hb, i1, hh]
      simp [i3]
    refine ⟨hi, fun h => ?_⟩
    rw [numV_is h, if_pos hn, hb, i2]
    omega
  · have EL : Lib.itoa v = Lib.decDigits v.toNat := by unfold Lib.itoa; rw [if_neg hv]
    obtain ⟨i1, i2, i3, i4⟩ := dec_facts _ v.toNat (Nat.le_refl _)
    have hn : negB (itoaB v) = false := by unfold negB; rw [E, EL]; exact head_dig i1
    have ho : offN (itoaB v) = 0 := by unfold offN; rw [hn]; rfl
    have hb : bodyN (itoaB v) = Lib.decDigits v.toNat := by unfold bodyN; rw [ho, E, EL]; rfl
    have hz : ((Lib.decDigits v.toNat).head? == some 48 && (false || decide (1 < (itoaB v).size))) = false := by
      rw [Bool.eq_false_iff]
      intro e
      rw [Bool.and_eq_true] at e
      have h0 := i4 (by simpa using e.1)
      have h1 : (itoaB v).size = 1 := by
        show (itoaB v).data.size = 1
        rw [← Array.length_toList, E, EL, h0, Lib.decDigits, dif_pos (by omega)]
        rfl
      rw [h1] at e
      simp at e
    have hi : numIs (itoaB v) most = decide ((bodyN (itoaB v)).length ≤ most) := by
      unfold numIs
      rw [hb, i1, hn, hz]
      simp [i3]
    refine ⟨hi, fun h => ?_⟩
    rw [numV_is h, if_neg (by rw [hn]; simp), hb, i2]
    omega

theorem dsv_pos : ∀ (l : List UInt8), l.all isDig = true → l ≠ [] → l.head? ≠ some 48 → dsv l ≠ 0 := by
  intro l
  cases l with
  | nil => intro _ h; exact absurd rfl h
  | cons b r =>
    intro ha _ hh
    simp only [List.all_cons, Bool.and_eq_true] at ha
    have hb := ha.1
    unfold isDig at hb
    have hb' := of_decide_eq_true hb
    have hne : b.toNat ≠ 48 := fun e => hh (by rw [List.head?_cons]; exact congrArg some (UInt8.toNat_inj.1 e))
    have key : ∀ (r : List UInt8) (c : Nat), c ≠ 0 → r.foldl (fun n b => n * 10 + (b.toNat - 48)) c ≠ 0 := by
      intro r
      induction r with
      | nil => intro c h; exact h
      | cons x t ih => intro c h; exact ih (c * 10 + (x.toNat - 48)) (by omega)
    unfold dsv
    rw [List.foldl_cons]
    exact key r (0 * 10 + (b.toNat - 48)) (by omega)
theorem dec_dsv : ∀ (n : Nat) (l : List UInt8), l.length = n + 1 → l.all isDig = true → (l.head? = some 48 → n = 0) → Lib.decDigits (dsv l) = l
  | n, l, hl, ha, hh => by
    have hne : l ≠ [] := fun e => by rw [e] at hl; simp at hl
    have hsp := List.dropLast_concat_getLast hne
    obtain ⟨r, b, rfl⟩ : ∃ r b, l = r ++ [b] := ⟨_, _, hsp.symm⟩
    rw [List.all_append, Bool.and_eq_true] at ha
    have hb := ha.2
    simp only [List.all_cons, List.all_nil, Bool.and_true] at hb
    unfold isDig at hb
    have hb' := of_decide_eq_true hb
    rw [dsv_snoc', dec_step]
    have e1 : (dsv r * 10 + (b.toNat - 48)) / 10 = dsv r := by omega
    have e2 : UInt8.ofNat (48 + (dsv r * 10 + (b.toNat - 48)) % 10) = b := by
      apply UInt8.toNat_inj.1
      rw [dig_nat _ (by omega)]
      omega
    rw [e1, e2]
    congr 1
    unfold pre10
    cases n with
    | zero =>
      have : r = [] := by
        rw [List.length_append] at hl
        exact List.length_eq_zero_iff.1 (by simpa using hl)
      subst this
      rfl
    | succ n =>
      have hr : r.length = n + 1 := by rw [List.length_append] at hl; simpa using hl
      have hrn : r ≠ [] := fun e => by rw [e] at hr; simp at hr
      have hrh : r.head? ≠ some 48 := fun e => by
        have := hh (by rw [List.head?_append, e]; rfl)
        omega
      rw [if_neg (dsv_pos r ha.1 hrn hrh)]
      exact dec_dsv n r hr ha.1 (fun e => absurd e hrh)

/-- A text that is read is the numeral of what it is read as. -/
theorem itoa_num {s : ByteArray} {most : Nat} (h : numIs s most = true) : itoaB (numV s most) = s := by
  have hV := numV_is h
  unfold numIs at h
  simp only [Bool.and_eq_true, decide_eq_true_eq] at h
  obtain ⟨⟨⟨h1, h2⟩, h3⟩, h4⟩ := h
  have hlen : ∃ n, (bodyN s).length = n + 1 := ⟨(bodyN s).length - 1, by omega⟩
  obtain ⟨n, hn⟩ := hlen
  cases hneg : negB s
  · rw [hneg] at hV h4
    have ho : offN s = 0 := by unfold offN; rw [hneg]; rfl
    have hb : bodyN s = s.data.toList := by unfold bodyN; rw [ho]; rfl
    have hz : (bodyN s).head? = some 48 → n = 0 := fun e => by
      rw [e] at h4
      have : s.size = n + 1 := by
        have := body_len s
        rw [ho] at this
        omega
      simp at h4
      omega
    have hd := dec_dsv n _ hn h3 hz
    rw [hV, if_neg (by simp)]
    unfold itoaB Lib.itoa
    rw [if_neg (by omega), Int.toNat_natCast, hd, hb]
  · rw [hneg] at hV h4
    have ho : offN s = 1 := by unfold offN; rw [hneg]; rfl
    have hz : (bodyN s).head? = some 48 → n = 0 := fun e => by
      rw [e] at h4
      simp at h4
    have hz2 : (bodyN s).head? ≠ some 48 := fun e => by
      rw [e] at h4
      simp at h4
    have hd := dec_dsv n _ hn h3 hz
    have hp := dsv_pos _ h3 (fun e => by rw [e] at hn; simp at hn) hz2
    have hs : s.data.toList = 45 :: bodyN s := by
      unfold bodyN
      rw [ho]
      unfold negB at hneg
      cases hl : s.data.toList with
      | nil => rw [hl] at hneg; simp at hneg
      | cons x r =>
        rw [hl] at hneg
        simp at hneg
        rw [hneg]
        rfl
    rw [hV, if_pos rfl]
    unfold itoaB Lib.itoa
    rw [if_pos (by omega), Int.natAbs_neg, Int.natAbs_natCast, hd, ← hs]

theorem decFrom_dsv : ∀ (l : List UInt8) (c : Nat), l.all isDig = true → Lib.decFrom c l = some (l.foldl (fun n b => n * 10 + (b.toNat - 48)) c)
  | [], _, _ => rfl
  | b :: r, c, h => by
    simp only [List.all_cons, Bool.and_eq_true] at h
    have hb := h.1
    unfold isDig at hb
    have hb' := of_decide_eq_true hb
    unfold Lib.decFrom Lib.digitVal
    rw [if_pos hb']
    exact decFrom_dsv r _ h.2
/-- What the library makes of such a text. -/
theorem parse_num {s : ByteArray} {most : Nat} (hm : most ≤ 17) (h : numIs s most = true) : Lib.parseIntB 64 s.data.toList = .ok (numV s most) := by
  have hV := numV_is h
  unfold numIs at h
  simp only [Bool.and_eq_true, decide_eq_true_eq] at h
  obtain ⟨⟨⟨h1, h2⟩, h3⟩, h4⟩ := h
  have hl := body_len s
  have hsz : s.data.toList.length = s.size := Array.length_toList
  have ho : offN s ≤ 1 := by unfold offN; split <;> omega
  rw [Lib.parseIntB_64, Lib.atoiAll_short _ (by omega)]
  have hd : ∀ l : List UInt8, l ≠ [] → l.all isDig = true → Lib.decNat l = some (dsv l) := fun l hne ha => by
    unfold Lib.decNat
    rw [if_neg (by cases l with | nil => exact absurd rfl hne | cons => simp)]
    exact decFrom_dsv l 0 ha
  have hne : bodyN s ≠ [] := fun e => by rw [e] at h1; simp at h1
  suffices hs : Lib.atoi s.data.toList = some (numV s most) by rw [hs]; rfl
  cases hneg : negB s
  · have ho : offN s = 0 := by unfold offN; rw [hneg]; rfl
    have hb : bodyN s = s.data.toList := by unfold bodyN; rw [ho]; rfl
    rw [hb] at h3 hne
    rw [hV, if_neg (by rw [hneg]; simp), hb]
    have h45 := head_dig h3
    cases hc : s.data.toList with
    | nil => rw [hc] at hne; exact absurd rfl hne
    | cons b r =>
      rw [hc] at h3 hne h45
      have hb3 := h3
      simp only [List.all_cons, Bool.and_eq_true] at hb3
      have hb1 := hb3.1
      unfold isDig at hb1
      have hb1' := of_decide_eq_true hb1
      have h43 : (b == 43) = false := by
        simp
        intro e
        rw [e] at hb1'
        change 48 ≤ 43 ∧ _ at hb1'
        omega
      have h45' : (b == 45) = false := by simpa using h45
      unfold Lib.atoi
      simp only [h45', h43]
      rw [hd _ hne h3]
      rfl
  · have ho : offN s = 1 := by unfold offN; rw [hneg]; rfl
    rw [hV, if_pos hneg]
    unfold negB at hneg
    cases hc : s.data.toList with
    | nil => rw [hc] at hneg; simp at hneg
    | cons b r =>
      have hb : bodyN s = r := by unfold bodyN; rw [ho, hc]; rfl
      rw [hc] at hneg
      have hb45 : b = 45 := by simpa using hneg
      rw [hb] at h3 hne ⊢
      subst hb45
      unfold Lib.atoi
      simp only [beq_self_eq_true, if_true]
      rw [hd _ hne h3]
      rfl
theorem trim_body (s : ByteArray) : Lib.trimPrefix s.data.toList [45] = bodyN s := by
  unfold Lib.trimPrefix Lib.hasPrefix bodyN offN negB
  cases s.data.toList with
  | nil => rfl
  | cons b r =>
    by_cases hb : b = 45
    · subst hb
      rfl
    · have h1 : List.isPrefixOf [45] (b :: r) = false := by
        simp [List.isPrefixOf]
        exact fun e => hb e.symm
      have h2 : (some b == some (45 : UInt8)) = false := by simpa using hb
      rw [h1, List.head?_cons, h2]
      rfl

/-- Where the first ; stands. -/
theorem index_semi : ∀ (l : List UInt8), Lib.indexByte l 59 = match l.findIdx? (· == 59) with | none => -1 | some i => (i : Int) := by
  intro l
  induction l with
  | nil => rfl
  | cons b r ih =>
    unfold Lib.indexByte
    rw [List.findIdx?_cons, ih]
    by_cases hb : (b == 59) = true
    · rw [if_pos hb, if_pos hb]
      rfl
    · rw [if_neg hb, if_neg hb]
      cases hf : r.findIdx? (· == 59) with
      | none => rfl
      | some i =>
        simp only [Option.map_some]
        rw [if_neg (by simp)]
        show (i : Int) + 1 = ((i + 1 : Nat) : Int)
        omega

end Go.Proofs.YtimkdjolipnahaaDoor
