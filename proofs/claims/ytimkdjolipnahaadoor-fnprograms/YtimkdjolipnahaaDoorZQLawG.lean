/- The walk of the law FnPrograms: a program that is read is shown, line by line, as the text that it was. -/
import Derived.Test.YtimkdjolipnahaaDoorZQDrawR
import Derived.Test.YtimkdjolipnahaaDoorZQPgM
namespace Go.Proofs.YtimkdjolipnahaaDoor
open Go.RowKit

/-- The lines of a program. -/
def lnsB : List (Int × Int) → List UInt8
  | [] => []
  | p :: l => (showB p.1 p.2).data.toList ++ 10 :: lnsB l
theorem lns_add : ∀ (l : List (Int × Int)) (p : Int × Int), lnsB (l ++ [p]) = lnsB l ++ ((showB p.1 p.2).data.toList ++ [10])
  | [], p => by simp [lnsB]
  | q :: l, p => by simp [lnsB, lns_add l p]
theorem rd_shows {s : ByteArray} (h : (rdC s).2.2 = true) : showB (rdC s).1 (rdC s).2.1 = s := by
  rcases rdC_spec s with ⟨_, _, h2⟩ | ⟨h1, _⟩
  · exact h2
  · rw [h1] at h
    cases h
theorem pg_lns : ∀ (f : Nat) (l : List UInt8) (acc r : List (Int × Int)), l.length < f → pgF f l acc = (r, -1) → lnsB r = lnsB acc ++ l
  | 0, _, _, _, h, _ => absurd h (Nat.not_lt_zero _)
  | f + 1, l, acc, r, hf, h => by
    by_cases hl : l = []
    · subst hl
      rw [pg_empty] at h
      injection h with h1 _
      rw [h1, List.append_nil]
    · cases hi : l.findIdx? (· == 10) with
      | none =>
        rw [pg_none hl hi] at h
        injection h with _ h2
        omega
      | some i =>
        by_cases hb : (rdC ⟨(l.take i).toArray⟩).2.2 = true ∧ acc.length ≠ 100
        · rw [pg_step hl hi hb] at h
          obtain ⟨hlt, hx, _⟩ := List.findIdx?_eq_some_iff_getElem.1 hi
          have ih := pg_lns f (l.drop (i + 1)) _ r (by rw [List.length_drop]; omega) h
          rw [ih, lns_add, rd_shows hb.1, List.append_assoc]
          congr 1
          have e10 : l[i] = 10 := by simpa using hx
          have : l = l.take i ++ l[i] :: l.drop (i + 1) := by
            rw [← List.drop_eq_getElem_cons hlt, List.take_append_drop]
          conv => rhs; rw [this, e10]
          simp
        · rw [pg_bad hl hi hb] at h
          injection h with _ h2
          omega
theorem pgC_lns {L : List UInt8} {r : List (Int × Int)} (h : pgC L = (r, -1)) : lnsB r = L := by
  have := pg_lns (L.length + 1) L [] r (by omega) h
  simpa [lnsB] using this
theorem pg_ends : ∀ (f : Nat) (l : List UInt8) (acc : List (Int × Int)), (pgF f l acc).2 = -1 ∨ ((pgF f l acc).1 = [] ∧ 0 ≤ (pgF f l acc).2)
  | 0, _, _ => .inl rfl
  | f + 1, l, acc => by
    by_cases hl : l = []
    · subst hl
      rw [pg_empty]
      exact .inl rfl
    · cases hi : l.findIdx? (· == 10) with
      | none =>
        rw [pg_none hl hi]
        exact .inr ⟨rfl, Int.natCast_nonneg _⟩
      | some i =>
        by_cases hb : (rdC ⟨(l.take i).toArray⟩).2.2 = true ∧ acc.length ≠ 100
        · rw [pg_step hl hi hb]
          exact pg_ends f _ _
        · rw [pg_bad hl hi hb]
          exact .inr ⟨rfl, Int.natCast_nonneg _⟩
theorem pg_lenQ : ∀ (f : Nat) (l : List UInt8) (acc : List (Int × Int)), acc.length ≤ 100 → (pgF f l acc).1.length ≤ 100
  | 0, _, _, h => h
  | f + 1, l, acc, h => by
    by_cases hl : l = []
    · subst hl
      rw [pg_empty]
      exact h
    · cases hf : l.findIdx? (· == 10) with
      | none =>
        rw [pg_none hl hf]
        exact Nat.zero_le _
      | some i =>
        by_cases hb : (rdC ⟨(l.take i).toArray⟩).2.2 = true ∧ acc.length ≠ 100
        · rw [pg_step hl hf hb]
          refine pg_lenQ f _ _ ?_
          rw [clen_add]
          omega
        · rw [pg_bad hl hf hb]
          exact Nat.zero_le _
theorem lns_take {l : List (Int × Int)} {k : Nat} (h : k < l.length) : lnsB (l.take (k + 1)) = lnsB (l.take k) ++ ((showB (l.getD k (0, 0)).1 (l.getD k (0, 0)).2).data.toList ++ [10]) := by
  have e : l.take (k + 1) = l.take k ++ [l.getD k (0, 0)] := by
    rw [List.take_succ_eq_append_getElem h]
    simp [List.getD, h]
  rw [e, lns_add]
theorem lns_cat (a : List UInt8) (b : ByteArray) : (⟨a.toArray⟩ ++ b ++ ⟨#[10]⟩ : ByteArray) = ⟨(a ++ (b.data.toList ++ [10])).toArray⟩ := ba_ext (by simp)
theorem lns_size : ∀ l : List (Int × Int), (lnsB l).length ≤ 31 * l.length
  | [] => Nat.le_refl _
  | p :: l => by
    have h1 := lns_size l
    have h2 := show_size p.1 p.2
    have e : (showB p.1 p.2).data.toList.length = (showB p.1 p.2).size := by simp
    unfold lnsB
    rw [List.length_append, List.length_cons, List.length_cons, e]
    omega

set_option maxRecDepth 100000 in
set_option maxHeartbeats 3200000 in
theorem lawPrograms_any (cv : Value) (cs : List UInt8) (w : World) (hc : BR w cv cs) (hE : Env w) :
    Calls Tryd.prog 4 #[cv] w fun e w' => e = .returned (.bool true) ∧ Below w.heap.size w w' := by
  have HE : Hid (Env w) := hE
  have BG := big_any cv cs w hc
  clear hE
  by_cases hbig : 4096 < cs.length
  · rw [decide_eq_true hbig] at BG
    go_enter Tryd.func4, Tryd.ntmps4
    go_wp2_with fail
    refine BG.mono ?_
    rintro x w0 ⟨rfl, rfl⟩
    go_wp2
    go_ret
    exact ⟨rfl, Below.refl _ _⟩
  rw [decide_eq_false hbig] at BG
  go_enter Tryd.func4, Tryd.ntmps4
  go_wp2_with fail
  refine BG.mono ?_
  rintro x w0 ⟨rfl, rfl⟩
  clear BG
  have DS := drawReadProgram_any cv cs w0 hc (by omega)
  have SI := implShow_any
  unfold codeV at SI
  go_wp2_with fail
  refine DS.mono ?_
  rintro x w1 ⟨⟨t, rfl, ht⟩, B1⟩
  clear DS hc hbig
  have hz : t.data.toList.length = t.size := by simp
  have S := fun w => specProg_any t w (by omega)
  have I := fun w h => implProg_any t.data.toList w (by omega) h
  have es : (⟨t.data.toList.toArray⟩ : ByteArray) = t := by simp
  rw [es] at I
  have hn : (pgC t.data.toList).1.length ≤ 100 := pg_lenQ _ _ _ (Nat.zero_le _)
  have PE := pg_ends (t.data.toList.length + 1) t.data.toList []
  have LN : Hid (∀ r, pgC t.data.toList = (r, -1) → lnsB r = t.data.toList) := fun r h => pgC_lns h
  change (pgC t.data.toList).2 = -1 ∨ (pgC t.data.toList).1 = [] ∧ 0 ≤ (pgC t.data.toList).2 at PE
  unfold PgOut at S I
  generalize hpg : pgC t.data.toList = pg at *
  obtain ⟨r, bd⟩ := pg
  replace LN : Hid (bd = -1 → (⟨(lnsB r).toArray⟩ : ByteArray) = t) := (fun h => by rw [LN.out r (by rw [h])])
  clear hpg es hz
  change r.length ≤ 100 at hn
  change bd = -1 ∨ r = [] ∧ 0 ≤ bd at PE
  go_wp2_with fail
  refine (I _ (HE.out.later B1)).mono ?_
  rintro x w2 ⟨⟨v, rfl, hown⟩, hb2⟩
  change w2.ownsRow w1.heap.size 25 2 v r.length (ccells r) at hown
  replace B1 := bel_afterQ B1 hb2
  clear hb2 I
  go_wp2_with fail
  refine (S _).mono ?_
  rintro x w3 ⟨⟨v2, rfl, hown2⟩, hb3⟩
  change w3.ownsRow w2.heap.size 25 2 v2 r.length (ccells r) at hown2
  replace B1 := bel_afterQ B1 hb3
  replace hown := own_laterQ hown hb3
  clear hb3 S
  obtain ⟨a1, c1, rfl, g1⟩ := own_shape hown
  obtain ⟨a2, c2, rfl, _⟩ := own_shape hown2
  clear hown2
  replace hown : Hid (w3.ownsRow w1.heap.size 25 2 (.slice a1 r.length c1) r.length (ccells r)) := hown
  rcases PE with rfl | ⟨rfl, hbd⟩
  · have HT := LN.out rfl
    replace HT : Hid _ := HT
    clear LN
    have HG : Hid (∀ i, i < r.length → (ccells r)[i * 2]? = some (.int .i64 (r.getD i (0, 0)).1) ∧ (ccells r)[i * 2 + 1]? = some (.int .i64 (r.getD i (0, 0)).2)) := fun i h => cc_get r i h
    have HK : Hid (∀ k, k < r.length → lnsB (r.take (k + 1)) = lnsB (r.take k) ++ ((showB (r.getD k (0, 0)).1 (r.getD k (0, 0)).2).data.toList ++ [10])) := fun k h => lns_take h
    have HZ : Hid (∀ k, k ≤ r.length → (lnsB (r.take k)).length ≤ 31 * k) := fun k h => by have := lns_size (r.take k); rw [List.length_take] at this; omega
    have H0 : Hid ((⟨(lnsB (r.take 0)).toArray⟩ : ByteArray) = ⟨#[]⟩) := (rfl : (⟨(lnsB (r.take 0)).toArray⟩ : ByteArray) = ⟨#[]⟩)
    have HR : Hid (lnsB (r.take r.length) = lnsB r) := (by rw [List.take_length] : lnsB (r.take r.length) = lnsB r)
    generalize hL : (fun k => lnsB (r.take k)) = L at *
    replace HK : Hid (∀ k, k < r.length → L (k + 1) = L k ++ ((showB (r.getD k (0, 0)).1 (r.getD k (0, 0)).2).data.toList ++ [10])) := (fun k h => by rw [← hL]; exact HK.out k h)
    replace HZ : Hid (∀ k, k ≤ r.length → (L k).length ≤ 31 * k) := (fun k h => by rw [← hL]; exact HZ.out k h)
    replace H0 : Hid ((⟨(L 0).toArray⟩ : ByteArray) = ⟨#[]⟩) := (by rw [← hL]; exact H0.out : (⟨(L 0).toArray⟩ : ByteArray) = ⟨#[]⟩)
    replace HT : Hid ((⟨(L r.length).toArray⟩ : ByteArray) = t) := (by rw [← hL]; show (⟨(lnsB (r.take r.length)).toArray⟩ : ByteArray) = t; rw [HR.out]; exact HT.out : (⟨(L r.length).toArray⟩ : ByteArray) = t)
    clear hL HR
    generalize hf : (fun i => r.getD i (0, 0)) = f at *
    generalize ccells r = xs at *
    replace HG : Hid (∀ i, i < r.length → xs[i * 2]? = some (.int .i64 (f i).1) ∧ xs[i * 2 + 1]? = some (.int .i64 (f i).2)) := (fun i h => by rw [← hf]; exact HG.out i h)
    replace HK : Hid (∀ k, k < r.length → L (k + 1) = L k ++ ((showB (f k).1 (f k).2).data.toList ++ [10])) := (fun k h => by rw [← hf]; exact HK.out k h)
    clear hf
    generalize r.length = n at *
    go_wp2
    go_loopw [8, 9] (fun sv iv wr => ∃ k : Nat, k ≤ n ∧ iv = .int .i64 k ∧ sv = .string ⟨(L k).toArray⟩ ∧ Below w3.heap.size w3 wr) (fun _ iv _ => n - (intOf iv).toNat)
    case atStart => exact ⟨0, Nat.zero_le _, rfl, by rw [H0.out], Below.refl _ _⟩
    case round =>
      obtain ⟨k, hk, rfl, rfl, hb⟩ := hrel
      by_cases hlt : k < n
      · obtain ⟨b1, rfl⟩ := g1 (by omega)
        have p1 := own_laterQ hown.out hb
        obtain ⟨q0, q1⟩ := HG.out k hlt
        have e0 : wr.cell? ⟨b1, k * 2, none⟩ = some (.int .i64 (f k).1) := by rw [p1.cellAt _ (by omega)]; exact q0
        have e1 : wr.cell? ⟨b1, k * 2 + 1, none⟩ = some (.int .i64 (f k).2) := by rw [p1.cellAt _ (by omega)]; exact q1
        have hki : (k : Int) < n := by omega
        have hl1 := HZ.out k hk
        have hk1 : Hid _ := HK.out k hlt
        have hs := show_size (f k).1 (f k).2
        have TB := (HE.out.later (bel_afterQ B1 hb)).tb
        clear p1 q0 q1 HG HK HZ g1
        generalize (f k).1 = x at *
        generalize (f k).2 = y at *
        have hz : (⟨(L k).toArray⟩ : ByteArray).size = (L k).length := by show (L k).toArray.size = _; rw [List.size_toArray]
        have hcat := lns_cat (L k) (showB x y)
        rw [← hk1.out] at hcat
        have SI2 := SI x y wr TB
        clear SI TB
        generalize (⟨(L k).toArray⟩ : ByteArray) = u at *
        generalize showB x y = sb at *
        have z1 : ¬ 9223372036854775807 < u.size + sb.size := by omega
        have z2 : ¬ 9223372036854775807 < (u ++ sb).size + (⟨#[10]⟩ : ByteArray).size := by rw [ByteArray.size_append]; show ¬ _ < _ + 1; omega
        replace hcat : Hid _ := hcat
        clear hz hk1
        go_wp2_with fail
        refine SI2.mono ?_
        rintro x w4 ⟨rfl, hb4⟩
        replace hb := bel_afterQ hb hb4
        clear hb4 SI2 e0 e1
        go_wp2
        exact ⟨⟨k + 1, by omega, by go_num, by rw [← hcat.out], hb⟩, by simp [intOf]; omega⟩
      · obtain rfl : k = n := by omega
        rw [HT.out]
        have hni : (k : Int) ≤ 100 := by omega
        go_wp2
        go_ret
        exact ⟨rfl, bel_afterQ B1 hb⟩
  · go_wp2
    go_ret
    exact ⟨rfl, B1⟩

end Go.Proofs.YtimkdjolipnahaaDoor
