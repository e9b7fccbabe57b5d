/- Reading a program: ReadProgram of the model. -/
import Derived.Test.YtimkdjolipnahaaDoorZQPg
namespace Go.Proofs.YtimkdjolipnahaaDoor
open Go.RowKit

theorem all_ofm {m : UInt8} {l : List UInt8} (h : ∀ j, j < l.length → l.getD j 0 ≠ m) : l.all (fun x => !(x == m)) = true := by
  rw [List.all_eq_true]
  intro x hx
  obtain ⟨j, hj, rfl⟩ := List.getElem_of_mem hx
  have := h j hj
  rw [getD_at hj] at this
  simpa using this
/-- How far the reading is. -/
def PI (L : List UInt8) (acc : List (Int × Int)) (fr k : Nat) : Prop := fr ≤ k ∧ k ≤ L.length ∧ (∀ j, fr ≤ j → j < k → L.getD j 0 ≠ 10) ∧ ∃ f, L.length - fr ≤ f ∧ pgF (f + 1) (L.drop fr) acc = pgC L
theorem PI.start (L : List UInt8) : PI L [] 0 0 := ⟨Nat.le_refl _, Nat.zero_le _, fun _ _ h => absurd h (Nat.not_lt_zero _), L.length, Nat.le_refl _, rfl⟩
theorem PI.plain {L : List UInt8} {acc : List (Int × Int)} {fr k : Nat} (h : PI L acc fr k) (hk : k < L.length) (hb : L.getD k 0 ≠ 10) : PI L acc fr (k + 1) := by
  obtain ⟨h1, h2, h3, h4⟩ := h
  refine ⟨by omega, hk, fun j h6 h7 => ?_, h4⟩
  by_cases e : j = k
  · rw [e]; exact hb
  · exact h3 j h6 (by omega)
theorem PI.line {L : List UInt8} {acc : List (Int × Int)} {fr k : Nat} (h : PI L acc fr k) (hk : k < L.length) (hb : L.getD k 0 = 10) : lnE (L.drop fr) = true ∧ lnB (L.drop fr) = ⟨((L.drop fr).take (k - fr)).toArray⟩ ∧ lnR (L.drop fr) = L.drop (k + 1) ∧ L.drop fr ≠ [] := by
  obtain ⟨h1, h2, h3, h4⟩ := h
  have e : L.drop fr = (L.drop fr).take (k - fr) ++ 10 :: L.drop (k + 1) := by
    have e1 := (List.take_append_drop (k - fr) (L.drop fr)).symm
    rw [List.drop_drop, show fr + (k - fr) = k from by omega, List.drop_eq_getElem_cons hk] at e1
    rw [getD_at hk] at hb
    rw [hb] at e1
    exact e1
  have ha : ((L.drop fr).take (k - fr)).all (fun x => !(x == 10)) = true := all_ofm fun j hj => by
    have hj' : j < k - fr := by rw [List.length_take] at hj; omega
    rw [take_getD hj', drop_getD]
    exact h3 _ (by omega) (by omega)
  have hc : cutL 10 (L.drop fr) = ((L.drop fr).take (k - fr), L.drop (k + 1), true) := by
    conv => lhs; rw [e]
    exact cut_at ha
  unfold lnE lnB lnR
  rw [hc]
  refine ⟨rfl, rfl, rfl, fun h => ?_⟩
  have := congrArg List.length h
  rw [List.length_drop] at this
  simp at this
  omega
theorem PI.bad {L : List UInt8} {acc : List (Int × Int)} {fr k : Nat} (h : PI L acc fr k) (hk : k < L.length) (hb : L.getD k 0 = 10) (hn : ¬ ((rdC (lnB (L.drop fr))).2.2 = true ∧ acc.length ≠ 100)) : pgC L = ([], (acc.length : Int)) := by
  obtain ⟨e1, _, _, e4⟩ := h.line hk hb
  obtain ⟨h1, h2, h3, f, h4, h5⟩ := h
  rw [← h5]
  exact pg_ln_bad e4 e1 hn
theorem PI.step {L : List UInt8} {acc : List (Int × Int)} {fr k : Nat} (h : PI L acc fr k) (hk : k < L.length) (hb : L.getD k 0 = 10) (hn : (rdC (lnB (L.drop fr))).2.2 = true ∧ acc.length ≠ 100) : PI L (acc ++ [((rdC (lnB (L.drop fr))).1, (rdC (lnB (L.drop fr))).2.1)]) (k + 1) (k + 1) := by
  obtain ⟨e1, _, e3, e4⟩ := h.line hk hb
  obtain ⟨h1, h2, h3, f, h4, h5⟩ := h
  refine ⟨Nat.le_refl _, hk, fun j h6 h7 => by omega, ?_⟩
  rw [pg_ln_step e4 e1 hn, e3] at h5
  cases f with
  | zero => omega
  | succ f => exact ⟨f, by omega, h5⟩
theorem PI.last {L : List UInt8} {acc : List (Int × Int)} {fr : Nat} (h : PI L acc fr L.length) : (fr < L.length → pgC L = ([], (acc.length : Int))) ∧ (¬ fr < L.length → pgC L = (acc, -1)) := by
  obtain ⟨h1, h2, h3, f, h4, h5⟩ := h
  refine ⟨fun hf => ?_, fun hf => ?_⟩
  · rw [← h5]
    refine pg_ln_none (fun h => ?_) ?_
    · have := congrArg List.length h
      rw [List.length_drop] at this
      simp at this
      omega
    · unfold lnE
      rw [cut_none (all_ofm fun j hj => by
        rw [drop_getD]
        rw [List.length_drop] at hj
        exact h3 _ (by omega) (by omega))]
  · have e : L.drop fr = [] := List.drop_eq_nil_of_le (by omega)
    rw [← h5, e]
    exact pg_empty _ _

set_option maxRecDepth 100000 in
set_option maxHeartbeats 2000000 in
theorem specProg_any (s : ByteArray) (w : World) (hs : s.size ≤ 100000000) :
    Calls Tryd.prog 15 #[.string s] w fun e w' => PgOut s.data.toList w.heap.size e w' ∧ Below w.heap.size w w' := by
  have HL : Hid (s.data.toList.length = s.size) := (by simp : s.data.toList.length = s.size)
  have HB : Hid (∀ k (h : k < s.size), s[k] = s.data.toList.getD k 0) := fun k h => byte_at s k h
  have HX : Hid (∀ f k, s.extract f k = ⟨((s.data.toList.drop f).take (k - f)).toArray⟩) := fun f k => ext_mid s f k
  generalize s.data.toList = L at *
  have OF : Hid (∀ l n v w', pgC L = (l, n) → World.ownsRow w' w.heap.size 25 2 v l.length (ccells l) → PgOut L w.heap.size (.returned (.tuple #[v, .int .i64 n])) w') := fun l n v w' h1 h2 => PgOut.of h1 h2
  go_enter Tryd.func15, Tryd.ntmps15
  go_wp2
  go_loopw [2, 3, 4, 5, 6, 7, 8, 9] (fun _ _ ov lv fv iv _ _ wr => ∃ (k fr : Nat) (acc : List (Int × Int)) (v0 : Value), v0 = ov ∧ lv = .int .i64 acc.length ∧ fv = .int .i64 fr ∧ iv = .int .i64 k ∧ acc.length ≤ 100 ∧ Hid (wr.ownsRow w.heap.size 25 2 v0 acc.length (ccells acc)) ∧ Hid (PI L acc fr k) ∧ Below w.heap.size w wr) (fun _ _ _ _ _ iv _ _ _ => s.size - (intOf iv).toNat)
  case atStart => exact ⟨0, 0, [], _, rfl, rfl, rfl, rfl, Nat.zero_le _, World.ownsRow_made _ _ _ (Nat.le_refl _) (Nat.zero_le _) rfl, PI.start L, qbel _ _⟩
  case round =>
    obtain ⟨k, fr, acc, ov, rfl, rfl, rfl, rfl, ha, hown, hI, hb⟩ := hrel
    obtain ⟨va, vc, rfl, _⟩ := own_shape hown.out
    have l1 := hI.out.1
    have l2 := hI.out.2.1
    rw [HL.out] at l2
    have hlo : (acc.length : Int) ≤ 100 := by omega
    by_cases hlt : k < s.size
    · by_cases hbt : L.getD k 0 = 10
      · have hbi : ((s[k].toNat : Int) == 10) = true := by rw [HB.out k hlt, hbt]; rfl
        have hkL : k < L.length := by rw [HL.out]; exact hlt
        obtain ⟨e1, e2, e3, e4⟩ := hI.out.line hkL hbt
        have SR := fun w => specRead_any (s.extract fr k) w (by rw [ByteArray.size_extract]; omega)
        have HZ : Hid ((rdC (s.extract fr k)).2.2 = false ∧ pgC L = ([], (acc.length : Int)) ∨ (rdC (s.extract fr k)).2.2 = true ∧ (acc.length = 100 ∧ pgC L = ([], (acc.length : Int)) ∨ acc.length < 100 ∧ PI L (acc ++ [((rdC (s.extract fr k)).1, (rdC (s.extract fr k)).2.1)]) (k + 1) (k + 1))) := (by
          rw [HX.out, ← e2]
          cases h3 : (rdC (lnB (L.drop fr))).2.2
          · exact .inl ⟨rfl, hI.out.bad hkL hbt (by rw [h3]; simp)⟩
          · refine .inr ⟨rfl, ?_⟩
            by_cases h4 : acc.length = 100
            · exact .inl ⟨h4, hI.out.bad hkL hbt (fun h => h.2 h4)⟩
            · exact .inr ⟨by omega, hI.out.step hkL hbt ⟨h3, h4⟩⟩ : _ ∨ _)
        clear hbt HB e1 e2 e3 e4 hkL hI HX
        unfold codeV at SR
        generalize (rdC (s.extract fr k)).1 = x1 at *
        generalize (rdC (s.extract fr k)).2.1 = x2 at *
        generalize (rdC (s.extract fr k)).2.2 = x3 at *
        go_wp2_with fail
        refine (SR _).mono ?_
        rintro e w1 ⟨rfl, hb1⟩
        have B1 := bel_afterQ hb hb1
        have hownA := own_laterQ hown.out hb1
        clear hb1 SR hb hown
        have k5 := Bk.new w1 #[.int .i64 x1, .int .i64 x2] 25
        replace B1 := B1.alloc B1.size (.cells #[.int .i64 x1, .int .i64 x2] 25)
        replace hownA := hownA.alloc (.cells #[.int .i64 x1, .int .i64 x2] 25)
        rcases HZ.out with ⟨rfl, h4⟩ | ⟨rfl, ⟨h4, h5⟩ | ⟨h4, h5⟩⟩
        · replace h4 : Hid _ := h4
          clear k5 hownA
          go_wp2
          exact bodyPost_ret (v := .tuple #[.slice (some ⟨_, 0, none⟩) 0 0, .int .i64 (acc.length : Int)]) (by simp [results, Tryd.results15, go_sem]) rfl ⟨OF.out [] _ _ _ (h4.out) (World.ownsRow_made _ _ _ B1.size (Nat.zero_le _) rfl), B1.alloc B1.size _⟩
        · replace h5 : Hid _ := h5
          have h4q : ((acc.length : Int) == 100) = true := by simp; omega
          clear k5 h4 hownA
          go_wp2
          exact bodyPost_ret (v := .tuple #[.slice (some ⟨_, 0, none⟩) 0 0, .int .i64 (acc.length : Int)]) (by simp [results, Tryd.results15, go_sem]) rfl ⟨OF.out [] _ _ _ (h5.out) (World.ownsRow_made _ _ _ B1.size (Nat.zero_le _) rfl), B1.alloc B1.size _⟩
        · have h5' : Hid (PI L (acc ++ [(x1, x2)]) (k + 1) (k + 1)) := h5
          have h4q : ((acc.length : Int) == 100) = false := by simp; omega
          have d0 := k5.cell 0 (.int .i64 x1) rfl
          have d1 := k5.cell 1 (.int .i64 x2) rfl
          have k6 := fun W => Bk.new W #[.int .i64 x1, .int .i64 x2] 25
          clear HZ h5 k5
          have hc : ((w1.alloc (.cells #[.int .i64 x1, .int .i64 x2] 25)).alloc (.cells #[.int .i64 x1, .int .i64 x2] 25)).cell? ⟨w1.heap.size + 1, 0, none⟩ = some (.int .i64 x1) ∧ ((w1.alloc (.cells #[.int .i64 x1, .int .i64 x2] 25)).alloc (.cells #[.int .i64 x1, .int .i64 x2] 25)).cell? ⟨w1.heap.size + 1, 1, none⟩ = some (.int .i64 x2) := by
            have k := k6 (w1.alloc (.cells #[.int .i64 x1, .int .i64 x2] 25))
            rw [World.size_alloc] at k
            exact ⟨k.cell 0 _ rfl, k.cell 1 _ rfl⟩
          have hown4 := hownA.alloc (.cells #[.int .i64 x1, .int .i64 x2] 25)
          have hb4 := B1.alloc B1.size (.cells #[.int .i64 x1, .int .i64 x2] 25)
          clear k6 hownA B1
          go_wp2_with (at_builtin; refine app_code _ rfl _ _ rfl w.heap.size _ acc.length _ rfl hown4 _ 1 x1 x2 rfl hc (by omega) hb4.size ?_; intro v5 w5 hown5 hg5; have hb5 := own_grownQ hb4 hown4 hg5; replace hown5 : Hid _ := hown5; clear hown4 hb4 hg5)
          exact ⟨⟨k + 1, k + 1, acc ++ [(x1, x2)], _, rfl, by rw [clen_add]; go_num, by go_num, by go_num, by rw [clen_add]; omega, by rw [clen_add, ccells_add]; exact hown5.out, h5', hb5⟩, by simp [intOf]; omega⟩
      · have hbi : ((s[k].toNat : Int) == 10) = false := by
          rw [HB.out k hlt]
          simp only [beq_eq_false_iff_ne, ne_eq]
          intro e
          exact hbt (UInt8.toNat_inj.1 (by
            have : (10 : UInt8).toNat = 10 := rfl
            omega))
        have hA : Hid (PI L acc fr (k + 1)) := hI.out.plain (by rw [HL.out]; exact hlt) hbt
        clear hbt HB
        go_wp2
        exact ⟨⟨k + 1, fr, acc, _, rfl, rfl, rfl, by go_num, ha, hown, hA, hb⟩, by simp [intOf]; omega⟩
    · obtain rfl : k = s.size := by omega
      have hE : (fr < s.size → pgC L = ([], (acc.length : Int))) ∧ (¬ fr < s.size → pgC L = (acc, -1)) := by
        have := hI.out
        rw [← HL.out] at this ⊢
        exact this.last
      by_cases hf : fr < s.size
      · have h4 : Hid (pgC L = ([], (acc.length : Int))) := hE.1 hf
        have hfi : (fr : Int) < (s.size : Int) := by omega
        clear hE HB hI hown
        go_wp2
        exact bodyPost_ret (v := .tuple #[.slice (some ⟨_, 0, none⟩) 0 0, .int .i64 (acc.length : Int)]) (by simp [results, Tryd.results15, go_sem]) rfl ⟨OF.out [] _ _ _ (h4.out) (World.ownsRow_made _ _ _ hb.size (Nat.zero_le _) rfl), hb.alloc hb.size _⟩
      · have h4 : Hid (pgC L = (acc, -1)) := hE.2 hf
        have hfi : ¬ (fr : Int) < (s.size : Int) := by omega
        clear hE HB hI
        go_wp2
        exact bodyPost_ret (v := .tuple #[.slice va acc.length vc, .int .i64 (-1)]) (by simp [results, Tryd.results15, go_sem]) rfl ⟨OF.out acc (-1) _ _ h4.out hown.out, hb⟩

end Go.Proofs.YtimkdjolipnahaaDoor
