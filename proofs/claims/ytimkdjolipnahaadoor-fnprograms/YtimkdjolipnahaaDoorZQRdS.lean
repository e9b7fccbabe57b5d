/- Reading a Code: ReadCode of the model. -/
import Derived.Test.YtimkdjolipnahaaDoorZQSplit
namespace Go.Proofs.YtimkdjolipnahaaDoor
open Go.RowKit

theorem rM_list (s : ByteArray) : (rM s).data.toList = (cutL 32 s.data.toList).2.1 := by simp [rM]
theorem sp_parts (s : ByteArray) : (rH s = false ∧ spL s.data.toList = [(rW s).data.toList]) ∨ (rH s = true ∧ spL s.data.toList = (rW s).data.toList :: spL (rM s).data.toList) := by
  rw [rW_list, rM_list]
  unfold rH
  rcases cut_cases s.data.toList with ⟨h1, h2⟩ | ⟨a, r, h1, h2, h3⟩
  · rw [h2]
    exact .inl ⟨rfl, sp_none h1⟩
  · rw [h3]
    exact .inr ⟨rfl, by rw [h1]; exact sp_at h2⟩
theorem sp_one (l : List UInt8) : (l.all (fun x => !(x == 32)) = true ∧ spL l = [l]) ∨ (¬ l.all (fun x => !(x == 32)) = true ∧ 2 ≤ (spL l).length) := by
  rcases cut_cases l with ⟨h1, h2⟩ | ⟨a, r, h1, h2, h3⟩
  · exact .inl ⟨h1, sp_none h1⟩
  · refine .inr ⟨fun h => ?_, ?_⟩
    · rw [h1, List.all_append, Bool.and_eq_true, List.all_cons] at h
      have := h.2
      simp at this
    · rw [h1, sp_at h2]
      cases hr : spL r with
      | nil =>
        cases r with
        | nil => cases hr
        | cons x r =>
          unfold spL at hr
          split at hr
          · cases hr
          · split at hr <;> cases hr
      | cons b c => simp
theorem sp_pos (s : ByteArray) : 1 ≤ (spL s.data.toList).length := by
  rcases sp_parts s with ⟨_, h⟩ | ⟨_, h⟩ <;> rw [h] <;> simp
theorem sp_head (s : ByteArray) : (scells (spL s.data.toList))[0]? = some (.string (rW s)) := by
  rcases sp_parts s with ⟨_, h⟩ | ⟨_, h⟩ <;> rw [h] <;> simp [scells]
theorem sp_second {s : ByteArray} (h2 : (spL s.data.toList).length = 2) : (scells (spL s.data.toList))[1]? = some (.string (rM s)) ∧ rH s = true := by
  rcases sp_parts s with ⟨_, h⟩ | ⟨hh, h⟩
  · rw [h] at h2
    cases h2
  · refine ⟨?_, hh⟩
    rw [h] at h2 ⊢
    rcases sp_one (rM s).data.toList with ⟨_, e⟩ | ⟨_, e⟩
    · rw [e]
      simp [scells]
    · rw [List.length_cons] at h2
      omega
theorem read_many {s : ByteArray} {op : Int} (hp : putL wdP (rW s) = some op) (hb : ¬ (rM s).data.toList.all (fun x => !(x == 32)) = true) : showB op 0 ≠ s ∧ RD s 0 0 false := by
  have hne : showB op 0 ≠ s := by
    intro e
    have hc : cokB op 0 = true := by
      cases h : cokB op 0
      · rw [show_no h] at e
        exact absurd e.symm (read_ne hp)
      · rfl
    have h1 := show_cut hc
    rw [e] at h1
    rw [rM_list, h1] at hb
    split at hb
    · exact hb (itoa_plain 0)
    · exact hb rfl
  refine ⟨hne, ?_⟩
  obtain ⟨h1, h2, h3⟩ := put_wd hp
  exact rd_other (op := op) (n := 0) ⟨h1, h2⟩ (by rw [← rW_list, h3]) (fun m _ e _ => absurd (by
    have e2 : itoaB m = rM s := e
    rw [← e2]
    exact itoa_plain m) hb) (fun _ => rfl) hne
/-- What comes of a text whose word is there. -/
def RdAll (s : ByteArray) (op : Int) : Prop :=
  ((spL s.data.toList).length ≠ 2 ∧ (showB op 0 = s ∧ (rdC s).1 = op ∧ (rdC s).2.1 = 0 ∧ (rdC s).2.2 = true ∨ showB op 0 ≠ s ∧ (rdC s).1 = 0 ∧ (rdC s).2.1 = 0 ∧ (rdC s).2.2 = false)) ∨
  ((spL s.data.toList).length = 2 ∧ (numIs (rM s) 10 = false ∧ (rdC s).1 = 0 ∧ (rdC s).2.1 = 0 ∧ (rdC s).2.2 = false ∨ numIs (rM s) 10 = true ∧ (showB op (numV (rM s) 10) = s ∧ (rdC s).1 = op ∧ (rdC s).2.1 = numV (rM s) 10 ∧ (rdC s).2.2 = true ∨ showB op (numV (rM s) 10) ≠ s ∧ (rdC s).1 = 0 ∧ (rdC s).2.1 = 0 ∧ (rdC s).2.2 = false)))
theorem read_all {s : ByteArray} {op : Int} (ho : 1 ≤ op ∧ op ≤ 20) (hw : wdB op = rW s) : RdAll s op := by
  have hp : putL wdP (rW s) = some op := by rw [← hw]; exact wd_put ho
  have hne := read_ne hp
  by_cases h2 : (spL s.data.toList).length = 2
  · refine .inr ⟨h2, ?_⟩
    have hh := (sp_second h2).2
    cases hi : numIs (rM s) 10
    · exact .inl ⟨rfl, rd_eq (rd_nonum hh hi)⟩
    · refine .inr ⟨rfl, ?_⟩
      by_cases e : showB op (numV (rM s) 10) = s
      · exact .inl ⟨e, rd_eq (rd_shown hne e)⟩
      · exact .inr ⟨e, rd_eq (read_num hp hh e)⟩
  · refine .inl ⟨h2, ?_⟩
    rcases sp_parts s with ⟨hh, h⟩ | ⟨_, h⟩
    · by_cases e : showB op 0 = s
      · exact .inl ⟨e, rd_eq (rd_shown hne e)⟩
      · exact .inr ⟨e, rd_eq (read_bare hp hh e)⟩
    · rw [h, List.length_cons] at h2
      rcases sp_one (rM s).data.toList with ⟨_, e⟩ | ⟨e, _⟩
      · rw [e] at h2
        exact absurd rfl h2
      · obtain ⟨q1, q2⟩ := read_many hp e
        exact .inr ⟨q1, rd_eq q2⟩
theorem read_out {s : ByteArray} (h : ∀ j : Nat, j < 20 → wdB ((j : Int) + 1) ≠ rW s) : RD s 0 0 false := by
  refine read_none ?_
  cases hp : putL wdP (rW s) with
  | none => rfl
  | some op =>
    obtain ⟨h1, h2, h3⟩ := put_wd hp
    exact absurd h3.symm (by
      have := h (op - 1).toNat (by omega)
      rw [show (((op - 1).toNat : Nat) : Int) + 1 = op from by omega] at this
      exact this)

set_option maxRecDepth 100000 in
set_option maxHeartbeats 2000000 in
theorem specRead_any (s : ByteArray) (w : World) (hs : s.size ≤ 100000000) :
    Calls Tryd.prog 12 #[.string s] w fun e w' => e = .returned (.tuple #[codeV (rdC s).1 (rdC s).2.1, .bool (rdC s).2.2]) ∧ Below w.heap.size w w' := by
  have SP := fun w => l12Split_any s w hs
  have SS := fun op n w => specShow_any op n w
  unfold SpOut at SP
  have hms : (rM s).size ≤ 1000000000000 := by
    have := (rW_size s).2
    omega
  have NM := fun w => l2Number_any (rM s) 10 w hms (by omega)
  change ∀ w, Calls _ _ #[_, .int .i64 10] w _ at NM
  have OUT : Hid ((∀ j : Nat, j < 20 → wdB ((j : Int) + 1) ≠ rW s) → (rdC s).1 = 0 ∧ (rdC s).2.1 = 0 ∧ (rdC s).2.2 = false) := fun h => rd_eq (read_out h)
  have ALL : Hid (∀ k : Nat, k < 20 → wdB ((k : Int) + 1) = rW s → RdAll s ((k : Int) + 1)) := fun k hk h => read_all (by omega) h
  have hn1 := sp_pos s
  have HD : Hid ((scells (spL s.data.toList))[0]? = some (.string (rW s))) := sp_head s
  have HT : Hid ((spL s.data.toList).length = 2 → (scells (spL s.data.toList))[1]? = some (.string (rM s))) := fun h => (sp_second h).1
  unfold RdAll at ALL
  unfold codeV at *
  generalize scells (spL s.data.toList) = xs at *
  generalize (spL s.data.toList).length = n at *
  generalize numIs (rM s) 10 = ni at *
  generalize numV (rM s) 10 = nv at *
  generalize rW s = W at *
  generalize rM s = M at *
  generalize (rdC s).1 = x1 at *
  generalize (rdC s).2.1 = x2 at *
  generalize (rdC s).2.2 = x3 at *
  clear hms hs
  go_enter Tryd.func12, Tryd.ntmps12
  have k2 := Bk.new w #[.int .i64 0, .int .i64 0] 25
  go_wp2_with fail
  refine (SP _).mono ?_
  rintro e w1 ⟨⟨v, rfl, hown⟩, hb1⟩
  have B1 := bel_afterQ (qbel w _) hb1
  replace k2 := k2.later hb1
  clear hb1 SP
  rcases hown.2 with ⟨_, e⟩ | ⟨g, cap, cur, e, _⟩
  · omega
  subst e
  have c0 := hown.cellAt 0 (by omega)
  rw [HD.out] at c0
  have c1 : n = 2 → w1.cell? ⟨g, 1, none⟩ = some (.string M) := fun h => by
    rw [hown.cellAt 1 (by omega)]
    exact HT.out h
  clear hown HD HT
  go_wp2_with fail
  refine (l12Words_any _).mono ?_
  rintro e w2 ⟨rfl, kw, hb2⟩
  replace B1 := bel_afterQ B1 hb2
  replace k2 := k2.later hb2
  replace c0 := cell_later hb2 c0
  replace c1 := fun h => cell_later hb2 (c1 h)
  replace k2 : Hid _ := k2
  replace kw : Hid _ := kw
  replace c0 : Hid _ := c0
  replace c1 : Hid _ := c1
  clear hb2
  go_wp2
  go_loopw [3, 6, 7, 8, 9] (fun _ iv _ _ _ wr => ∃ k : Nat, k ≤ 20 ∧ iv = .int .i64 k ∧ Hid (∀ j : Nat, j < k → wdB ((j : Int) + 1) ≠ W) ∧ Hid (Bk wr w.heap.size #[.int .i64 0, .int .i64 0] 25) ∧ Hid (Bk wr w1.heap.size ((wdL.map Value.string).toArray) 9) ∧ Hid (wr.cell? ⟨g, 0, none⟩ = some (.string W)) ∧ Hid (n = 2 → wr.cell? ⟨g, 1, none⟩ = some (.string M)) ∧ Below w.heap.size w wr) (fun _ iv _ _ _ _ => 20 - (intOf iv).toNat)
  case atStart => exact ⟨0, by omega, rfl, fun j h => absurd h (Nat.not_lt_zero _), k2, kw, c0, c1, B1⟩
  case round =>
    obtain ⟨k, hk, rfl, hN, K2, KW, C0, C1, hb⟩ := hrel
    clear k2 kw c0 c1 B1
    have hni : (1 : Int) ≤ n := by omega
    by_cases hlt : k < 20
    · have hki : (k : Int) < 20 := by omega
      have c5 : wr.cell? ⟨w1.heap.size, k, none⟩ = some (.string (wdB ((k : Int) + 1))) := KW.out.cell k _ (wd_cell k hlt)
      have c0 := C0.out
      by_cases hw : wdB ((k : Int) + 1) = W
      · have HA := ALL.out k hlt hw
        replace HA : Hid _ := HA
        have S0 := SS ((k : Int) + 1) 0
        have S1 := SS ((k : Int) + 1) nv
        generalize showB ((k : Int) + 1) 0 = sb0 at HA S0
        generalize showB ((k : Int) + 1) nv = sb1 at HA S1
        rw [hw] at c5
        clear hw SS ALL OUT hN
        go_wp2
        go_quiet (fail)
        have k2 : Bk (wr.drewN nq) _ _ _ := K2.out.later (below_drewQ (Below.refl _ _) nq)
        have c1 : n = 2 → (wr.drewN nq).cell? ⟨g, 1, none⟩ = some (.string M) := fun h => cell_later (below_drewQ (Below.refl _ _) nq) (C1.out h)
        have B3 := below_drewQ hb nq
        clear K2 C1 hb c0 c5 C0 KW
        generalize wr.drewN nq = w3 at *
        have hl2 : w.heap.size ≤ w3.heap.size := B3.size
        have hlt2 := k2.lt
        have hnb : Hid (w.heap.size ≠ w3.heap.size) := (by omega : w.heap.size ≠ w3.heap.size)
        clear hlt2
        have k7 := Bk.new w3 #[.int .i64 ((k : Int) + 1), .int .i64 0] 25
        replace k2 := k2.alloc (.cells #[.int .i64 ((k : Int) + 1), .int .i64 0] 25)
        replace c1 := fun h => cell_later (qbel w3 (.cells #[.int .i64 ((k : Int) + 1), .int .i64 0] 25)) (c1 h)
        replace B3 := B3.alloc B3.size (.cells #[.int .i64 ((k : Int) + 1), .int .i64 0] 25)
        rcases HA.out with ⟨h2, hx⟩ | ⟨h2, hx⟩
        · have h2q : ((n : Int) == 2) = false := by simp; omega
          replace hx : Hid _ := hx
          clear c1 HA h2 NM
          have d0 : (w3.alloc (.cells #[.int .i64 ((k : Int) + 1), .int .i64 0] 25)).cell? ⟨w3.heap.size, 0, none⟩ = some (.int .i64 ((k : Int) + 1)) := k7.cell 0 _ rfl
          have d1 : (w3.alloc (.cells #[.int .i64 ((k : Int) + 1), .int .i64 0] 25)).cell? ⟨w3.heap.size, 1, none⟩ = some (.int .i64 0) := k7.cell 1 _ rfl
          go_wp2_with fail
          refine (S0 _).mono ?_
          rintro e w4 ⟨rfl, hb4⟩
          have B4 := bel_afterQ B3 hb4
          replace k2 := k2.later hb4
          replace k7 := k7.later hb4
          clear hb4 B3 S0 S1 d0 d1
          rcases hx.out with ⟨rfl, rfl, rfl, rfl⟩ | ⟨hn, rfl, rfl, rfl⟩
          · have d0 : w4.cell? ⟨w3.heap.size, 0, none⟩ = some (.int .i64 ((k : Int) + 1)) := k7.cell 0 _ rfl
            have d1 : w4.cell? ⟨w3.heap.size, 1, none⟩ = some (.int .i64 0) := k7.cell 1 _ rfl
            obtain ⟨w9, hrun, k9, hg9, _⟩ := k2.store 25 #[.int .i64 ((k : Int) + 1), .int .i64 0] rfl (by kernel_rfl) (by kernel_rfl)
            have r0 : w9.cell? ⟨w.heap.size, 0, none⟩ = some (.int .i64 ((k : Int) + 1)) := k9.cell 0 _ rfl
            have r1 : w9.cell? ⟨w.heap.size, 1, none⟩ = some (.int .i64 0) := k9.cell 1 _ rfl
            clear k9
            go_wp2_with (refine store_q hrun rfl _ _ rfl rfl rfl rfl ?_)
            exact bodyPost_ret (v := .tuple #[.agg #[.int .i64 ((k : Int) + 1), .int .i64 0], .bool true]) (by simp [results, Tryd.results12, go_sem, r0, r1]) rfl ⟨rfl, bel_set B4 hg9 (Nat.le_refl _)⟩
          · replace hn := str_ne' hn
            obtain ⟨w9, hrun, k9, hg9, _⟩ := k2.store 25 #[.int .i64 0, .int .i64 0] rfl (by kernel_rfl) (by kernel_rfl)
            have r0 : w9.cell? ⟨w.heap.size, 0, none⟩ = some (.int .i64 0) := k9.cell 0 _ rfl
            have r1 : w9.cell? ⟨w.heap.size, 1, none⟩ = some (.int .i64 0) := k9.cell 1 _ rfl
            clear k9
            go_wp2_with (refine store_q hrun rfl _ _ rfl rfl rfl rfl ?_)
            exact bodyPost_ret (v := .tuple #[.agg #[.int .i64 0, .int .i64 0], .bool false]) (by simp [results, Tryd.results12, go_sem, r0, r1]) rfl ⟨rfl, bel_set B4 hg9 (Nat.le_refl _)⟩
        · subst h2
          have d2 := c1 rfl
          replace hx : Hid _ := hx
          clear c1 HA S0
          go_wp2_with fail
          refine (NM _).mono ?_
          rintro e w5 ⟨rfl, rfl⟩
          have f1 := k7.frozen 1
          have d1 := k7.cell 1 (.int .i64 0) rfl
          have hst := store_one f1 d1 (v := nv)
          have B6 := B3.setCell (p := ⟨w3.heap.size, 1, none⟩) hl2 (.int .i64 nv)
          have k2' := k2.setOff hnb.out 1 (.int .i64 nv)
          have k7' : Bk _ w3.heap.size #[.int .i64 ((k : Int) + 1), .int .i64 nv] 25 := k7.set 1 (.int .i64 nv)
          clear d2 NM
          rcases hx.out with ⟨rfl, rfl, rfl, rfl⟩ | ⟨rfl, hx2⟩
          · clear hst B6 k2' k7' f1 d1 S1
            obtain ⟨w9, hrun, k9, hg9, _⟩ := k2.store 25 #[.int .i64 0, .int .i64 0] rfl (by kernel_rfl) (by kernel_rfl)
            have r0 : w9.cell? ⟨w.heap.size, 0, none⟩ = some (.int .i64 0) := k9.cell 0 _ rfl
            have r1 : w9.cell? ⟨w.heap.size, 1, none⟩ = some (.int .i64 0) := k9.cell 1 _ rfl
            clear k9
            go_wp2_with (refine store_q hrun rfl _ _ rfl rfl rfl rfl ?_)
            exact bodyPost_ret (v := .tuple #[.agg #[.int .i64 0, .int .i64 0], .bool false]) (by simp [results, Tryd.results12, go_sem, r0, r1]) rfl ⟨rfl, bel_set B3 hg9 (Nat.le_refl _)⟩
          · clear hx
            have hx : Hid _ := hx2
            clear hx2 f1 d1 B3 k2 k7
            generalize (w3.alloc (.cells #[.int .i64 ((k : Int) + 1), .int .i64 0] 25)).setCell ⟨w3.heap.size, 1, none⟩ (.int .i64 nv) = w6 at *
            have d0 : w6.cell? ⟨w3.heap.size, 0, none⟩ = some (.int .i64 ((k : Int) + 1)) := k7'.cell 0 _ rfl
            have d1 : w6.cell? ⟨w3.heap.size, 1, none⟩ = some (.int .i64 nv) := k7'.cell 1 _ rfl
            have k2 := k2'
            have k7 := k7'
            have B3 := B6
            clear k2' k7' B6
            go_wp2_with (refine store_q hst rfl _ _ rfl rfl rfl rfl ?_)
            refine (S1 _).mono ?_
            rintro e w4 ⟨rfl, hb4⟩
            have B4 := bel_afterQ B3 hb4
            replace k2 := k2.later hb4
            replace k7 := k7.later hb4
            clear hb4 B3 S1 d0 d1
            rcases hx.out with ⟨rfl, rfl, rfl, rfl⟩ | ⟨hn, rfl, rfl, rfl⟩
            · have d0 : w4.cell? ⟨w3.heap.size, 0, none⟩ = some (.int .i64 ((k : Int) + 1)) := k7.cell 0 _ rfl
              have d1 : w4.cell? ⟨w3.heap.size, 1, none⟩ = some (.int .i64 x2) := k7.cell 1 _ rfl
              obtain ⟨w9, hrun, k9, hg9, _⟩ := k2.store 25 #[.int .i64 ((k : Int) + 1), .int .i64 x2] rfl (by kernel_rfl) (by kernel_rfl)
              have r0 : w9.cell? ⟨w.heap.size, 0, none⟩ = some (.int .i64 ((k : Int) + 1)) := k9.cell 0 _ rfl
              have r1 : w9.cell? ⟨w.heap.size, 1, none⟩ = some (.int .i64 x2) := k9.cell 1 _ rfl
              clear k9
              go_wp2_with (refine store_q hrun rfl _ _ rfl rfl rfl rfl ?_)
              exact bodyPost_ret (v := .tuple #[.agg #[.int .i64 ((k : Int) + 1), .int .i64 x2], .bool true]) (by simp [results, Tryd.results12, go_sem, r0, r1]) rfl ⟨rfl, bel_set B4 hg9 (Nat.le_refl _)⟩
            · replace hn := str_ne' hn
              obtain ⟨w9, hrun, k9, hg9, _⟩ := k2.store 25 #[.int .i64 0, .int .i64 0] rfl (by kernel_rfl) (by kernel_rfl)
              have r0 : w9.cell? ⟨w.heap.size, 0, none⟩ = some (.int .i64 0) := k9.cell 0 _ rfl
              have r1 : w9.cell? ⟨w.heap.size, 1, none⟩ = some (.int .i64 0) := k9.cell 1 _ rfl
              clear k9
              go_wp2_with (refine store_q hrun rfl _ _ rfl rfl rfl rfl ?_)
              exact bodyPost_ret (v := .tuple #[.agg #[.int .i64 0, .int .i64 0], .bool false]) (by simp [results, Tryd.results12, go_sem, r0, r1]) rfl ⟨rfl, bel_set B4 hg9 (Nat.le_refl _)⟩
      · have hq := str_ne' hw
        have hN' : Hid (∀ j : Nat, j < k + 1 → wdB ((j : Int) + 1) ≠ W) := fun j hj => by
          by_cases e : j = k
          · rw [e]; exact hw
          · exact hN.out j (by omega)
        clear hw SS ALL OUT hN NM
        go_wp2
        go_quiet (fail)
        go_wp2
        exact ⟨⟨k + 1, by omega, by go_num, hN', K2.out.later (below_drewQ (Below.refl _ _) _), KW.out.later (below_drewQ (Below.refl _ _) _), cell_later (below_drewQ (Below.refl _ _) _) C0.out, fun h => cell_later (below_drewQ (Below.refl _ _) _) (C1.out h), below_drewQ hb _⟩, by simp [intOf]; omega⟩
    · obtain rfl : k = 20 := by omega
      obtain ⟨rfl, rfl, rfl⟩ := OUT.out hN.out
      have k2 := K2.out
      clear SS ALL NM hN C0 C1 KW K2
      obtain ⟨w9, hrun, k9, hg9, _⟩ := k2.store 25 #[.int .i64 0, .int .i64 0] rfl (by kernel_rfl) (by kernel_rfl)
      have r0 : w9.cell? ⟨w.heap.size, 0, none⟩ = some (.int .i64 0) := k9.cell 0 _ rfl
      have r1 : w9.cell? ⟨w.heap.size, 1, none⟩ = some (.int .i64 0) := k9.cell 1 _ rfl
      clear k9
      go_wp2_with (refine store_q hrun rfl _ _ rfl rfl rfl rfl ?_)
      exact bodyPost_ret (v := .tuple #[.agg #[.int .i64 0, .int .i64 0], .bool false]) (by simp [results, Tryd.results12, go_sem, r0, r1]) rfl ⟨rfl, bel_set hb hg9 (Nat.le_refl _)⟩

end Go.Proofs.YtimkdjolipnahaaDoor
