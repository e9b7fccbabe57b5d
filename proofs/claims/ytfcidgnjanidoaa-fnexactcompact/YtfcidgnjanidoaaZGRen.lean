/- renamed of the program: words with each address changed for the one that it has in a map. -/
import Derived.Test.YtfcidgnjanidoaaZGTour
import Derived.Laws.MakeOwn
namespace Go.Proofs.Ytfcidgnjanidoaa
open Go.RowKit Go.Maps

/-- A word with its address changed. -/
def rnM (f : Int → Option Int) (x : Int) : Int := if isK 2 x = true then 2 * (f (x / 2)).getD 0 + 1 else x
theorem make_cap (n B : Nat) (hn : n ≤ 100000000000) (w : World) (hB : B ≤ w.heap.size) : ∃ w', (Instr.makeSlice 22 (.int .i64 0) (.int .i64 (n : Int))).run Try.prog w = .ok (.slice (some ⟨w.heap.size, 0, none⟩) 0 n) w' ∧ w'.ownsRow B 2 1 (.slice (some ⟨w.heap.size, 0, none⟩) 0 n) 0 [] ∧ Below w.heap.size w w' := by
  obtain ⟨i, hi, hzz⟩ := Option.map_eq_some_iff.1 Try.infoI
  simp only [Prod.mk.injEq] at hzz
  obtain ⟨hz, hsz, hby⟩ := hzz
  obtain ⟨w', h1, h2, h3⟩ := run_make_own (P := Try.prog) w B 22 2 i _ 1 Try.underlying22 hi hz hsz .i64 .i64 n (by rw [hby]; omega) (by unfold maxLen; omega) hB
  exact ⟨w', h1, h2, ⟨h3.os, h3.tape, h3.output, h3.size, fun k hk => h3.block k hk (by simp)⟩⟩

set_option maxRecDepth 100000 in
set_option maxHeartbeats 1600000 in
theorem renamed_any (v : Value) (ws : List Int) (M n : Nat) (f : Int → Option Int) (w : World) (hv : IR w v ws) (hm : MP w M n f) (hl : ws.length ≤ 100000000) (hf : ∀ x, x ∈ ws → isK 2 x = true → 0 ≤ (f (x / 2)).getD 0 ∧ (f (x / 2)).getD 0 ≤ 3199) :
    Calls Try.prog 43 #[v, .map (some M)] w fun e w' => (∃ v', e = .returned v' ∧ w'.ownsRow w.heap.size 2 1 v' ws.length (icells (ws.map (rnM f)))) ∧ Below w.heap.size w w' := by
  obtain ⟨va, vc, rfl, _, hvc⟩ := id hv
  obtain ⟨wm, hrun, hown, hbm⟩ := make_cap ws.length w.heap.size (by omega) w (Nat.le_refl _)
  have HOW : Hid (wm.ownsRow w.heap.size 2 1 (.slice (some ⟨w.heap.size, 0, none⟩) 0 ws.length) 0 []) := hown
  clear hown
  go_enter Try.func43, Try.ntmps43
  go_wp2
  go_loopw [5, 15] (fun ovv iv wr => ∃ (j : Nat) (ov : Value), j ≤ ws.length ∧ iv = .int .i64 j ∧ ov = ovv ∧ wr.ownsRow w.heap.size 2 1 ov j (icells ((ws.take j).map (rnM f))) ∧ Below w.heap.size w wr) (fun _ iv _ => ws.length - (intOf iv).toNat)
  case atStart => exact ⟨0, _, Nat.zero_le _, rfl, rfl, HOW.out, hbm⟩
  case round =>
    obtain ⟨j, ov, hj, rfl, rfl, ho, hb⟩ := hrel
    by_cases hjl : j < ws.length
    · obtain ⟨vb, vo, rfl, hcw⟩ := hvc j hjl
      have hcr := cell_later hb hcw
      have TS : Hid ((ws.take (j + 1)).map (rnM f) = (ws.take j).map (rnM f) ++ [rnM f (ws.getD j 0)]) := (by rw [itake_snoc _ _ hjl]; simp : (ws.take (j + 1)).map (rnM f) = (ws.take j).map (rnM f) ++ [rnM f (ws.getD j 0)])
      have hfx := hf (ws.getD j 0) (by simp [hjl])
      have RN : Hid (rnM f (ws.getD j 0) = if isK 2 (ws.getD j 0) = true then 2 * (f (ws.getD j 0 / 2)).getD 0 + 1 else ws.getD j 0) := rfl
      generalize rnM f (ws.getD j 0) = y at *
      generalize ws.getD j 0 = x at *
      have hji : (j : Int) < ws.length := by omega
      have hsz := hb.size
      clear hcw hvc hf hrun HOW
      have FIN : Hid (∀ (z : Int) (w3 : World) v3, y = z → w3.ownsRow w.heap.size 2 1 v3 (j + 1) (icells ((ws.take j).map (rnM f)) ++ [.int .i64 z]) → (wr.alloc (.cells #[.int .i64 z] 2)).grownBy w3 ov.ownBlock → w3.ownsRow w.heap.size 2 1 v3 (j + 1) (icells ((ws.take (j + 1)).map (rnM f))) ∧ Below w.heap.size w w3) := fun z w3 v3 e q1 q2 => by
        subst e
        refine ⟨by rw [TS.out]; simpa [icells] using q1, ?_⟩
        exact (hb.trans (bel_one wr _ |>.mono hb.size)).trans ((Grew.grown q2).below (by simp; omega) fun k _ e => (ho.lt k e).1)
      cases hx : isK 2 x
      · rw [hx] at RN
        have RN' : Hid (y = x) := RN
        clear RN hfx TS
        have al := bel_one wr (.cells #[.int .i64 x] 2)
        have ho2 := own_later ho al
        have hc : ∀ W : World, (W.alloc (.cells #[.int .i64 x] 2)).cell? ⟨W.heap.size, 0, none⟩ = some (.int .i64 x) := fun W => by simp
        go_wp2_with (first
          | (go_at_call 56; refine (implRefOf_any _ _).mono ?_; rintro e w' ⟨rfl, hw'⟩; obtain rfl := hw'.symm; rw [hx])
          | (at_builtin; refine app_at _ rfl _ _ rfl w.heap.size _ j (icells ((ws.take j).map (rnM f))) rfl ho2 _ 1 x rfl (hc _) (by omega) (Nat.le_trans hsz (by simp)) ?_; intro v4 w4 hown4 hg4 hloc; have SF := FIN.out x w4 v4 RN'.out hown4 hg4))
        exact ⟨⟨j + 1, v4, by omega, by go_num, rfl, SF.1, SF.2⟩, by simp [intOf]; omega⟩
      · rw [hx] at RN
        have RN' : Hid (y = 2 * (f (x / 2)).getD 0 + 1) := RN
        have hval := valK_yes hx
        obtain ⟨y1, y2⟩ := hfx hx
        obtain ⟨a, ha, hat, hva⟩ := refOf_fit hx
        have e2 : x / 2 = (a : Int) := by rw [← hva, hval]
        rw [e2] at RN' y1 y2 hval
        have a64 : In64 (a : Int) := ⟨by omega, by omega⟩
        have hmr := hm.later hb
        clear RN hfx TS e2 hat hva
        have adr : ∀ z, (f (a : Int)).getD 0 = z → adrB z = true := fun z e => by subst e; exact decide_eq_true ⟨y1, y2⟩
        generalize hz : (f (a : Int)).getD 0 = z at *
        have HZ : Hid ((f (a : Int)).getD 0 = z) := hz
        have had := adr z rfl
        clear adr hz
        have al := bel_one wr (.cells #[.int .i64 (2 * z + 1)] 2)
        have ho2 := own_later ho al
        have hc : ∀ W : World, (W.alloc (.cells #[.int .i64 (2 * z + 1)] 2)).cell? ⟨W.heap.size, 0, none⟩ = some (.int .i64 (2 * z + 1)) := fun W => by simp
        go_wp2_with (first
          | (go_at_call 56; refine (implRefOf_any _ _).mono ?_; rintro e w' ⟨rfl, hw'⟩; obtain rfl := hw'.symm; rw [hx, hval])
          | (at_lookup; refine look_up _ rfl _ _ rfl M n f rfl hmr _ rfl a64 ?_; rw [HZ.out])
          | (go_at_call 57; refine (refWord_any _ _ had).mono ?_; rintro e w' ⟨rfl, hw'⟩; obtain rfl := hw'.symm)
          | (at_builtin; refine app_at _ rfl _ _ rfl w.heap.size _ j (icells ((ws.take j).map (rnM f))) rfl ho2 _ 1 (2 * z + 1) rfl (hc _) (by omega) (Nat.le_trans hsz (by simp)) ?_; intro v4 w4 hown4 hg4 hloc; have SF := FIN.out (2 * z + 1) w4 v4 RN'.out hown4 hg4))
        exact ⟨⟨j + 1, v4, by omega, by go_num, rfl, SF.1, SF.2⟩, by simp [intOf]; omega⟩
    · obtain rfl : j = ws.length := by omega
      rw [List.take_length] at ho
      clear hvc hf hjl hrun HOW
      go_wp2
      go_ret
      exact ⟨⟨_, rfl, ho⟩, hb⟩

/-- In a tour that is done, a word that leads to one of its objects gets the object's number. -/
theorem rn_num {F : List Nat} {x : Int} (h : isK 2 x = true → (x / 2).toNat ∈ F) : rnM (numF F) x = ren F x := by
  unfold rnM ren
  split
  · rename_i hk
    obtain ⟨a, ha, e, ev⟩ := refOf_fit hk
    rw [valK_yes hk] at ev
    have hm := h hk
    rw [e] at hm ⊢
    rw [ev, numF_at, if_pos hm]
    rfl
  · rfl
theorem rn_range {F : List Nat} (h3 : F.length ≤ 3200) {x : Int} (_ : isK 2 x = true) : 0 ≤ (numF F (x / 2)).getD 0 ∧ (numF F (x / 2)).getD 0 ≤ 3199 := by
  unfold numF
  split
  · rename_i q
    have := List.idxOf_lt_length_of_mem q.2
    show 0 ≤ ((F.idxOf (x / 2).toNat : Nat) : Int) ∧ ((F.idxOf (x / 2).toNat : Nat) : Int) ≤ 3199
    omega
  · exact ⟨by simp, by simp⟩

end Go.Proofs.Ytfcidgnjanidoaa
