import Derived.Test.YtjclpbaiiklhcaaGreatDoorZV13
import Derived.WalkSmall
import Derived.Test.YtjclpbaiiklhcaaGreatDoorZRange
import Derived.Test.YtjclpbaiiklhcaaGreatDoorZNewI
/- The writes of a commit, of the program: what gives up, the last epoch, the free sectors. -/
namespace Go.Proofs.YtjclpbaiiklhcaaGreatDoor
open Go.RowKit

theorem giveUp_yes (w : World) : Calls Tryz.prog 38 #[.bool true] w fun e w' => e = .returned (.tuple #[]) ∧ w' = w := by
  go_enter Tryz.func38, Tryz.ntmps38
  go_wp2
  go_end0
  exact ⟨rfl, rfl⟩
theorem giveUp_no (t : TypeId) (v : Value) (w : World) (hg : w.cell? ⟨0, 0, none⟩ = some (.iface t v)) : Calls Tryz.prog 38 #[.bool false] w fun e w' => e = .panicked [{ v := .iface t v, recovered := false }] ∧ w' = w := by
  go_enter Tryz.func38, Tryz.ntmps38
  go_wp2
  exact ⟨rfl, rfl, rfl⟩

def mkE (ss : List ByteArray) : Nat → Int
  | 0 => 0
  | k + 1 => max (mkE ss k) (orNone (supR (textAt ss k))).1
theorem mkE_two (ss : List ByteArray) : mkE ss 2 = lastE ss := by
  have h0 := or_epoch (textAt ss 0)
  show max (max 0 (orNone (supR (textAt ss 0))).1) (orNone (supR (textAt ss 1))).1 = _
  unfold lastE
  omega
theorem mkE_range (ss : List ByteArray) (k : Nat) : 0 ≤ mkE ss k ∧ mkE ss k ≤ 999999999 := by
  induction k with
  | zero => exact ⟨Int.le_refl _, by show (0 : Int) ≤ 999999999; decide⟩
  | succ k ih => have := or_epoch (textAt ss k); show 0 ≤ max _ _ ∧ max _ _ ≤ _; omega
theorem mkE_none {ss : List ByteArray} {k : Nat} (h : supR (textAt ss k) = none) : mkE ss (k + 1) = mkE ss k := by
  have := mkE_range ss k
  show max _ _ = _
  rw [h]
  show max (mkE ss k) 0 = _
  omega
theorem mkE_some {ss : List ByteArray} {k : Nat} {e : Int} {l : List Int} (h : supR (textAt ss k) = some (e, l)) : mkE ss (k + 1) = max (mkE ss k) e := by
  show max _ _ = _
  rw [h]
  rfl

set_option maxRecDepth 100000 in
set_option maxHeartbeats 1600000 in
theorem lastEpoch_any (ao : Option Addr) (cap : Nat) (v2 : Value) (ss : List ByteArray) (w : World) (hS : Ss w (.slice ao 64 cap) ss) (hc : 64 ≤ cap) (hE : Env w) :
    Calls Tryz.prog 52 #[.agg #[.slice ao 64 cap, v2]] w fun x w' => x = .returned (.int .i64 (lastE ss)) ∧ Below w.heap.size w w' := by
  have hb0 := bel_one w (.cells #[.slice ao 64 cap, v2] 27)
  have HM : Hid (mkE ss 2 = lastE ss) := mkE_two ss
  obtain ⟨b, o, rfl, _⟩ := hS.sr.cellAt 0 (by rw [hS.len]; omega)
  have hc2 : (2 : Int) ≤ (cap : Int) := by omega
  have hL : ss.length = 64 := hS.len
  have HS : Hid (Ss w (.slice (some ⟨b, o, none⟩) 64 cap) ss) := hS
  clear hS
  go_enter Tryz.func52, Tryz.ntmps52
  go_wp2
  go_loopw [3, 12] (fun lv iv wr => ∃ k : Nat, k ≤ 2 ∧ iv = .int .i64 k ∧ lv = .int .i64 (mkE ss k) ∧ Below w.heap.size w wr) (fun _ iv _ => 2 - (intOf iv).toNat)
  case atStart => exact ⟨0, by omega, rfl, rfl, hb0⟩
  case round =>
    obtain ⟨k, hk, rfl, rfl, hb⟩ := hrel
    by_cases hlt : k < 2
    · have hSr := HS.out.later hb
      obtain ⟨b', o', e', hc⟩ := hSr.sr.cellAt k (by omega)
      cases e'
      have hfk := hSr.fit k (by omega)
      have RS := readSuper_any (textAt ss k) wr (by omega) (hE.later hb)
      have KN := @mkE_none ss k
      have KS := @mkE_some ss k
      change wr.cell? _ = some (.string (textAt ss k)) at hc
      generalize textAt ss k = tx at *
      have HKN : Hid (supR tx = none → mkE ss (k + 1) = mkE ss k) := KN
      have HKS : Hid (∀ {e : Int} {l : List Int}, supR tx = some (e, l) → mkE ss (k + 1) = max (mkE ss k) e) := KS
      clear KN KS hSr
      generalize mkE ss k = m at *
      go_wp2_with fail
      refine RS.mono ?_
      rintro x w3 ⟨hout, hb3⟩
      clear RS
      unfold SupOut at hout
      cases hsup : supR tx with
      | none =>
        rw [hsup] at hout
        simp only at hout
        subst hout
        have GK : Hid (mkE ss (k + 1) = m) := HKN.out hsup
        have hb4 := bel_after (bel_after hb hb3) (bel_one w3 (.cells #[.int .i64 0, .slice none 0 0, .slice none 0 0] 58))
        clear hsup HKN HKS
        go_wp2
        exact ⟨⟨k + 1, by omega, by go_num, by rw [GK.out], hb4⟩, by simp [intOf]; omega⟩
      | some y =>
        obtain ⟨e', l'⟩ := y
        rw [hsup] at hout
        simp only at hout
        obtain ⟨v', rfl, ho'⟩ := hout
        obtain ⟨so', sc', rfl, _⟩ := own_cell ho'
        have GK : Hid (mkE ss (k + 1) = max m e') := HKS.out hsup
        have hb4 := bel_after (bel_after hb hb3) (bel_one w3 (.cells #[.int .i64 e', .slice so' l'.length sc', .slice none 0 0] 58))
        clear hsup HKN HKS ho'
        go_wp2
        exact ⟨⟨k + 1, by omega, by go_num, by rw [GK.out], hb4⟩, by simp [intOf]; omega⟩
    · obtain rfl : k = 2 := by omega
      rw [HM.out]
      go_wp2
      go_ret
      exact ⟨rfl, hb⟩

theorem lastEpoch_len (ao : Option Addr) (cap : Nat) (v2 : Value) (ss : List ByteArray) (w : World) (hS : Ss w (.slice ao ss.length cap) ss) (hc : ss.length ≤ cap) (hE : Env w) :
    Calls Tryz.prog 52 #[.agg #[.slice ao ss.length cap, v2]] w fun x w' => x = .returned (.int .i64 (lastE ss)) ∧ Below w.heap.size w w' := by
  have h := hS.len
  rw [h] at hS hc ⊢
  exact lastEpoch_any ao cap v2 ss w hS hc hE

def freeK (l : List Int) (k : Nat) : List Int := ((List.range k).map fun i : Nat => (i : Int) + 2).filter fun x => !l.contains x
theorem freeK_all (l : List Int) : freeK l 62 = freeL l := rfl
theorem freeK_in {l : List Int} {k : Nat} (h : l.contains ((k : Int) + 2) = true) : freeK l (k + 1) = freeK l k := by
  unfold freeK
  rw [List.range_succ, List.map_append, List.filter_append]
  simpa [List.filter_cons] using h
theorem freeK_out {l : List Int} {k : Nat} (h : l.contains ((k : Int) + 2) = false) : freeK l (k + 1) = freeK l k ++ [(k : Int) + 2] := by
  unfold freeK
  rw [List.range_succ, List.map_append, List.filter_append]
  simpa [List.filter_cons] using h
theorem freeK_len (l : List Int) (k : Nat) : (freeK l k).length ≤ k := by
  unfold freeK
  exact Nat.le_trans (List.length_filter_le _ _) (by simp)

set_option maxRecDepth 100000 in
set_option maxHeartbeats 1600000 in
theorem freeSectors_any (v : Value) (l : List Int) (w : World) (hv : IR w v l) (hl : l.length ≤ 1000) :
    Calls Tryz.prog 53 #[v] w fun x w' => (∃ u, x = .returned u ∧ w'.ownsRow w.heap.size 2 1 u (freeL l).length (icells (freeL l))) ∧ Below w.heap.size w w' := by
  have own0 : w.ownsRow w.heap.size 2 1 (.slice none 0 0) (freeK l 0).length (icells (freeK l 0)) := World.ownsRow_nil _ _ _ _
  have HF : Hid (freeK l 62 = freeL l) := freeK_all l
  go_enter Tryz.func53, Tryz.ntmps53
  go_wp2
  go_loopw [3, 4] (fun fv iv wr => ∃ (k : Nat) (v0 : Value), k ≤ 62 ∧ iv = .int .i64 ((k : Int) + 2) ∧ v0 = fv ∧ wr.ownsRow w.heap.size 2 1 v0 (freeK l k).length (icells (freeK l k)) ∧ Below w.heap.size w wr) (fun _ iv _ => 64 - (intOf iv).toNat)
  case atStart => exact ⟨0, _, by omega, rfl, rfl, own0, Below.refl _ _⟩
  case round =>
    obtain ⟨k, fv, hk, rfl, rfl, hown, hb⟩ := hrel
    by_cases hlt : k < 62
    · have CT := contains_any v l ((k : Int) + 2) wr (hv.later hb) (by omega)
      have hlt' : decide ((k : Int) + 2 < 64) = true := by simp; omega
      have fl := freeK_len l k
      cases hct : l.contains ((k : Int) + 2)
      · have HB : Hid (freeK l (k + 1) = freeK l k ++ [(k : Int) + 2]) := freeK_out hct
        rw [hct] at CT
        clear hct
        have hal := bel_one wr (.cells #[.int .i64 ((k : Int) + 2)] 2)
        have own1 := own_later hown hal
        have hb1 := bel_after hb hal
        have hsz := hb.size
        have hc : ∀ W : World, (W.alloc (.cells #[.int .i64 ((k : Int) + 2)] 2)).cell? ⟨W.heap.size, 0, none⟩ = some (.int .i64 ((k : Int) + 2)) := fun W => by simp
        go_wp2_with (first | (go_at_call 74; refine CT.mono ?_; rintro x wr2 ⟨rfl, rfl⟩) | (at_builtin; refine app_int _ rfl _ _ rfl w.heap.size _ (freeK l k).length _ rfl own1 _ 1 ((k : Int) + 2) rfl (hc _) (by omega) (by simp; omega) ?_; intro v5 w5 own5 g5; have gw5 := own_grown hb1 own1 g5 (by simp; omega)))
        exact ⟨⟨k + 1, _, by omega, by go_num, rfl, by rw [HB.out, List.length_append, List.length_singleton]; unfold icells; rw [List.map_append]; exact own5, gw5⟩, by simp [intOf]; omega⟩
      · have HB : Hid (freeK l (k + 1) = freeK l k) := freeK_in hct
        rw [hct] at CT
        clear hct
        go_wp2_with (go_at_call 74; refine CT.mono ?_; rintro x wr2 ⟨rfl, rfl⟩)
        exact ⟨⟨k + 1, _, by omega, by go_num, rfl, by rw [HB.out]; exact hown, hb⟩, by simp [intOf]; omega⟩
    · obtain rfl : k = 62 := by omega
      rw [HF.out] at hown
      go_wp2
      go_ret
      exact ⟨⟨_, rfl, hown⟩, hb⟩

end Go.Proofs.YtjclpbaiiklhcaaGreatDoor

/- PackPage of the program. -/
namespace Go.Proofs.YtjclpbaiiklhcaaGreatDoor
open Go.RowKit

set_option maxRecDepth 100000 in
set_option maxHeartbeats 3200000 in
theorem implPack_any (n e : Int) (b : ByteArray) (te : TypeId) (pe : Addr) (w : World) (hv : w.cell? ⟨1, 0, none⟩ = some (.iface te (.pointer (some pe)))) (ht : Tb w) :
    Calls Tryz.prog 54 #[.int .i64 n, .int .i64 e, .string b] w fun x w' => x = .returned (.tuple #[.string (packT n e b), .bool (pgOk n e b)]) ∧ Below w.heap.size w w' := by
  have hv1 : (w.alloc (.cells #[.int .i64 n, .int .i64 e, .int .i64 0, .string b] 104)).cell? ⟨1, 0, none⟩ = some (.iface te (.pointer (some pe))) := cell_later (bel_one _ _) hv
  have ht1 : Tb (w.alloc (.cells #[.int .i64 n, .int .i64 e, .int .i64 0, .string b] 104)) := ht.later (bel_one _ _)
  have C := checkRange_any n e 0 b te pe _ hv1
  unfold pageV at C
  go_enter Tryz.func54, Tryz.ntmps54
  go_wp2_with fail
  refine C.mono ?_
  rintro x w1 ⟨⟨part, rfl⟩, hb1⟩
  clear C
  cases h : pgOk n e b
  · have H : Hid (pgOk n e b = false) := h
    rw [rangeV_no h]
    clear h
    go_wp2
    exact bodyPost_ret (v := .tuple #[.string ⟨#[]⟩, .bool false]) (by simp [results, Tryz.results54, go_sem]) rfl ⟨by unfold packT; rw [H.out]; rfl, bel_after (bel_one _ _) hb1⟩
  have H : Hid (pgOk n e b = true) := h
  rw [rangeV_yes h]
  obtain ⟨r1, r2, r3, r4, r5⟩ := pgOk_range h
  clear h
  have sh := headS_size (n := n) (e := e) (by omega) (by omega) (by omega) (by omega)
  obtain ⟨c1, c2⟩ := crcS_range (headS n e ++ b)
  have si := itoaB_size (n := crcS (headS n e ++ b)) (by omega) (by omega)
  have PH := fun w' => pageHead_any n e 0 b w' (by omega) (by omega) (by omega) (by omega)
  have PS := fun w' => pageSum_any n e 0 b w' (by omega) (by omega) (by omega) (by omega) (by omega)
  unfold pageV at PH PS
  have q0 : w1.cell? ⟨w.heap.size, 0, none⟩ = some (.int .i64 n) := cell_later hb1 (by simp)
  have q1 : w1.cell? ⟨w.heap.size, 1, none⟩ = some (.int .i64 e) := cell_later hb1 (by simp)
  have q2 : w1.cell? ⟨w.heap.size, 2, none⟩ = some (.int .i64 0) := cell_later hb1 (by simp)
  have q3 : w1.cell? ⟨w.heap.size, 3, none⟩ = some (.string b) := cell_later hb1 (by simp)
  have HC : Hid (packS n e b = ⟨#[80]⟩ ++ headS n e ++ itoaB (crcS (headS n e ++ b)) ++ ⟨#[59]⟩ ++ b) := (rfl : packS n e b = ⟨#[80]⟩ ++ headS n e ++ itoaB (crcS (headS n e ++ b)) ++ ⟨#[59]⟩ ++ b)
  generalize crcS (headS n e ++ b) = cc at *
  have g1 : ¬ 9223372036854775807 < 1 + (headS n e).size := by omega
  have g2 : ¬ 9223372036854775807 < 1 + (headS n e).size + (itoaB cc).size := by omega
  have g3 : ¬ 9223372036854775807 < 1 + (headS n e).size + (itoaB cc).size + 1 := by omega
  have g4 : ¬ 9223372036854775807 < 1 + (headS n e).size + (itoaB cc).size + 1 + b.size := by omega
  have ht2 : Tb w1 := ht1.later hb1
  have hbw : Below w.heap.size w w1 := bel_after (bel_one _ _) hb1
  clear hv hv1 ht1 ht hb1
  go_wp2_with fail
  go_region_held3 (fun w' => Below w1.heap.size w1 w' ∧ w'.cell? ⟨w.heap.size, 0, none⟩ = some (.int .i64 n) ∧ w'.cell? ⟨w.heap.size, 1, none⟩ = some (.int .i64 e) ∧ w'.cell? ⟨w.heap.size, 2, none⟩ = some (.int .i64 0) ∧ w'.cell? ⟨w.heap.size, 3, none⟩ = some (.string b))
    (first | assumption | (refine ⟨(Below.refl _ _).drew, ?_, ?_, ?_, ?_⟩ <;> simp [q0, q1, q2, q3]) | (exact keep4 (by assumption) (by assumption)))
    (first
      | (go_at_call 76; refine (PH _ ?_).mono ?_; (focus (exact ht2.held (by assumption))); rintro x w2 ⟨rfl, hb2⟩)
      | (go_at_call 78; refine (PS _ ?_).mono ?_; (focus (exact ht2.held (by assumption))); rintro x w3 ⟨rfl, hb3⟩)
      | (go_at_call 77; refine (fmt_any _ _ (by omega) (by omega) ?_).mono ?_; (focus (exact ht2.held (by assumption))); rintro x w4 ⟨rfl, hb4⟩))
  all_goals
    go_wp2
    exact bodyPost_ret (v := .tuple #[.string (⟨#[80]⟩ ++ headS n e ++ itoaB cc ++ ⟨#[59]⟩ ++ b), .bool true]) (by simp [results, Tryz.results54, go_sem]) rfl ⟨by unfold packT; rw [H.out, HC.out]; rfl, bel_after hbw (And.left (by assumption))⟩

end Go.Proofs.YtjclpbaiiklhcaaGreatDoor

/- Newest of the program. -/
namespace Go.Proofs.YtjclpbaiiklhcaaGreatDoor
open Go.RowKit

theorem okD_parts {ss : List ByteArray} {ws : List Disk.Wr} (h : Disk.okD ss ws = true) : ss.length = 64 ∧ ∀ k, k < 64 → (textAt ss k).size ≤ 256 := by
  have hl : ss.length = 64 := Classical.byContradiction fun hc => by rw [Disk.okD_len hc] at h; cases h
  refine ⟨hl, fun k hk => Classical.byContradiction fun hc => ?_⟩
  rw [Disk.okD_text (k := k) (by omega) hc] at h
  cases h
theorem ss_of {ss : List ByteArray} {ws : List Disk.Wr} {w : World} {v : Value} (h : Disk.SR w v ss) (ho : Disk.okD ss ws = true) : Ss w v ss := ⟨h, (okD_parts ho).1, (okD_parts ho).2⟩

set_option maxRecDepth 100000 in
set_option maxHeartbeats 1000000 in
theorem implNewest_cap (v1 v2 : Value) (ss : List ByteArray) (ws : List Disk.Wr) (a0 a1 a2 a3 : Addr) (w : World) (hv1 : Disk.SR w v1 ss) (hv2 : Disk.WR w v2 ws) (h1 : ss.length ≤ 10000000000000) (h2 : ws.length ≤ 10000000000000) (hcp : ∃ ao cap, v1 = .slice ao ss.length cap ∧ ss.length ≤ cap) (hC : Ctx a0 a1 a2 a3 w) :
    Calls Tryz.prog 13 #[.agg #[v1, v2]] w fun x w' => (∃ v, x = .returned (.tuple #[.int .i64 (newestR ss ws).1, v]) ∧ w'.ownsRow w.heap.size 2 1 v (newestR ss ws).2.length (icells (newestR ss ws).2)) ∧ Below w.heap.size w w' := by
  have hb0 := bel_one w (.cells #[v1, v2] 27)
  have hv1' := hv1.later hb0
  have N := newestSuper_cap v1 v2 ss ws a0 a1 a2 a3 _ hv1' (hv2.later hb0) h1 h2 hcp (ss_of hv1') (hC.later hb0)
  generalize newestR ss ws = r at *
  obtain ⟨ne, nl⟩ := r
  simp only at N
  go_enter Tryz.func13, Tryz.ntmps13
  go_wp2_with fail
  refine N.mono ?_
  rintro x w1 ⟨⟨v, bv, rfl, o1, o2⟩, hb1⟩
  clear N
  have hbw := bel_after hb0 hb1
  obtain ⟨so, sc, rfl, _⟩ := own_cell o1
  obtain ⟨bo, bc, rfl, _⟩ := own_cell o2
  have o3 := own_mono (B' := w.heap.size) (own_later o1 (bel_one w1 (.cells #[.int .i64 ne, .slice so nl.length sc, .slice bo nl.length bc] 58))) (by simp)
  have hbw2 := bel_after hbw (bel_one w1 (.cells #[.int .i64 ne, .slice so nl.length sc, .slice bo nl.length bc] 58))
  clear o1 o2 hb1 hb0
  go_wp2
  go_region
  all_goals go_wp2
  all_goals exact bodyPost_ret (v := .tuple #[.int .i64 ne, .slice so nl.length sc]) (by simp [results, Tryz.results13, go_sem]) rfl ⟨⟨_, rfl, o3⟩, by first | exact hbw2.drew | exact hbw2.drew.drew⟩

theorem implNewest_any (v1 v2 : Value) (ss : List ByteArray) (ws : List Disk.Wr) (a0 a1 a2 a3 : Addr) (w : World) (hv1 : Disk.SR w v1 ss) (hv2 : Disk.WR w v2 ws) (h1 : ss.length ≤ 10000000000000) (h2 : ws.length ≤ 10000000000000) (hcp : ∃ ao, v1 = .slice ao ss.length ss.length) (hC : Ctx a0 a1 a2 a3 w) :
    Calls Tryz.prog 13 #[.agg #[v1, v2]] w fun x w' => (∃ v, x = .returned (.tuple #[.int .i64 (newestR ss ws).1, v]) ∧ w'.ownsRow w.heap.size 2 1 v (newestR ss ws).2.length (icells (newestR ss ws).2)) ∧ Below w.heap.size w w' :=
  implNewest_cap v1 v2 ss ws a0 a1 a2 a3 w hv1 hv2 h1 h2 (hcp.elim fun ao e => ⟨ao, _, e, Nat.le_refl _⟩) hC

end Go.Proofs.YtjclpbaiiklhcaaGreatDoor
