/- The writes of a commit, of the program: what gives up, the last epoch, the free sectors. -/
import Derived.Test.YtjclpbaiiklhcaaGreatDoorZV13
import Derived.WalkSmall
namespace Go.Proofs.YtjclpbaiiklhcaaGreatDoor
open Go.RowKit

theorem giveUp_yes (w : World) : Calls Tryz.prog 38 #[.bool true] w fun e w' => e = .returned (.tuple #[]) ∧ w' = w := by
  go_enter Tryz.func38, Tryz.ntmps38
  go_wp2
  go_end0
  exact ⟨rfl, rfl⟩
theorem giveUp_no (t : TypeId) (v : Value) (w : World) (hg : w.cell? ⟨0, 0, none⟩ = some (.iface t v)) : Calls Tryz.prog 38 #[.bool false] w fun e w' => e = .panicked [{ v := .iface t v, recovered := false }] ∧ w' = w := by
  go_enter Tryz.func38, Tryz.ntmps38
  go_wp2
  exact ⟨rfl, rfl, rfl⟩

def mkE (ss : List ByteArray) : Nat → Int
  | 0 => 0
  | k + 1 => max (mkE ss k) (orNone (supR (textAt ss k))).1
theorem mkE_two (ss : List ByteArray) : mkE ss 2 = lastE ss := by
  have h0 := or_epoch (textAt ss 0)
  show max (max 0 (orNone (supR (textAt ss 0))).1) (orNone (supR (textAt ss 1))).1 = _
  unfold lastE
  omega
theorem mkE_range (ss : List ByteArray) (k : Nat) : 0 ≤ mkE ss k ∧ mkE ss k ≤ 999999999 := by
  induction k with
  | zero => exact ⟨Int.le_refl _, by show (0 : Int) ≤ 999999999; decide⟩
  | succ k ih => have := or_epoch (textAt ss k); show 0 ≤ max _ _ ∧ max _ _ ≤ _; omega
theorem mkE_none {ss : List ByteArray} {k : Nat} (h : supR (textAt ss k) = none) : mkE ss (k + 1) = mkE ss k := by
  have := mkE_range ss k
  show max _ _ = _
  rw [h]
  show max (mkE ss k) 0 = _
  omega
theorem mkE_some {ss : List ByteArray} {k : Nat} {e : Int} {l : List Int} (h : supR (textAt ss k) = some (e, l)) : mkE ss (k + 1) = max (mkE ss k) e := by
  show max _ _ = _
  rw [h]
  rfl

set_option maxRecDepth 100000 in
set_option maxHeartbeats 1600000 in
theorem lastEpoch_any (ao : Option Addr) (cap : Nat) (v2 : Value) (ss : List ByteArray) (w : World) (hS : Ss w (.slice ao 64 cap) ss) (hc : 64 ≤ cap) (hE : Env w) :
    Calls Tryz.prog 52 #[.agg #[.slice ao 64 cap, v2]] w fun x w' => x = .returned (.int .i64 (lastE ss)) ∧ Below w.heap.size w w' := by
  have hb0 := bel_one w (.cells #[.slice ao 64 cap, v2] 27)
  have HM : Hid (mkE ss 2 = lastE ss) := mkE_two ss
  obtain ⟨b, o, rfl, _⟩ := hS.sr.cellAt 0 (by rw [hS.len]; omega)
  have hc2 : (2 : Int) ≤ (cap : Int) := by omega
  have hL : ss.length = 64 := hS.len
  have HS : Hid (Ss w (.slice (some ⟨b, o, none⟩) 64 cap) ss) := hS
  clear hS
  go_enter Tryz.func52, Tryz.ntmps52
  go_wp2
  go_loopw [3, 12] (fun lv iv wr => ∃ k : Nat, k ≤ 2 ∧ iv = .int .i64 k ∧ lv = .int .i64 (mkE ss k) ∧ Below w.heap.size w wr) (fun _ iv _ => 2 - (intOf iv).toNat)
  case atStart => exact ⟨0, by omega, rfl, rfl, hb0⟩
  case round =>
    obtain ⟨k, hk, rfl, rfl, hb⟩ := hrel
    by_cases hlt : k < 2
    · have hSr := HS.out.later hb
      obtain ⟨b', o', e', hc⟩ := hSr.sr.cellAt k (by omega)
      cases e'
      have hfk := hSr.fit k (by omega)
      have RS := readSuper_any (textAt ss k) wr (by omega) (hE.later hb)
      have KN := @mkE_none ss k
      have KS := @mkE_some ss k
      change wr.cell? _ = some (.string (textAt ss k)) at hc
      generalize textAt ss k = tx at *
      have HKN : Hid (supR tx = none → mkE ss (k + 1) = mkE ss k) := KN
      have HKS : Hid (∀ {e : Int} {l : List Int}, supR tx = some (e, l) → mkE ss (k + 1) = max (mkE ss k) e) := KS
      clear KN KS hSr
      generalize mkE ss k = m at *
      go_wp2_with fail
      refine RS.mono ?_
      rintro x w3 ⟨hout, hb3⟩
      clear RS
      unfold SupOut at hout
      cases hsup : supR tx with
      | none =>
        rw [hsup] at hout
        simp only at hout
        subst hout
        have GK : Hid (mkE ss (k + 1) = m) := HKN.out hsup
        have hb4 := bel_after (bel_after hb hb3) (bel_one w3 (.cells #[.int .i64 0, .slice none 0 0, .slice none 0 0] 58))
        clear hsup HKN HKS
        go_wp2
        exact ⟨⟨k + 1, by omega, by go_num, by rw [GK.out], hb4⟩, by simp [intOf]; omega⟩
      | some y =>
        obtain ⟨e', l'⟩ := y
        rw [hsup] at hout
        simp only at hout
        obtain ⟨v', rfl, ho'⟩ := hout
        obtain ⟨so', sc', rfl, _⟩ := own_cell ho'
        have GK : Hid (mkE ss (k + 1) = max m e') := HKS.out hsup
        have hb4 := bel_after (bel_after hb hb3) (bel_one w3 (.cells #[.int .i64 e', .slice so' l'.length sc', .slice none 0 0] 58))
        clear hsup HKN HKS ho'
        go_wp2
        exact ⟨⟨k + 1, by omega, by go_num, by rw [GK.out], hb4⟩, by simp [intOf]; omega⟩
    · obtain rfl : k = 2 := by omega
      rw [HM.out]
      go_wp2
      go_ret
      exact ⟨rfl, hb⟩

theorem lastEpoch_len (ao : Option Addr) (cap : Nat) (v2 : Value) (ss : List ByteArray) (w : World) (hS : Ss w (.slice ao ss.length cap) ss) (hc : ss.length ≤ cap) (hE : Env w) :
    Calls Tryz.prog 52 #[.agg #[.slice ao ss.length cap, v2]] w fun x w' => x = .returned (.int .i64 (lastE ss)) ∧ Below w.heap.size w w' := by
  have h := hS.len
  rw [h] at hS hc ⊢
  exact lastEpoch_any ao cap v2 ss w hS hc hE

def freeK (l : List Int) (k : Nat) : List Int := ((List.range k).map fun i : Nat => (i : Int) + 2).filter fun x => !l.contains x
theorem freeK_all (l : List Int) : freeK l 62 = freeL l := rfl
theorem freeK_in {l : List Int} {k : Nat} (h : l.contains ((k : Int) + 2) = true) : freeK l (k + 1) = freeK l k := by
  unfold freeK
  rw [List.range_succ, List.map_append, List.filter_append]
  simpa [List.filter_cons] using h
theorem freeK_out {l : List Int} {k : Nat} (h : l.contains ((k : Int) + 2) = false) : freeK l (k + 1) = freeK l k ++ [(k : Int) + 2] := by
  unfold freeK
  rw [List.range_succ, List.map_append, List.filter_append]
  simpa [List.filter_cons] using h
theorem freeK_len (l : List Int) (k : Nat) : (freeK l k).length ≤ k := by
  unfold freeK
  exact Nat.le_trans (List.length_filter_le _ _) (by simp)

set_option maxRecDepth 100000 in
set_option maxHeartbeats 1600000 in
theorem freeSectors_any (v : Value) (l : List Int) (w : World) (hv : IR w v l) (hl : l.length ≤ 1000) :
    Calls Tryz.prog 53 #[v] w fun x w' => (∃ u, x = .returned u ∧ w'.ownsRow w.heap.size 2 1 u (freeL l).length (icells (freeL l))) ∧ Below w.heap.size w w' := by
  have own0 : w.ownsRow w.heap.size 2 1 (.slice none 0 0) (freeK l 0).length (icells (freeK l 0)) := World.ownsRow_nil _ _ _ _
  have HF : Hid (freeK l 62 = freeL l) := freeK_all l
  go_enter Tryz.func53, Tryz.ntmps53
  go_wp2
  go_loopw [3, 4] (fun fv iv wr => ∃ (k : Nat) (v0 : Value), k ≤ 62 ∧ iv = .int .i64 ((k : Int) + 2) ∧ v0 = fv ∧ wr.ownsRow w.heap.size 2 1 v0 (freeK l k).length (icells (freeK l k)) ∧ Below w.heap.size w wr) (fun _ iv _ => 64 - (intOf iv).toNat)
  case atStart => exact ⟨0, _, by omega, rfl, rfl, own0, Below.refl _ _⟩
  case round =>
    obtain ⟨k, fv, hk, rfl, rfl, hown, hb⟩ := hrel
    by_cases hlt : k < 62
    · have CT := contains_any v l ((k : Int) + 2) wr (hv.later hb) (by omega)
      have hlt' : decide ((k : Int) + 2 < 64) = true := by simp; omega
      have fl := freeK_len l k
      cases hct : l.contains ((k : Int) + 2)
      · have HB : Hid (freeK l (k + 1) = freeK l k ++ [(k : Int) + 2]) := freeK_out hct
        rw [hct] at CT
        clear hct
        have hal := bel_one wr (.cells #[.int .i64 ((k : Int) + 2)] 2)
        have own1 := own_later hown hal
        have hb1 := bel_after hb hal
        have hsz := hb.size
        have hc : ∀ W : World, (W.alloc (.cells #[.int .i64 ((k : Int) + 2)] 2)).cell? ⟨W.heap.size, 0, none⟩ = some (.int .i64 ((k : Int) + 2)) := fun W => by simp
        go_wp2_with (first | (go_at_call 74; refine CT.mono ?_; rintro x wr2 ⟨rfl, rfl⟩) | (at_builtin; refine app_int _ rfl _ _ rfl w.heap.size _ (freeK l k).length _ rfl own1 _ 1 ((k : Int) + 2) rfl (hc _) (by omega) (by simp; omega) ?_; intro v5 w5 own5 g5; have gw5 := own_grown hb1 own1 g5 (by simp; omega)))
        exact ⟨⟨k + 1, _, by omega, by go_num, rfl, by rw [HB.out, List.length_append, List.length_singleton]; unfold icells; rw [List.map_append]; exact own5, gw5⟩, by simp [intOf]; omega⟩
      · have HB : Hid (freeK l (k + 1) = freeK l k) := freeK_in hct
        rw [hct] at CT
        clear hct
        go_wp2_with (go_at_call 74; refine CT.mono ?_; rintro x wr2 ⟨rfl, rfl⟩)
        exact ⟨⟨k + 1, _, by omega, by go_num, rfl, by rw [HB.out]; exact hown, hb⟩, by simp [intOf]; omega⟩
    · obtain rfl : k = 62 := by omega
      rw [HF.out] at hown
      go_wp2
      go_ret
      exact ⟨⟨_, rfl, hown⟩, hb⟩

end Go.Proofs.YtjclpbaiiklhcaaGreatDoor
