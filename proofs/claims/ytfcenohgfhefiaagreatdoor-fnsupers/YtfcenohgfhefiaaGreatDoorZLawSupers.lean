/- The law FnSupers, walked. -/
import Derived.Test.YtfcenohgfhefiaaGreatDoorZSupsP
import Derived.Test.YtfcenohgfhefiaaGreatDoorZDrawSup
import Derived.Test.YtfcenohgfhefiaaGreatDoorZPick
import Derived.Test.YtfcenohgfhefiaaGreatDoorZImplNew
import Derived.Test.YtfcenohgfhefiaaGreatDoorZMC
import Derived.Test.YtfcenohgfhefiaaGreatDoorZDDkB
import Derived.Deep.RegionHeld3
namespace Go.Proofs.YtfcenohgfhefiaaGreatDoor
open Go.RowKit


set_option maxHeartbeats 400000 in
theorem likeInts_any (v u : Value) (ss tt : List Int) (w : World) (hv : IR w v ss) (hu : IR w u tt) (h1 : ss.length ≤ 1000000000000000) (_h2 : tt.length ≤ 1000000000000000) :
    Calls Tryz.prog 30 #[v, u] w fun e w' => e = .returned (.bool (decide (ss = tt))) ∧ Below w.heap.size w w' := by
  obtain ⟨ao, cap, rfl, _, hv⟩ := hv
  obtain ⟨bo, cbp, rfl, _, hu⟩ := hu
  by_cases hl : ss.length = tt.length
  · have hl' : ((ss.length : Int) != (tt.length : Int)) = false := by simp [hl]
    have HL : Hid (ss.length = tt.length) := hl
    go_enter Tryz.func30, Tryz.ntmps30
    go_wp2
    go_loopw [5] (fun a wr => ∃ (k : Nat), a = .int .i64 k ∧ k ≤ ss.length ∧ Hid (∀ j, j < k → ss.getD j 0 = tt.getD j 0) ∧ ∃ n, wr = w.drewN n) (fun a _ => (ss.length - (intOf a).toNat))
    case atStart => exact ⟨0, rfl, Nat.zero_le _, fun j hj => absurd hj (by omega), 0, rfl⟩
    case round =>
      obtain ⟨k, rfl, hk, hj, n, rfl⟩ := hrel
      by_cases hlt : k < ss.length
      · obtain ⟨b, o, rfl, hc⟩ := hv k hlt
        obtain ⟨b', o', rfl, hc'⟩ := hu k (by omega)
        have hlt' : k < tt.length := by omega
        generalize hs : ss.getD k 0 = s at *
        generalize ht : tt.getD k 0 = t at *
        have HS : Hid (ss.getD k 0 = s) := hs
        have HT : Hid (tt.getD k 0 = t) := ht
        clear hs ht hv hu hl
        go_wp2
        go_region
        all_goals go_wp2
        · have hne : s ≠ t := by simpa using ‹(s != t) = true›
          go_ret
          exact ⟨ret_bool (decide_eq_false (fun e => hne (by rw [← HS.out, ← HT.out, e]))).symm, below_drewN (Below.refl _ _) _⟩
        · have he : s = t := by simpa using ‹(s != t) = false›
          go_roundw
          case rel => exact ⟨k + 1, by go_num, by omega, all_upto hj.out (by rw [HS.out, HT.out, he]), _, rfl⟩
          case measure => simp [intOf]; omega
      · go_wp2
        go_ret
        exact ⟨ret_bool (decide_eq_true (ilists_eq hl (fun j hj' => hj.out j (by omega)))).symm, below_drewN (Below.refl _ _) _⟩
  · have hl' : ((ss.length : Int) != (tt.length : Int)) = true := by simp; omega
    go_enter Tryz.func30, Tryz.ntmps30
    go_wp2
    go_ret
    exact ⟨ret_bool (decide_eq_false (fun e => hl (by rw [e]))).symm, Below.refl _ _⟩


/-- The sectors of a disk in the row of block b. -/
def Sr (w : World) (b : Nat) (ss : List ByteArray) : Prop := w.rowIs b 9 64 (fun i => .string (ss.getD i ByteArray.empty))
theorem Sr.later {w w' : World} {b : Nat} {ss : List ByteArray} (h : Sr w b ss) (hb : Below w.heap.size w w') : Sr w' b ss := World.rowIs.of_block h (hb.block b (World.rowIs.lt h))
theorem Sr.set {w : World} {b : Nat} {ss : List ByteArray} (h : Sr w b ss) (hl : ss.length = 64) (k : Nat) (hk : k < 64) (t : ByteArray) : Sr (w.setCell ⟨b, k, none⟩ (.string t)) b (ss.set k t) := by
  refine World.rowIs.congr (World.rowIs.set h k (.string t)) (fun j hj => ?_)
  by_cases e : j = k
  · subst e
    rw [if_pos rfl, getD_set_self (by omega)]
  · rw [if_neg e, getD_set_ne (fun h => e h.symm)]
theorem Sr.sr {w : World} {b : Nat} {ss : List ByteArray} (h : Sr w b ss) (hl : ss.length = 64) : Disk.SR w (.slice (some ⟨b, 0, none⟩) 64 64) ss := by
  refine ⟨some ⟨b, 0, none⟩, 64, by rw [hl], fun i hi => ⟨b, 0, rfl, ?_⟩⟩
  rw [Nat.zero_add]
  exact World.rowIs.cell h (by omega)

theorem cell_off {w : World} {b k b' o' : Nat} {u v : Value} (hne : b' ≠ b) (h : w.cell? ⟨b', o', none⟩ = some v) : (w.setCell ⟨b, k, none⟩ u).cell? ⟨b', o', none⟩ = some v := by
  rw [World.cell?_setCell_other _ _ _ _ (fun e => hne (by cases e; rfl))]
  exact h
theorem cell_lt' {w : World} {a : Addr} {v : Value} (h : w.cell? a = some v) : a.block < w.heap.size := by
  rcases Nat.lt_or_ge a.block w.heap.size with h' | h'
  · exact h'
  · simp [World.cell?, Array.getElem?_eq_none h'] at h

set_option maxHeartbeats 400000 in
theorem implNewDisk_row (w : World) : Calls Tryz.prog 28 #[] w fun e w' => ∃ b, e = .returned (.agg #[.slice (some ⟨b, 0, none⟩) 64 64, .slice none 0 0]) ∧ w.heap.size ≤ b ∧ Sr w' b Disk.es64 ∧ Below w.heap.size w w' := by
  have hmk := Disk.make64
  have R := Disk.empties_row (w.alloc (.cells #[.slice (some ⟨w.heap.size + 1, 0, none⟩) 64 64, .slice none 0 0] 27))
  rw [World.size_alloc] at R
  go_enter Tryz.func28, Tryz.ntmps28
  go_wp2
  exact bodyPost_ret (v := .agg #[.slice (some ⟨w.heap.size + 1, 0, none⟩) 64 64, .slice none 0 0]) (by simp [results, Tryz.results28, go_sem]) rfl ⟨_, rfl, Nat.le_succ _, World.rowIs.congr R (fun i hi => by rw [Disk.es64_get i hi]; rfl), Disk.bel_two _ _ _⟩

set_option maxRecDepth 100000 in
set_option maxHeartbeats 3200000 in
theorem lawSupers_any (cv : Value) (cs : List UInt8) (a0 a1 a2 a3 : Addr) (w : World) (hc : BR w cv cs) (hC : Ctx a0 a1 a2 a3 w) (ht : Tb w) :
    Calls Tryz.prog 5 #[cv] w fun x w' => x = .returned (.bool true) ∧ Below w.heap.size w w' := by
  have BG := big_any cv cs w hc
  by_cases hbig : 4096 < cs.length
  · rw [decide_eq_true hbig] at BG
    go_enter Tryz.func5, Tryz.ntmps5
    go_wp2_with (go_at_call 9; refine BG.mono ?_; rintro x w' ⟨rfl, rfl⟩)
    go_ret
    exact ⟨rfl, Below.refl _ _⟩
  rw [decide_eq_false hbig] at BG
  have DP := drawSup_any cv cs w hc (by omega)
  go_enter Tryz.func5, Tryz.ntmps5
  go_wp2_with fail
  refine BG.mono ?_
  rintro x w0 ⟨rfl, rfl⟩
  clear BG
  go_wp2_with fail
  refine DP.mono ?_
  rintro x w1 ⟨⟨e, l, lv, rfl, hown, hl40⟩, hb1⟩
  clear DP
  have hI := IR_of_owns hown
  go_wp2_with fail
  refine (implSuper_any e lv l w1 hI (by omega) (ht.later hb1)).mono ?_
  rintro x w2 ⟨rfl, hb2⟩
  go_wp2_with fail
  refine (specSuper_any e lv l w2 (hI.later hb2) (by omega)).mono ?_
  rintro x w3 ⟨rfl, hb3⟩
  have bw3 := bel_after (bel_after hb1 hb2) hb3
  have hI3 := (hI.later hb2).later hb3
  clear hown hI
  cases hok : supOk e l
  · have hT := supT_no hok
    rw [hT]
    clear hT
    go_wp2
    go_ret
    exact ⟨rfl, bw3⟩
  have HOK : Hid (supOk e l = true) := hok
  obtain ⟨p1, p2, p3, p4⟩ := supOk_parts hok
  clear hok
  have ND := implNewDisk_row w3
  go_wp2_with fail
  refine ND.mono ?_
  rintro x w4 ⟨b, rfl, hbB, hS4, hb4⟩
  clear ND
  have bw4 := bel_after bw3 hb4
  have hI4 := hI3.later hb4
  have hbD : b < w4.heap.size := World.rowIs.lt hS4
  have hq : Int.tdiv e 2 = e / 2 := Int.tdiv_eq_ediv_of_nonneg (by omega)
  obtain ⟨m2, hm2⟩ := Int.eq_ofNat_of_zero_le (show 0 ≤ e % 2 by omega)
  have hm2' : m2 < 2 := by omega
  have HM : Hid (e % 2 = (m2 : Int)) := hm2
  have hrm : Int.tmod e 2 = (m2 : Int) := by rw [← hm2]; exact Int.tmod_eq_emod_of_nonneg (by omega)
  have hw1 : IntKind.i64.wrap (e / 2) = e / 2 := by simp [IntKind.wrap, IntKind.bits, IntKind.signed]; omega
  have hw2 : IntKind.i64.wrap (e - e / 2) = e - e / 2 := by simp [IntKind.wrap, IntKind.bits, IntKind.signed]; omega
  have HI : Hid (IR w3 lv l) := hI3
  obtain ⟨lao, lcap, rfl, hlcap, hlv⟩ := hI3
  clear hI4 hm2
  have hA := Disk.bel_one w4 (.cells #[.slice (some ⟨b, 0, none⟩) 64 64, .slice none 0 0] 27)
  have B3 := bel_after hb4 hA
  have S3 := hS4.later hA
  have KB := Disk.B2.new w4 27 (.slice (some ⟨b, 0, none⟩) 64 64) (.slice none 0 0)
  have D0 := KB.1
  have D1 := KB.2
  clear KB
  go_wp2
  go_loopw [10] (fun iv wr => ∃ k : Nat, k ≤ l.length ∧ iv = .int .i64 k ∧ wr.cell? ⟨w4.heap.size, 0, none⟩ = some (.slice (some ⟨b, 0, none⟩) 64 64) ∧ wr.cell? ⟨w4.heap.size, 1, none⟩ = some (.slice none 0 0) ∧ Sr wr b (dkL e l k) ∧ Below w3.heap.size w3 wr) (fun iv _ => l.length - (intOf iv).toNat)
  case atStart => exact ⟨0, Nat.zero_le _, rfl, D0, D1, S3, B3⟩
  case round =>
    clear D0 D1 S3 B3 hA
    obtain ⟨k, hk, rfl, c0, c1, hS, hB⟩ := hrel
    by_cases hlt : k < l.length
    · obtain ⟨lb, lo, rfl, hcl⟩ := hlv k hlt
      have gx := goodAt_range (rowOk_mem p4 k hlt)
      have HX : Hid (dkL e l (k + 1) = (dkL e l k).set (l.getD k 0).toNat (pgN e k)) := (rfl : dkL e l (k + 1) = (dkL e l k).set (l.getD k 0).toNat (pgN e k))
      have lbl : lb < w3.heap.size := cell_lt' hcl
      have hcx := cell_later hB hcl
      clear hlv hcl
      generalize l.getD k 0 = x at *
      obtain ⟨xn, rfl⟩ := Int.eq_ofNat_of_zero_le (show 0 ≤ x by omega)
      have hx64 : decide ((xn : Int) < 64) = true := by simp; omega
      have hxa : (0 : Int) ≤ (xn : Int) := by omega
      have hxb : (xn : Int) < 64 := by omega
      have hxc : xn < 64 := by omega
      clear gx
      have HNE : Hid (w4.heap.size ≠ b ∧ lb ≠ b) := (⟨by omega, by omega⟩ : w4.heap.size ≠ b ∧ lb ≠ b)
      have hlt' : decide ((k : Int) < (l.length : Int)) = true := by simp; omega
      go_wp2_with fail
      go_region_held3 (fun w' => w'.cell? ⟨w4.heap.size, 0, none⟩ = some (.slice (some ⟨b, 0, none⟩) 64 64) ∧ w'.cell? ⟨lb, lo + k, none⟩ = some (.int .i64 xn))
        (first | assumption | (exact ⟨c0, hcx⟩) | (exact ⟨cell_later hb6 c0, cell_later hb6 hcx⟩) | (exact ⟨cell_off HNE.out.1 (cell_later hb6 c0), cell_off HNE.out.2 (cell_later hb6 hcx)⟩))
        (first
          | (go_at_call 29; refine (packPage_any _ _ _ _).mono ?_; rintro x w6 ⟨rfl, hb6'⟩; have hb6 : Below wr.heap.size wr w6 := bel_after (Below.refl _ _).drew hb6'; clear hb6'; have hS6 := hS.later hb6; have f6 := World.rowIs.frozen hS6 xn; have q6 := World.rowIs.cell hS6 hxc))
      have hB6 := (bel_after hB hb6).setCell (p := ⟨b, xn, none⟩) hbB (.string (packT (k : Int) (e - e / 2) bodyT))
      have hS7 := hS6.set (dkL_len e l k) xn hxc (packT (k : Int) (e - e / 2) bodyT)
      have e0 := cell_off (k := xn) (u := .string (packT (k : Int) (e - e / 2) bodyT)) HNE.out.1 (cell_later hb6 c0)
      have e1 := cell_off (k := xn) (u := .string (packT (k : Int) (e - e / 2) bodyT)) HNE.out.1 (cell_later hb6 c1)
      clear hS6 f6 q6 c0 c1 hcx
      go_wp2
      exact ⟨⟨k + 1, by omega, by go_num, e0, e1, by rw [HX.out]; exact hS7, hB6⟩, by simp [intOf]; omega⟩
    · obtain rfl : k = l.length := by omega
      have hlt' : decide ((l.length : Int) < (l.length : Int)) = false := by simp
      have f5 := World.rowIs.frozen hS m2
      have q5 := World.rowIs.cell hS (show m2 < 64 by omega)
      have hma : (0 : Int) ≤ (m2 : Int) := by omega
      have hmb : (m2 : Int) < 64 := by omega
      have hmc : m2 < 64 := by omega
      have hmd : decide ((m2 : Int) < 64) = true := by simp; omega
      go_wp2_with fail
      have HDb : Hid (w4.heap.size ≠ b) := (by omega : w4.heap.size ≠ b)
      have hS5 : Sr (wr.setCell ⟨b, m2, none⟩ (.string (supT e l))) b (dkS e l) := by
        have := hS.set (dkL_len e l _) m2 hmc (supT e l)
        unfold dkS
        rw [HM.out, Int.toNat_natCast]
        exact this
      have B5 := hB.setCell (p := ⟨b, m2, none⟩) hbB (.string (supT e l))
      have d0 := cell_off (k := m2) (u := .string (supT e l)) HDb.out c0
      have d1 := cell_off (k := m2) (u := .string (supT e l)) HDb.out c1
      clear f5 q5 hma hmb hmc hmd hS hB c0 c1 hrm
      generalize wr.setCell ⟨b, m2, none⟩ (.string (supT e l)) = w5 at *
      have bw5 := bel_after bw3 B5
      have NW := implNewest_any (.slice (some ⟨b, 0, none⟩) 64 64) (.slice none 0 0) (dkS e l) [] a0 a1 a2 a3 w5 (hS5.sr (dkS_len e l)) ⟨none, 0, rfl, fun i hi => by simp at hi⟩ (by rw [dkS_len]; omega) (by simp) ⟨_, by rw [dkS_len]⟩ (hC.later bw5)
      rw [newestR_dk HOK.out] at NW
      refine NW.mono ?_
      rintro x w6 ⟨⟨mv, rfl, hown⟩, hb6⟩
      clear NW
      have hm := IR_of_owns hown
      have B6 := bel_after B5 hb6
      have LK := likeInts_any mv (.slice lao l.length lcap) l l w6 hm (HI.out.later B6) (by omega) (by omega)
      rw [show decide (l = l) = true from decide_eq_true rfl] at LK
      clear hown hm
      go_wp2_with fail
      refine LK.mono ?_
      rintro x w7 ⟨rfl, hb7⟩
      clear LK
      have B7 := bel_after B6 hb7
      have bw7 := bel_after bw3 B7
      by_cases hl0 : l.length = 0
      · have hl0' : ((l.length : Int) == 0) = true := by simp [hl0]
        have HL0 : Hid (l.length = 0) := hl0
        clear hl0
        go_wp2
        go_ret
        exact ⟨rfl, bw7⟩
      have hl0' : ((l.length : Int) == 0) = false := beq_false_of_ne (by omega)
      have hl1 : 0 < l.length := by omega
      have e0 := cell_later hb7 (cell_later hb6 d0)
      have e1 := cell_later hb7 (cell_later hb6 d1)
      have S7 := (hS5.later hb6).later hb7
      clear d0 d1 hS5 hb6 hb7
      obtain ⟨lb, lo, rfl, hcl0⟩ := hlv 0 hl1
      have lbl : lb < w3.heap.size := cell_lt' hcl0
      obtain ⟨g, hg⟩ : ∃ g : Nat → Nat, ∀ z, z < l.length → l.getD z 0 = (g z : Int) ∧ g z < 64 := ⟨fun z => (l.getD z 0).toNat, fun z hz => by
        have gz := goodAt_range (rowOk_mem p4 z hz)
        exact ⟨(Int.toNat_of_nonneg (by omega)).symm, by show (l.getD z 0).toNat < 64; omega⟩⟩
      have hlg : ∀ z, z < l.length → w7.cell? ⟨lb, lo + z, none⟩ = some (.int .i64 (g z)) := fun z hz => by
        obtain ⟨b', o', eq, hcz⟩ := hlv z hz
        cases eq
        rw [(hg z hz).1] at hcz
        exact cell_later B7 hcz
      have HG : Hid (∀ z, z < l.length → l.getD z 0 = (g z : Int)) := (fun z hz => (hg z hz).1 : ∀ z, z < l.length → l.getD z 0 = (g z : Int))
      have PK : ∀ W : World, Below w3.heap.size w3 W → Calls Tryz.prog 31 #[cv, .int .i64 l.length] W fun x w' => (∃ z : Nat, x = .returned (.int .i64 z) ∧ z < l.length ∧ decide ((z : Int) < (l.length : Int)) = true ∧ g z < 64 ∧ (g z : Int) < 64 ∧ decide ((g z : Int) < 64) = true) ∧ Below W.heap.size W w' := by
        intro W hW
        refine (pick_any cv cs (l.length : Int) W (hc.later (bel_after bw3 hW)) (by omega) (by omega) (by omega)).mono ?_
        rintro x w' ⟨⟨z, rfl, hz⟩, hb⟩
        have hzl : z < l.length := by omega
        have gz := (hg z hzl).2
        exact ⟨⟨z, rfl, hzl, by simp; omega, by omega, by omega, by simp; omega⟩, hb⟩
      clear hlv hcl0 hl0 hg
      have HNE : Hid (w4.heap.size ≠ b ∧ lb ≠ b) := (⟨by omega, by omega⟩ : w4.heap.size ≠ b ∧ lb ≠ b)
      go_wp2_with fail
      go_region_held3 (fun w' => w'.cell? ⟨w4.heap.size, 0, none⟩ = some (.slice (some ⟨b, 0, none⟩) 64 64) ∧ ∀ z, z < l.length → w'.cell? ⟨lb, lo + z, none⟩ = some (.int .i64 (g z)))
        (first | assumption | (exact ⟨e0, hlg⟩) | (exact ⟨cell_later hb8 e0, fun z hz => cell_later hb8 (hlg z hz)⟩) | (exact ⟨cell_off HNE.out.1 (cell_later hb8 e0), fun z hz => cell_off HNE.out.2 (cell_later hb8 (hlg z hz))⟩))
        (first
          | (go_at_call 31; refine (PK _ ?_).mono ?_; (focus (exact B7.drew)); rintro x w8 ⟨⟨z, rfl, hz, hz', hx, hx', hx''⟩, hb8'⟩; have hb8 : Below w7.heap.size w7 w8 := bel_after (Below.refl _ _).drew hb8'; clear hb8'; have S8 := S7.later hb8; have f8 := World.rowIs.frozen S8 (g z); have q8 := World.rowIs.cell S8 hx))
      have S9 : Sr (w8.setCell ⟨b, g z, none⟩ (.string ⟨#[100, 97, 109, 97, 103, 101, 100]⟩)) b ((dkS e l).set (g z) dmgT) := S8.set (dkS_len e l) (g z) hx dmgT
      have B9 := (bel_after B7 hb8).setCell (p := ⟨b, g z, none⟩) hbB (.string ⟨#[100, 97, 109, 97, 103, 101, 100]⟩)
      have x0 := cell_off (k := g z) (u := .string ⟨#[100, 97, 109, 97, 103, 101, 100]⟩) HNE.out.1 (cell_later hb8 e0)
      have x1 := cell_off (k := g z) (u := .string ⟨#[100, 97, 109, 97, 103, 101, 100]⟩) HNE.out.1 (cell_later hb8 e1)
      have bw9 := bel_after bw3 B9
      have N0 : (newestR ((dkS e l).set (g z) dmgT) []).1 = 0 := by
        have := newestR_dmg HOK.out z hz
        rw [HG.out z hz, Int.toNat_natCast] at this
        exact this
      clear S7 S8 f8 q8 e0 e1 hlg PK
      generalize w8.setCell ⟨b, g z, none⟩ (.string ⟨#[100, 97, 109, 97, 103, 101, 100]⟩) = w9 at *
      have NW := implNewest_any (.slice (some ⟨b, 0, none⟩) 64 64) (.slice none 0 0) ((dkS e l).set (g z) dmgT) [] a0 a1 a2 a3 w9 (S9.sr (by rw [List.length_set]; exact dkS_len e l)) ⟨none, 0, rfl, fun i hi => by simp at hi⟩ (by rw [List.length_set, dkS_len]; omega) (by simp) ⟨_, by rw [List.length_set, dkS_len]⟩ (hC.later bw9)
      rw [N0] at NW
      clear N0 S9
      go_wp2_with fail
      refine NW.mono ?_
      rintro x w10 ⟨⟨mv2, rfl, _⟩, hb10⟩
      clear NW
      go_wp2
      go_ret
      exact ⟨rfl, bel_after bw9 hb10⟩

end Go.Proofs.YtfcenohgfhefiaaGreatDoor
