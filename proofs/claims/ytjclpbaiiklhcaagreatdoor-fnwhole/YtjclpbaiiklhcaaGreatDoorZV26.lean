import Derived.Test.YtjclpbaiiklhcaaGreatDoorZV25
import Derived.Test.YtjclpbaiiklhcaaGreatDoorZV5
import Derived.Test.YtjclpbaiiklhcaaGreatDoorZDBase
import Derived.Test.YtjclpbaiiklhcaaGreatDoorZDCrash
import Derived.Test.YtjclpbaiiklhcaaGreatDoorZV16
import Derived.Test.YtjclpbaiiklhcaaGreatDoorZV8
import Derived.Test.YtjclpbaiiklhcaaGreatDoorZV17
import Derived.Test.YtjclpbaiiklhcaaGreatDoorZLawCtd
import Derived.Test.YtjclpbaiiklhcaaGreatDoorZV24
import Derived.BigQuiet
/- Cut of the program. -/
namespace Go.Proofs.YtjclpbaiiklhcaaGreatDoor
open Go.RowKit Disk

theorem keepRes {W a : World} {D : Nat} {u x y : Value} (c : W.cell? ⟨D, 0, none⟩ = some u) (hb : Below W.heap.size W a) (lt : D < W.heap.size) (_ : D + 1 < W.heap.size) : Below D W ((a.setCell ⟨D + 1, 0, none⟩ x).setCell ⟨D + 1, 1, none⟩ y) ∧ ((a.setCell ⟨D + 1, 0, none⟩ x).setCell ⟨D + 1, 1, none⟩ y).cell? ⟨D, 0, none⟩ = some u := by
  refine ⟨((hb.mono (Nat.le_of_lt lt)).setCell (p := ⟨D + 1, 0, none⟩) (Nat.le_succ _) _).setCell (p := ⟨D + 1, 1, none⟩) (Nat.le_succ _) _, ?_⟩
  rw [World.cell?_setCell_other _ _ _ _ (by simp), World.cell?_setCell_other _ _ _ _ (by simp)]
  exact (hb.cell (p := ⟨D, 0, none⟩) lt).trans c

set_option maxRecDepth 100000 in
set_option maxHeartbeats 3200000 in
theorem implCut_cap (ao : Option Addr) (cap : Nat) (v2 bv vl : Value) (ss : List ByteArray) (ws : List Disk.Wr) (bs : List ByteArray) (dn : Int) (ls : List Bool) (tn : Int) (a0 a1 a2 a3 : Addr) (tg : TypeId) (pg : Value) (w : World)
    (hv1 : Disk.SR w (.slice ao ss.length cap) ss) (hcap : ss.length ≤ cap) (hv2 : Disk.WR w v2 ws) (h1 : ss.length ≤ 10000000000000) (h2 : ws.length ≤ 10000000000000) (hbv : Disk.SR w bv bs) (h3 : bs.length ≤ 10000000000000) (hvl : LR w vl ls) (hC : Ctx a0 a1 a2 a3 w) (hG : w.cell? ⟨0, 0, none⟩ = some (.iface tg pg)) :
    Calls Tryz.prog 17 #[.agg #[.slice ao ss.length cap, v2], bv, .int .i64 dn, vl, .int .i64 tn] w fun e w' => ∃ u1 u2, e = .returned (.agg #[u1, u2]) ∧ ND w.heap.size w' u1 u2 (cutS ss ws bs dn ls tn) [] ∧ Below w.heap.size w w' ∧ CapS u1 := by
  have hb0 := Disk.bel_two w (.cells #[.slice ao ss.length cap, v2] 27) (.cells #[.slice none 0 0, .slice none 0 0] 27)
  have S := commitWrites_any ao cap v2 bv ss ws bs a0 a1 a2 a3 tg pg _ (hv1.later hb0) hcap (hv2.later hb0) h1 h2 (hbv.later hb0) h3 (hC.later hb0) (cell_later hb0 hG)
  have c0 : ((w.alloc (.cells #[.slice ao ss.length cap, v2] 27)).alloc (.cells #[.slice none 0 0, .slice none 0 0] 27)).cell? ⟨w.heap.size, 0, none⟩ = some (.slice ao ss.length cap) := cell_later (Disk.bel_one _ _) (cell_new w _ 27 _ rfl 0 _ rfl)
  have c1 : ((w.alloc (.cells #[.slice ao ss.length cap, v2] 27)).alloc (.cells #[.slice none 0 0, .slice none 0 0] 27)).cell? ⟨w.heap.size, 1, none⟩ = some v2 := cell_later (Disk.bel_one _ _) (cell_new w _ 27 _ rfl 1 _ rfl)
  have R0 : Res (w.heap.size + 1) ((w.alloc (.cells #[.slice ao ss.length cap, v2] 27)).alloc (.cells #[.slice none 0 0, .slice none 0 0] 27)) := ⟨cell_new _ _ 27 _ (by simp) 0 _ rfl, cell_new _ _ 27 _ (by simp) 1 _ rfl, frozen_new _ _ 27 _ (by simp) 0, frozen_new _ _ 27 _ (by simp) 1, by simp⟩
  have hG0 := cell_later hb0 hG
  have NO2 : ∀ (hno : ¬ (scrOk ss ws bs = true ∧ 0 ≤ dn)), cutS ss ws bs dn ls tn = [] := cutS_no
  by_cases hdn : 0 ≤ dn
  case neg =>
    have HR : Hid (cutS ss ws bs dn ls tn = []) := NO2 (fun h => hdn h.2)
    have hd' : decide (0 ≤ dn) = false := by simp; omega
    clear hdn NO2 S
    go_enter_defers Tryz.func17, Tryz.ntmps17
    go_wp2_with fail
    generalize (w.alloc (.cells #[.slice ao ss.length cap, v2] 27)).alloc (.cells #[.slice none 0 0, .slice none 0 0] 27) = W0 at *
    refine (giveUp_no tg pg _ hG0).mono ?_
    rintro x w1 ⟨rfl, rfl⟩
    obtain ⟨q0, q1, f0, f1, _⟩ := id R0
    have N0 : ND w.heap.size w1 (.slice none 0 0) (.slice none 0 0) (cutS ss ws bs dn ls tn) [] := by rw [HR.out]; exact nd_zero _ _
    go_wp2
    refine leaves_cons (f := 37) (args := #[]) (by simp) (by simp [go_sem]) ?_
    refine (cutCatch tg pg [] _).mono ?_
    rintro e u' w'' ⟨rfl, rfl, rfl⟩
    simp [Leaves, settle, results, Tryz.results17, go_sem, q0, q1]
    exact ⟨_, _, ⟨rfl, rfl⟩, N0, hb0, ⟨_, _, _, rfl, Nat.le_refl _⟩⟩
  have hd' : decide (0 ≤ dn) = true := by simp; omega
  go_enter_defers Tryz.func17, Tryz.ntmps17
  go_wp2_with fail
  generalize (w.alloc (.cells #[.slice ao ss.length cap, v2] 27)).alloc (.cells #[.slice none 0 0, .slice none 0 0] 27) = W0 at *
  refine (giveUp_yes _).mono ?_
  rintro x w0 ⟨rfl, rfl⟩
  go_wp2_with fail
  refine S.mono ?_
  rintro x w1 ⟨ho, hb1⟩
  have hbw1 := bel_after hb0 hb1
  have d0 := cell_later hb1 c0
  have d1 := cell_later hb1 c1
  have HR1 : Hid (Res (w.heap.size + 1) w1) := R0.later hb1
  have ltR : w.heap.size + 1 < w1.heap.size := HR1.out.2.2.2.2
  have ltD : w.heap.size < w1.heap.size := by omega
  unfold CwOut at ho
  clear S c0 c1 R0 hG0
  cases hok : scrOk ss ws bs
  · rw [hok, if_neg (by simp)] at ho
    subst ho
    have HR : Hid (cutS ss ws bs dn ls tn = []) := NO2 (fun h => by rw [hok] at h; cases h.1)
    obtain ⟨q0, q1, f0, f1, _⟩ := HR1.out
    have N0 : ND w.heap.size w1 (.slice none 0 0) (.slice none 0 0) (cutS ss ws bs dn ls tn) [] := by rw [HR.out]; exact nd_zero _ _
    clear hok NO2
    go_wp2
    refine leaves_cons (f := 37) (args := #[]) (by simp) (by simp [go_sem]) ?_
    refine (cutCatch tg pg [] _).mono ?_
    rintro e u' w'' ⟨rfl, rfl, rfl⟩
    simp [Leaves, settle, results, Tryz.results17, go_sem, q0, q1]
    exact ⟨_, _, ⟨rfl, rfl⟩, N0, hbw1, ⟨_, _, _, rfl, Nat.le_refl _⟩⟩
  rw [hok, if_pos rfl] at ho
  obtain ⟨v, rfl, ho⟩ := ho
  have hlen := (scrW_length ss bs).1
  have hlen2 := (scrW_length ss bs).2
  have hb30 := (scrOk_parts hok).2.1
  obtain ⟨k, rfl⟩ := Int.eq_ofNat_of_zero_le hdn
  obtain ⟨b, p, c, rfl, hl, hwr, hbB, hbz⟩ := writes_form ho hlen
  obtain ⟨k1, k2⟩ := super_okD hok p
  have CS : ∀ (hl : k < (scrW ss bs).length), cutS ss ws bs k ls tn = crashS ls tn ss ((scrW ss bs).take k) := fun hl => cutS_some hok k rfl hl
  have CA := fun p hp hd => cutS_all (dn := (k : Int)) (ls := ls) (tn := tn) hok p hp hd
  generalize scrW ss bs = W at *
  have HL : Hid (W.length = p + 1) := hl
  have hp30 : p ≤ 30 := by omega
  clear hok ho hl hlen hlen2 NO2
  by_cases hk : (p : Int) + 1 ≤ (k : Int)
  · have HR : Hid (cutS ss ws bs k ls tn = crashS ls tn (doneS ss (W.take p)) (W.drop p)) := CA p HL.out (by omega)
    have SP := superPut_any (.slice ao ss.length cap) v2 b ss W p c w1 (hv1.later hbw1) hwr HL.out (by omega) h1 k1
    have HH := fun u1 u2 W' h h' hl' => implCrash_cap u1 u2 vl (doneS ss (W.take p)) (W.drop p) ls tn W' h h' hl' (by rw [doneS_length]; exact h1) (by rw [List.length_drop, HL.out]; omega)
    clear CS CA k1 k2
    go_wp2_with fail
    refine SP.mono ?_
    rintro x w2 ⟨u1, u2, rfl, hs2, hw2, hb2⟩
    have hbw2 := bel_after hbw1 hb2
    go_wp2_with fail
    refine (HH _ _ _ hs2 hw2 (hvl.later hbw2)).mono ?_
    rintro x w3 ⟨z1, z2, rfl, hN3, hb3, hcp3⟩
    have HCP : Hid (CapS z1) := hcp3
    clear hcp3
    have hb13 := bel_after hb2 hb3
    have hbw3 := bel_after hbw1 hb13
    obtain ⟨q0, q1, f0, f1⟩ := Res.cut HR1.out hb13
    obtain ⟨za, zn, zc, rfl⟩ := hN3.s1
    obtain ⟨ya, yn, yc, rfl⟩ := hN3.s2
    have hz2 : w.heap.size + 1 < w2.heap.size := Nat.lt_of_lt_of_le ltR hb2.size
    have P1 := (NS.store (b := w.heap.size + 1) (o := 0) (B := w2.heap.size) ⟨hN3.1, hN3.2.2.1, hN3.2.2.2.2.1⟩ (.slice za zn zc) hz2).store (b := w.heap.size + 1) (o := 1) (.slice ya yn yc) hz2
    have P4 := (NW.store (b := w.heap.size + 1) (o := 0) (B := w2.heap.size) ⟨hN3.2.1, hN3.2.2.2.1, hN3.2.2.2.2.2⟩ (.slice za zn zc) hz2).store (b := w.heap.size + 1) (o := 1) (.slice ya yn yc) hz2
    have P2 := (hbw3.setCell (p := ⟨w.heap.size + 1, 0, none⟩) (by simp) (.slice za zn zc)).setCell (p := ⟨w.heap.size + 1, 1, none⟩) (by simp) (.slice ya yn yc)
    have N0 : ND w.heap.size ((w3.setCell ⟨w.heap.size + 1, 0, none⟩ (.slice za zn zc)).setCell ⟨w.heap.size + 1, 1, none⟩ (.slice ya yn yc)) (.slice za zn zc) (.slice ya yn yc) (cutS ss ws bs k ls tn) [] := by rw [HR.out]; exact ND_of (P1.mono (by omega)) (P4.mono (by omega))
    clear SP HH hN3 P1 P4
    go_wp2
    refine leaves_cons (f := 37) (args := #[]) (by simp) (by simp [go_sem]) ?_
    refine (cutIdle _).mono ?_
    rintro e u' w'' ⟨rfl, rfl, rfl⟩
    simp [Leaves, settle, results, Tryz.results17, go_sem, q0, q1]
    exact ⟨_, _, ⟨rfl, rfl⟩, N0, P2, HCP.out⟩
  · have HR : Hid (cutS ss ws bs k ls tn = crashS ls tn ss (W.take k)) := CS (by rw [HL.out]; omega)
    have hkc : (k : Int) ≤ (p : Int) + ((c : Int) + 1) := by omega
    have CR := fun W' (hb : Below w1.heap.size w1 W') => implCrash_cap (.slice ao ss.length cap) (.slice (some ⟨b, 0, none⟩) k (p + (c + 1))) vl ss (W.take k) ls tn W' ((hv1.later hbw1).later hb) (WR_take (p := k) (hwr.later hb) (by rw [HL.out]; omega)) ((hvl.later hbw1).later hb) h1 (by rw [List.length_take, HL.out]; omega)
    obtain ⟨r0, r1, rf0, rf1, _⟩ := HR1.out
    clear CS CA k1 k2
    go_wp2_with fail
    go_region_held3 (fun w' => Below w.heap.size w1 w' ∧ w'.cell? ⟨w.heap.size, 0, none⟩ = some (.slice ao ss.length cap))
      (first | assumption | (exact ⟨(Below.refl _ _).drew, d0⟩) | (exact ⟨(hb3').mono (Nat.le_of_lt ltD), (hb3'.cell (p := ⟨w.heap.size, 0, none⟩) ltD).trans d0⟩) | (exact keepRes d0 hb3' ltD ltR))
      (first
        | (go_at_call 39; refine (CR _ ?_).mono ?_; (focus (exact (Below.refl _ _).drew)); rintro x w3 ⟨z1, z2, rfl, hN3, hb3, hcp3⟩; have HCP : Hid (CapS z1) := hcp3; clear hcp3; have hb3' : Below w1.heap.size w1 w3 := bel_after (Below.refl _ _).drew hb3; obtain ⟨q0, q1, f0, f1⟩ := Res.cut HR1.out hb3'; obtain ⟨za, zn, zc, rfl⟩ := hN3.s1; obtain ⟨ya, yn, yc, rfl⟩ := hN3.s2))
    have hz2 : w.heap.size + 1 < w1.heap.size := ltR
    have P1 := (NS.store (b := w.heap.size + 1) (o := 0) (B := w1.heap.size) ⟨hN3.1, hN3.2.2.1, hN3.2.2.2.2.1⟩ (.slice za zn zc) hz2).store (b := w.heap.size + 1) (o := 1) (.slice ya yn yc) hz2
    have P4 := (NW.store (b := w.heap.size + 1) (o := 0) (B := w1.heap.size) ⟨hN3.2.1, hN3.2.2.2.1, hN3.2.2.2.2.2⟩ (.slice za zn zc) hz2).store (b := w.heap.size + 1) (o := 1) (.slice ya yn yc) hz2
    have P2 := ((bel_after hbw1 hb3').setCell (p := ⟨w.heap.size + 1, 0, none⟩) (by simp) (.slice za zn zc)).setCell (p := ⟨w.heap.size + 1, 1, none⟩) (by simp) (.slice ya yn yc)
    have N0 : ND w.heap.size ((w3.setCell ⟨w.heap.size + 1, 0, none⟩ (.slice za zn zc)).setCell ⟨w.heap.size + 1, 1, none⟩ (.slice ya yn yc)) (.slice za zn zc) (.slice ya yn yc) (cutS ss ws bs k ls tn) [] := by rw [HR.out]; exact ND_of (P1.mono (by omega)) (P4.mono (by omega))
    clear hN3 P1 P4
    go_wp2
    refine leaves_cons (f := 37) (args := #[]) (by simp) (by simp [go_sem]) ?_
    refine (cutIdle _).mono ?_
    rintro e u' w'' ⟨rfl, rfl, rfl⟩
    simp [Leaves, settle, results, Tryz.results17, go_sem, q0, q1]
    exact ⟨_, _, ⟨rfl, rfl⟩, N0, P2, HCP.out⟩

theorem implCut_any (ao : Option Addr) (cap : Nat) (v2 bv vl : Value) (ss : List ByteArray) (ws : List Disk.Wr) (bs : List ByteArray) (dn : Int) (ls : List Bool) (tn : Int) (a0 a1 a2 a3 : Addr) (tg : TypeId) (pg : Value) (w : World)
    (hv1 : Disk.SR w (.slice ao ss.length cap) ss) (hcap : ss.length ≤ cap) (hv2 : Disk.WR w v2 ws) (h1 : ss.length ≤ 10000000000000) (h2 : ws.length ≤ 10000000000000) (hbv : Disk.SR w bv bs) (h3 : bs.length ≤ 10000000000000) (hvl : LR w vl ls) (hC : Ctx a0 a1 a2 a3 w) (hG : w.cell? ⟨0, 0, none⟩ = some (.iface tg pg)) :
    Calls Tryz.prog 17 #[.agg #[.slice ao ss.length cap, v2], bv, .int .i64 dn, vl, .int .i64 tn] w fun e w' => ∃ u1 u2, e = .returned (.agg #[u1, u2]) ∧ ND w.heap.size w' u1 u2 (cutS ss ws bs dn ls tn) [] ∧ Below w.heap.size w w' :=
  (implCut_cap ao cap v2 bv vl ss ws bs dn ls tn a0 a1 a2 a3 tg pg w hv1 hcap hv2 h1 h2 hbv h3 hvl hC hG).mono fun _ _ ⟨u1, u2, e, n, b, _⟩ => ⟨u1, u2, e, n, b⟩

end Go.Proofs.YtjclpbaiiklhcaaGreatDoor

/- See of the model and of the program. -/
namespace Go.Proofs.YtjclpbaiiklhcaaGreatDoor.Disk
open Go.RowKit Go.Shelf Go.Deep

attribute [local go_sem] Oper.semAt_some

def seeT (ss : List ByteArray) (ws : List Wr) (s : Int) : ByteArray := if okD ss ws = true ∧ okN s = true then (holdN ss ws ws.length).getD s.toNat ByteArray.empty else ByteArray.empty
/-- The text of a sector behind some of the late writes. -/
def seeF (s : Int) (t0 : ByteArray) (pre : List NW1) : ByteArray := pre.foldl (fun t x => if x.2.1 = s then x.2.2 else t) t0
theorem seeF_snoc (s : Int) (t0 : ByteArray) (pre : List NW1) (x : NW1) : seeF s t0 (pre ++ [x]) = if x.2.1 = s then x.2.2 else seeF s t0 pre := by simp [seeF]

theorem seeF_num (ss : List ByteArray) (ws : List Wr) (k : Nat) (hk : k < ss.length) (hall : ∀ i, i < ws.length → okW (ws.getD i wr0) = true) :
    ∀ j, j ≤ ws.length → seeF (k : Int) (ss.getD k ByteArray.empty) (num ws j) = (holdN ss ws j).getD k ByteArray.empty := by
  intro j
  induction j with
  | zero => intro _; rw [holdN_zero]; rfl
  | succ j ih =>
    intro hj
    rw [num_succ, seeF_snoc, ih (by omega), holdN_succ ss ws j (by omega)]
    have hr := okW_range (hall j (by omega))
    generalize ws.getD j wr0 = x at *
    obtain ⟨x1, x2⟩ := x
    obtain ⟨a, rfl⟩ := Int.eq_ofNat_of_zero_le hr.1
    have hl := holdN_length ss ws j
    show (if (a : Int) = (k : Int) then x2 else (holdN ss ws j).getD k ByteArray.empty) = ((holdN ss ws j).set a x2).getD k ByteArray.empty
    by_cases e : a = k
    · subst e
      have : a < (holdN ss ws j).length := by omega
      simp [this]
    · have e' : ¬ (a : Int) = (k : Int) := by omega
      rw [if_neg e']
      simp [List.getD_eq_getElem?_getD, e]

theorem seeF_size (s : Int) (t0 : ByteArray) (ws : List Wr) (h0 : t0.size ≤ 256) (hall : ∀ i, i < ws.length → okW (ws.getD i wr0) = true) : ∀ j, j ≤ ws.length → (seeF s t0 (num ws j)).size ≤ 256 := by
  intro j
  induction j with
  | zero => intro _; exact h0
  | succ j ih =>
    intro hj
    rw [num_succ, seeF_snoc]
    have hr := okW_range (hall j (by omega))
    split
    · exact hr.2.2
    · exact ih (by omega)


theorem field0 (x : Option Addr) (n c : Nat) (u : Value) (w : World) : (Instr.field 27 (.agg #[.slice x n c, u]) 0).run Tryz.prog w = .ok (.slice x n c) w := by kernel_rfl

theorem okN_dec (s : Int) : decide (0 ≤ s ∧ s ≤ 63) = okN s := rfl


end Go.Proofs.YtjclpbaiiklhcaaGreatDoor.Disk

/- What holds of a disk that is put to, held and crashed: plain lists. -/
namespace Go.Proofs.YtjclpbaiiklhcaaGreatDoor.Disk
open Go.RowKit Go.Deep

theorem putOk_parts {ss : List ByteArray} {ws : List Wr} {sec : Int} {txt : ByteArray} (h : putOk ss ws sec txt = true) : okD ss ws = true ∧ okW (sec, txt) = true ∧ ¬ ws.length = 200 := by
  unfold putOk at h
  simpa [Bool.and_eq_true, and_assoc] using h
/-- What is put to a right disk is a right disk. -/
theorem put_ok {ss : List ByteArray} {ws : List Wr} {sec : Int} {txt : ByteArray} (h : putOk ss ws sec txt = true) : okD ss (ws ++ [(sec, txt)]) = true := by
  obtain ⟨h1, h2, h3⟩ := putOk_parts h
  unfold okD at h1 ⊢
  simp only [Bool.and_eq_true, decide_eq_true_eq, List.all_append, List.all_cons, List.all_nil, Bool.and_true, List.length_append, List.length_singleton] at h1 ⊢
  exact ⟨⟨⟨h1.1.1.1, by omega⟩, h1.1.2⟩, h1.2, h2⟩
theorem see_held {ss : List ByteArray} {ws : List Wr} (h : okD ss ws = true) {s : Int} (h0 : 0 ≤ s) (h1 : s ≤ 63) : seeT ss ws s = (holdS ss ws).getD s.toNat ByteArray.empty := by
  unfold seeT holdS
  rw [if_pos h, if_pos ⟨h, by unfold okN; simp; omega⟩]
/-- The text that was put is seen. -/
theorem see_put {ss : List ByteArray} {ws : List Wr} {sec : Int} {txt : ByteArray} (h : putOk ss ws sec txt = true) : seeT ss (ws ++ [(sec, txt)]) sec = txt := by
  obtain ⟨h1, h2, _⟩ := putOk_parts h
  obtain ⟨r0, r1, _⟩ := okW_range h2
  have r0 : 0 ≤ sec := r0
  have r1 : sec ≤ 63 := r1
  have hl := (okD_all h1).1
  rw [see_held (put_ok h) r0 r1]
  unfold holdS
  rw [if_pos (put_ok h)]
  unfold holdN
  rw [List.take_length, List.foldl_append]
  have hf := foldH_length ws ss
  show ((List.foldl stepH ss ws).set sec.toNat txt).getD sec.toNat ByteArray.empty = txt
  rw [List.getD_eq_getElem?_getD, List.getElem?_set_self (by omega)]
  rfl
/-- All land, none is torn: what is held. -/
theorem crash_all {ss : List ByteArray} {ws : List Wr} : crashS (List.replicate ws.length true) (-1) ss ws = holdS ss ws := by
  unfold crashS holdS
  have key : ∀ j, j ≤ ws.length → crashN (List.replicate ws.length true) (-1) ss ws j = holdN ss ws j := by
    intro j
    induction j with
    | zero => intro _; rw [holdN_zero]; rfl
    | succ j ih =>
      intro hj
      rw [crashN_succ, holdN_succ ss ws j (by omega), ih (by omega)]
      unfold stepC stepH
      rw [if_neg (by show ¬ ((j : Nat) : Int) = -1; omega), if_pos (by rw [List.getD_eq_getElem?_getD, List.getElem?_replicate, if_pos (by show j < ws.length; omega)]; rfl)]
  rw [key _ (Nat.le_refl _)]
/-- None lands, none is torn: the sectors. -/
theorem crash_none {ss : List ByteArray} {ws : List Wr} (h : okD ss ws = true) : crashS [] (-1) ss ws = ss := by
  unfold crashS
  rw [if_pos h]
  have key : ∀ j, crashN [] (-1) ss ws j = ss := by
    intro j
    induction j with
    | zero => rfl
    | succ j ih =>
      rw [crashN_succ, ih]
      unfold stepC
      rw [if_neg (by show ¬ ((j : Nat) : Int) = -1; omega), if_neg (by simp)]
  exact key _
theorem crash_ok {bs : List Bool} {tn : Int} {ss : List ByteArray} {ws : List Wr} (h : okD ss ws = true) : okD (crashS bs tn ss ws) [] = true := by
  obtain ⟨h1, _, h3, h4⟩ := okD_all h
  unfold crashS
  rw [if_pos h]
  refine okD_yes (by rw [crashN_length]; exact h1) (by simp) (fun k _ => crashN_size (getD_size h3) h4 _ (Nat.le_refl _) k) (fun k hk => by simp at hk)
theorem hold_ok {ss : List ByteArray} {ws : List Wr} (h : okD ss ws = true) : okD (holdS ss ws) [] = true := by
  rw [← crash_all]
  exact crash_ok h
theorem hold_again {ss : List ByteArray} {ws : List Wr} (h : okD ss ws = true) : holdS (holdS ss ws) [] = holdS ss ws := by
  rw [show holdS (holdS ss ws) [] = holdN (holdS ss ws) [] 0 by unfold holdS; rw [if_pos (by have := hold_ok h; unfold holdS at this; exact this)]; rfl, holdN_zero]
/-- Behind a crash a sector holds what it held, a text that was late for it, or the torn one is for it. -/
theorem crash_sector {bs : List Bool} {tn : Int} {ss : List ByteArray} {ws : List Wr} (h : okD ss ws = true) (s : Nat) :
    (crashS bs tn ss ws).getD s ByteArray.empty = ss.getD s ByteArray.empty ∨ ∃ i, i < ws.length ∧ (ws.getD i wr0).1 = (s : Int) ∧ ((crashS bs tn ss ws).getD s ByteArray.empty = (ws.getD i wr0).2 ∨ (i : Int) = tn) := by
  obtain ⟨h1, _, h3, h4⟩ := okD_all h
  unfold crashS
  rw [if_pos h]
  have key : ∀ j, j ≤ ws.length → ((crashN bs tn ss ws j).getD s ByteArray.empty = ss.getD s ByteArray.empty ∨ ∃ i, i < ws.length ∧ (ws.getD i wr0).1 = (s : Int) ∧ ((crashN bs tn ss ws j).getD s ByteArray.empty = (ws.getD i wr0).2 ∨ (i : Int) = tn)) := by
    intro j
    induction j with
    | zero => intro _; exact .inl rfl
    | succ j ih =>
      intro hj
      have hw := okW_range (h4 j (by omega))
      have IH := ih (by omega)
      rw [crashN_succ]
      have hlen := crashN_length bs tn ss ws j
      generalize crashN bs tn ss ws j = cc at *
      by_cases hs : (ws.getD j wr0).1.toNat = s
      · have hs' : (ws.getD j wr0).1 = (s : Int) := by omega
        unfold stepC
        by_cases ht : ((j : Nat) : Int) = tn
        · exact .inr ⟨j, by omega, hs', .inr ht⟩
        · rw [if_neg ht]
          by_cases hb : bs.getD j false = true
          · rw [if_pos hb]
            refine .inr ⟨j, by omega, hs', .inl ?_⟩
            show (cc.set (ws.getD j wr0).1.toNat (ws.getD j wr0).2).getD s ByteArray.empty = _
            rw [hs, List.getD_eq_getElem?_getD, List.getElem?_set_self (by omega)]
            rfl
          · rw [if_neg hb]
            exact IH
      · have e : (stepC bs tn cc (j, ws.getD j wr0)).getD s ByteArray.empty = cc.getD s ByteArray.empty := by
          unfold stepC
          split
          · rw [List.getD_eq_getElem?_getD, List.getElem?_set_ne (by exact hs), ← List.getD_eq_getElem?_getD]
          · split
            · rw [List.getD_eq_getElem?_getD, List.getElem?_set_ne (by exact hs), ← List.getD_eq_getElem?_getD]
            · rfl
        rw [e]
        exact IH
  exact key _ (Nat.le_refl _)

end Go.Proofs.YtjclpbaiiklhcaaGreatDoor.Disk

/- Whatever the cut of a commit, the pages are those of before or those of the commit. -/
namespace Go.Proofs.YtjclpbaiiklhcaaGreatDoor
open Go.RowKit

theorem supS_last (e : Int) (l : List Int) : ∃ P, (supS e l).data.toList = P ++ [59] := by
  have key : ∀ (l : List Int) (A : List UInt8), (∃ P, A = P ++ [59]) → ∃ P, A ++ (l.map fun x => (itoaB x).data.toList ++ [59]).flatten = P ++ [59] := by
    intro l
    induction l with
    | nil => intro A h; simpa using h
    | cons x t ih =>
      intro A _
      rw [List.map_cons, List.flatten_cons, ← List.append_assoc]
      exact ih _ ⟨A ++ (itoaB x).data.toList, by rw [List.append_assoc]⟩
  unfold supS
  rw [supL_list]
  refine key l _ ⟨83 :: ((itoaB e).data.toList ++ 59 :: (itoaB l.length).data.toList), ?_⟩
  unfold supHead
  rw [ByteArray.data_append, ByteArray.data_append, ByteArray.data_append, ByteArray.data_append, Array.toList_append, Array.toList_append, Array.toList_append, Array.toList_append]
  show [83] ++ _ ++ [59] ++ _ ++ [59] = _
  simp [List.append_assoc]
theorem supT_last {e : Int} {l : List Int} (h : supOk e l = true) : ∃ P c, (supT e l).data.toList = P ++ 59 :: c ∧ (59 : UInt8) ∉ c ∧ ∃ v : Int, c = (itoaB v).data.toList ∧ v = 4294967295 - (crcL (P ++ [59]) : Int) := by
  obtain ⟨P, hP⟩ := supS_last e l
  refine ⟨P, (itoaB (crcS (supS e l))).data.toList, ?_, fun hm => by have := itoa_semi _ 59 hm; revert this; decide, _, rfl, ?_⟩
  · rw [supT_yes h, ByteArray.data_append, Array.toList_append, hP]
    simp
  · unfold crcS
    rw [hP]
theorem supT_half {e : Int} {l : List Int} (h : supOk e l = true) : ∃ r, (supT e l).data.toList = 83 :: r ∧ r.all isHalf = true := by
  obtain ⟨h1, h2, h3, _⟩ := supOk_parts h
  refine ⟨_, supT_list h, ?_⟩
  have i59 : isHalf 59 = true := by decide
  have d : ∀ v : Int, 0 ≤ v → (itoaB v).data.toList.all isHalf = true := fun v hv => dig_half (itoa_digs hv)
  have f : (l.map fun x => (itoaB x).data.toList ++ [59]).flatten.all isHalf = true := by
    rw [List.all_eq_true]
    intro b hb
    obtain ⟨m, hm, hb⟩ := List.mem_flatten.1 hb
    obtain ⟨x, hx, rfl⟩ := List.mem_map.1 hm
    rcases List.mem_append.1 hb with hb | hb
    · exact List.all_eq_true.1 (d x (by have := supOk_mem h x hx; omega)) b hb
    · rw [List.mem_singleton.1 hb]; exact i59
  simp only [List.all_append, List.all_cons, i59, d e (by omega), d (l.length : Int) (by omega), f, d (crcS (supS e l)) (crcS_range _).1, Bool.and_self]
theorem torn_list (t th : ByteArray) : (Disk.torn t th).data.toList = t.data.toList.take (t.size / 2) ++ th.data.toList.drop (t.size / 2) := by
  unfold Disk.torn part
  show ((t.data.toList.take (t.size / 2)).drop 0 ++ (th.data.toList.take th.size).drop (t.size / 2)).toArray.toList = _
  have : th.data.toList.length = th.size := by simp
  have e : th.data.toList.take th.size = th.data.toList := List.take_of_length_le (by omega)
  rw [List.drop_zero, e]
theorem torn_epoch {e : Int} {nl l2 : List Int} {old : ByteArray} (he : 1 ≤ e) (h8 : e ≤ 99999998) (hT : supOk (e + 1) nl = true) (ho : old = ByteArray.empty ∨ ∃ f lf, supOk f lf = true ∧ old = supT f lf) (ht : supR (Disk.torn (supT (e + 1) nl) old) = some (e, l2)) : Disk.torn (supT (e + 1) nl) old = old := by
  obtain ⟨k1, k2⟩ := supR_is ht
  obtain ⟨Pt, ct, t1, t2, t3⟩ := supT_last k1
  have tl := supT_list k1
  rw [k2] at t1 tl
  have hsz : (supT (e + 1) nl).data.toList.length = (supT (e + 1) nl).size := by simp
  have TL := supT_list hT
  have h1 : 1 ≤ (supT (e + 1) nl).size / 2 := by
    rw [← hsz, TL]
    simp
    omega
  have hm : (itoaB (e + 1)).data.toList.length ≤ 8 := by
    rw [itoa_dec (by omega)]
    exact dec_len 7 _ (by omega)
  have hv : dsv (itoaB e).data.toList < dsv (itoaB (e + 1)).data.toList := by
    rw [itoa_dsv (v := e) (by omega), itoa_dsv (v := e + 1) (by omega)]
    omega
  rcases ho with rfl | ⟨f, lf, hf, rfl⟩
  · exact ByteArray.ext (Array.toList_inj.1 (torn_bad _ _ _ _ _ _ _ Pt ct [] [] _ h1 TL (itoa_digs (by omega)) hm tl hv (torn_list _ _) (.inl rfl) t1 t2 t3))
  · obtain ⟨Po, co, q1, q2, q3⟩ := supT_last hf
    exact ByteArray.ext (Array.toList_inj.1 (torn_bad _ _ _ _ _ _ _ Pt ct Po co _ h1 TL (itoa_digs (by omega)) hm tl hv (torn_list _ _) (.inr ⟨supT_half hf, q1, q2, q3⟩) t1 t2 t3))

theorem textAt_set_ne {ss : List ByteArray} {i j : Nat} {t : ByteArray} (h : i ≠ j) : textAt (ss.set i t) j = textAt ss j := getD_set_ne h
theorem textAt_set {ss : List ByteArray} {i : Nat} {t : ByteArray} (h : i < ss.length) : textAt (ss.set i t) i = t := getD_set_self h
theorem supR_empty' : supR ByteArray.empty = none := supR_empty
/-- The newest is not less than either. -/
theorem newR_max (ss : List ByteArray) (j : Nat) (hj : j < 2) : (orNone (superR ss (textAt ss j))).1 ≤ (newR ss).1 := by
  unfold newR
  split <;> rcases (by omega : j = 0 ∨ j = 1) with rfl | rfl <;> omega
/-- The same pages, the same soundness. -/
theorem soundB_congr {Z ss : List ByteArray} {e : Int} {l : List Int} {n : Nat} (h : ∀ i, i < n → pageAt Z l i = pageAt ss l i) : soundB Z e l n = soundB ss e l n := by
  unfold soundB
  rw [Bool.eq_iff_iff, List.all_eq_true, List.all_eq_true]
  constructor
  · intro k i hi
    have := k i hi
    unfold soundAt at this ⊢
    rwa [h i (List.mem_range.1 hi)] at this
  · intro k i hi
    have := k i hi
    unfold soundAt at this ⊢
    rwa [h i (List.mem_range.1 hi)]
theorem superR_congr {Z ss : List ByteArray} {t : ByteArray} (h : ∀ e l, supR t = some (e, l) → ∀ i, i < l.length → pageAt Z l i = pageAt ss l i) : superR Z t = superR ss t := by
  unfold superR
  cases k : supR t with
  | none => rfl
  | some p =>
    obtain ⟨e, l⟩ := p
    simp only
    rw [soundB_congr (h e l k)]

section
variable {ss bs : List ByteArray} {ws : List Disk.Wr}
/-- What the law asks ahead of it. -/
structure Fair (ss : List ByteArray) : Prop where
  p1 : 0 < (newR ss).1 → textAt ss ((newR ss).1 % 2).toNat = supT (newR ss).1 (newR ss).2
  p2 : (newR ss).1 = 0 → textAt ss 0 = ByteArray.empty ∧ textAt ss 1 = ByteArray.empty
  p3 : (newR (ss.set ((newR ss).1 % 2).toNat ByteArray.empty)).1 = 0 → textAt ss (((newR ss).1 + 1) % 2).toNat = ByteArray.empty

theorem newR_nonneg (ss : List ByteArray) : 0 ≤ (newR ss).1 := by
  rcases newR_super ss with h | ⟨t, _, h⟩
  · rw [h]; exact Int.le_refl _
  · have := (superR_pos (e := (newR ss).1) (l := (newR ss).2) h).1; omega
theorem par_two (e : Int) (_h : 0 ≤ e) : ((e % 2).toNat = 0 ∧ ((e + 1) % 2).toNat = 1) ∨ ((e % 2).toNat = 1 ∧ ((e + 1) % 2).toNat = 0) := by omega
/-- What the other sector holds. -/
theorem other_text (F : Fair ss) (h64 : ss.length = 64) : textAt ss (((newR ss).1 + 1) % 2).toNat = ByteArray.empty ∨
    ∃ f lf, supOk f lf = true ∧ textAt ss (((newR ss).1 + 1) % 2).toNat = supT f lf ∧ f ≤ (newR ss).1 ∧ superR ss (textAt ss (((newR ss).1 + 1) % 2).toNat) = some (f, lf) := by
  by_cases h0 : (newR (ss.set ((newR ss).1 % 2).toNat ByteArray.empty)).1 = 0
  · exact .inl (F.p3 h0)
  right
  have hn := newR_nonneg ss
  have hp := par_two (newR ss).1 hn
  generalize hO : ss.set ((newR ss).1 % 2).toNat ByteArray.empty = oth at h0
  have here : textAt oth ((newR ss).1 % 2).toNat = ByteArray.empty := by rw [← hO]; exact textAt_set (by omega)
  have there : textAt oth (((newR ss).1 + 1) % 2).toNat = textAt ss (((newR ss).1 + 1) % 2).toNat := by rw [← hO]; exact textAt_set_ne (by omega)
  rcases newR_super oth with h | ⟨t, ht, h⟩
  · rw [h] at h0; exact absurd rfl h0
  have hne : t ≠ ByteArray.empty := by
    rintro rfl
    unfold superR at h
    rw [supR_empty'] at h
    cases h
  have et : t = textAt ss (((newR ss).1 + 1) % 2).toNat := by
    rcases hp with ⟨q1, q2⟩ | ⟨q1, q2⟩ <;> rw [q1] at here <;> rw [q2] at there ⊢ <;> rcases ht with ht | ht
    · exact absurd (ht.trans here) hne
    · exact ht.trans there
    · exact ht.trans there
    · exact absurd (ht.trans here) hne
  obtain ⟨g1, g2, g3⟩ := superR_pos (e := (newR oth).1) (l := (newR oth).2) h
  obtain ⟨g4, g5⟩ := supR_is g2
  have hs : superR ss t = superR oth t := superR_congr (fun e' l' hk i hi => by
    have q := supOk_parts (supR_is hk).1
    have r := goodAt_range (rowOk_mem q.2.2.2 i hi)
    unfold pageAt
    rw [← hO, getD_set_ne (by omega)])
  have hss : superR ss t = some ((newR oth).1, (newR oth).2) := hs.trans h
  refine ⟨_, _, g4, by rw [← et, g5], ?_, by rw [← et]; exact hss⟩
  have mx := newR_max ss (((newR ss).1 + 1) % 2).toNat (by omega)
  rw [← et, hss] at mx
  exact mx
theorem lastE_eq (F : Fair ss) (h64 : ss.length = 64) : lastE ss = (newR ss).1 := by
  have hn := newR_nonneg ss
  have hp := par_two (newR ss).1 hn
  by_cases h0 : (newR ss).1 = 0
  · obtain ⟨a, b⟩ := F.p2 h0
    unfold lastE
    rw [a, b, supR_empty', h0]
    rfl
  have hok : supOk (newR ss).1 (newR ss).2 = true := by
    rcases newR_super ss with h | ⟨t, _, h⟩
    · rw [h] at h0; exact absurd rfl h0
    · exact (supR_is (superR_pos (e := (newR ss).1) (l := (newR ss).2) h).2.1).1
  have a : (orNone (supR (textAt ss ((newR ss).1 % 2).toNat))).1 = (newR ss).1 := by rw [F.p1 (by omega), supR_supT hok]; rfl
  have b : (orNone (supR (textAt ss (((newR ss).1 + 1) % 2).toNat))).1 ≤ (newR ss).1 := by
    rcases other_text F h64 with h | ⟨f, lf, h1, h2, h3, _⟩
    · rw [h, supR_empty']; exact hn
    · rw [h2, supR_supT h1]; exact h3
  unfold lastE
  rcases hp with ⟨q1, q2⟩ | ⟨q1, q2⟩ <;> rw [q1] at a <;> rw [q2] at b <;> omega
/-- A disk with the newest superblock and its pages as they were has the same newest one. -/
theorem keep_new (F : Fair ss) {Z : List ByteArray} (kt : textAt Z ((newR ss).1 % 2).toNat = textAt ss ((newR ss).1 % 2).toNat) (kl : ∀ i, i < (newR ss).2.length → pageAt Z (newR ss).2 i = pageAt ss (newR ss).2 i)
    (hc : (orNone (superR Z (textAt Z (((newR ss).1 + 1) % 2).toNat))).1 ≤ (newR ss).1) (hc2 : (orNone (superR Z (textAt Z (((newR ss).1 + 1) % 2).toNat))).1 = (newR ss).1 → 0 < (newR ss).1 → (((newR ss).1 + 1) % 2).toNat = 0 → (orNone (superR Z (textAt Z (((newR ss).1 + 1) % 2).toNat))).2 = (newR ss).2) : newR Z = newR ss := by
  have hn := newR_nonneg ss
  have hp := par_two (newR ss).1 hn
  by_cases h0 : (newR ss).1 = 0
  · obtain ⟨a, b⟩ := F.p2 h0
    have z0 : textAt Z 0 = ByteArray.empty := by
      rw [h0] at kt
      exact kt.trans a
    rw [h0] at hc
    have hc : (orNone (superR Z (textAt Z 1))).1 ≤ 0 := hc
    have e0 : superR Z (textAt Z 0) = none := by rw [z0]; unfold superR; rw [supR_empty']
    have e1 : orNone (superR Z (textAt Z 1)) = (0, []) := by
      cases h : superR Z (textAt Z 1) with
      | none => rfl
      | some p =>
        obtain ⟨x, y⟩ := p
        have := (superR_pos h).1
        rw [h] at hc
        exact absurd hc (by show ¬ x ≤ 0; omega)
    have n0 : newR Z = (0, []) := by
      unfold newR
      rw [e0, e1]
      rfl
    have n1 : newR ss = (0, []) := by
      rcases newR_super ss with h | ⟨t, ht, h⟩
      · exact h
      · have := (superR_pos (e := (newR ss).1) (l := (newR ss).2) h).1; omega
    rw [n0, n1]
  · have pos : 0 < (newR ss).1 := by omega
    obtain ⟨t, ht, h⟩ : ∃ t, (t = textAt ss 0 ∨ t = textAt ss 1) ∧ superR ss t = some (newR ss) := by
      rcases newR_super ss with h | h
      · rw [h] at h0; exact absurd rfl h0
      · exact h
    obtain ⟨g1, g2, g3⟩ := superR_pos (e := (newR ss).1) (l := (newR ss).2) h
    have hok := (supR_is g2).1
    have S : superR Z (textAt Z ((newR ss).1 % 2).toNat) = some ((newR ss).1, (newR ss).2) := by
      rw [kt, F.p1 pos]
      exact superR_sound (supR_supT hok) (by rw [soundB_congr kl]; exact g3)
    have S' : orNone (superR Z (textAt Z ((newR ss).1 % 2).toNat)) = newR ss := by rw [S]; rfl
    generalize hcz : orNone (superR Z (textAt Z (((newR ss).1 + 1) % 2).toNat)) = c at *
    rcases hp with ⟨q1, q2⟩ | ⟨q1, q2⟩ <;> rw [q1] at S' <;> rw [q2] at hcz
    · rw [newR_no (by rw [S', hcz]; omega), S']
    · by_cases hlt : c.1 < (newR ss).1
      · rw [newR_yes (by rw [S', hcz]; exact hlt), S']
      · rw [newR_no (by rw [S', hcz]; exact hlt), hcz]
        exact Prod.ext (by omega) (hc2 (by omega) pos q2)

/-- Only sectors that the newest superblock does not name are others. -/
structure Aside (ss Y : List ByteArray) : Prop where
  len : Y.length = ss.length
  low : ∀ j, j < 2 → textAt Y j = textAt ss j
  pg : ∀ i, i < (newR ss).2.length → Y.getD ((newR ss).2.getD i 0).toNat ByteArray.empty = ss.getD ((newR ss).2.getD i 0).toNat ByteArray.empty
theorem Aside.set {Y : List ByteArray} (h : Aside ss Y) {k : Nat} (t : ByteArray) (h2 : 2 ≤ k) (hp : ∀ i, i < (newR ss).2.length → k ≠ ((newR ss).2.getD i 0).toNat) : Aside ss (Y.set k t) :=
  ⟨by rw [List.length_set]; exact h.len, fun j hj => (textAt_set_ne (by omega)).trans (h.low j hj), fun i hi => (getD_set_ne (hp i hi)).trans (h.pg i hi)⟩
theorem aside_self (ss : List ByteArray) : Aside ss ss := ⟨rfl, fun _ _ => rfl, fun _ _ => rfl⟩
theorem newR_good (ss : List ByteArray) (i : Nat) (hi : i < (newR ss).2.length) : 2 ≤ (newR ss).2.getD i 0 ∧ (newR ss).2.getD i 0 ≤ 63 := goodAt_range (rowOk_mem (newR_ok ss).1 i hi)
/-- A write of the pages. -/
theorem page_write (_hb : bs.length ≤ 30) (k : Nat) (hk : k ≤ 31) (x : Disk.Wr) (hx : x ∈ (scrP ss bs k).1) : 2 ≤ x.1.toNat ∧ ∀ i, i < (newR ss).2.length → x.1.toNat ≠ ((newR ss).2.getD i 0).toNat := by
  have off := scr_off ss bs k hk
  have a0 := off 0 (.inr (by omega)) (by omega) x hx
  have a1 := off 1 (.inr (by omega)) (by omega) x hx
  refine ⟨by have : (0 : Int).toNat = 0 := rfl; have : (1 : Int).toNat = 1 := rfl; omega, fun i hi => ?_⟩
  exact off _ (.inl (at_mem hi)) (by have := newR_good ss i hi; omega) x hx
theorem aside_crash (ls : List Bool) (tn : Int) (W : List Disk.Wr) (hW : ∀ x ∈ W, 2 ≤ x.1.toNat ∧ ∀ i, i < (newR ss).2.length → x.1.toNat ≠ ((newR ss).2.getD i 0).toNat) : ∀ j, j ≤ W.length → Aside ss (Disk.crashN ls tn ss W j)
  | 0, _ => aside_self ss
  | j + 1, hj => by
    rw [Disk.crashN_succ]
    have ih := aside_crash ls tn W hW j (by omega)
    have hm : W.getD j Disk.wr0 ∈ W := by
      rw [List.getD_eq_getElem?_getD, List.getElem?_eq_getElem (by omega)]
      exact List.getElem_mem _
    obtain ⟨h2, hp⟩ := hW _ hm
    unfold Disk.stepC
    split
    · exact ih.set _ h2 hp
    · split
      · exact ih.set _ h2 hp
      · exact ih
theorem aside_done (W : List Disk.Wr) (hW : ∀ x ∈ W, 2 ≤ x.1.toNat ∧ ∀ i, i < (newR ss).2.length → x.1.toNat ≠ ((newR ss).2.getD i 0).toNat) : Aside ss (doneS ss W) := by
  refine ⟨doneS_length _ _, fun j hj => ?_, fun i hi => ?_⟩
  · exact done_off W j ss (fun x hx => by have := (hW x hx).1; omega)
  · exact done_off W _ ss (fun x hx => (hW x hx).2 i hi)
theorem Aside.page {Y : List ByteArray} (h : Aside ss Y) (i : Nat) (hi : i < (newR ss).2.length) : pageAt Y (newR ss).2 i = pageAt ss (newR ss).2 i := by
  unfold pageAt
  rw [h.pg i hi]
/-- Pages written aside, the other sector with a text t that is no superblock of the same epoch and another list. -/
theorem aside_new (F : Fair ss) {Y : List ByteArray} (h : Aside ss Y) (h64 : ss.length = 64) : newR Y = newR ss := by
  have hn := newR_nonneg ss
  have hj : (((newR ss).1 + 1) % 2).toNat < 2 := by omega
  refine keep_new F (h.low _ (by omega)) h.page ?_ ?_ <;> rw [h.low _ hj]
  · rcases other_text F h64 with k | ⟨f, lf, k1, k2, k3, k4⟩
    · rw [k]
      unfold superR
      rw [supR_empty']
      exact hn
    · rw [superR_or, k2, supR_supT k1]
      split
      · exact k3
      · exact hn
  · intro e1 pos at0
    rcases other_text F h64 with k | ⟨f, lf, k1, k2, k3, k4⟩
    · rw [k] at e1
      unfold superR at e1
      rw [supR_empty'] at e1
      exact absurd e1 (by show ¬ (0 : Int) = _; omega)
    · -- both of the same epoch: the first sector's is the newest
      have e2 : orNone (superR Y (textAt ss (((newR ss).1 + 1) % 2).toNat)) = (f, lf) := by
        rw [superR_or, k2, supR_supT k1] at e1 ⊢
        split at e1
        · rename_i hs; rw [if_pos hs]; rfl
        · exact absurd e1 (by show ¬ (0 : Int) = _; omega)
      rw [e2] at e1 ⊢
      have e3 : f = (newR ss).1 := e1
      have hp := par_two (newR ss).1 hn
      rw [at0] at k4
      have : newR ss = orNone (superR ss (textAt ss 0)) := newR_no (by
        rw [k4]
        have := newR_max ss 1 (by omega)
        show ¬ f < _
        omega)
      rw [this, k4]
      rfl
theorem pages_same {Y : List ByteArray} (h : newR Y = newR ss) (hp : ∀ i, i < (newR ss).2.length → pageAt Y (newR ss).2 i = pageAt ss (newR ss).2 i) (o1 : Disk.okD ss ws = true) (o2 : Disk.okD Y [] = true) : pagesR Y [] = pagesR ss ws := by
  unfold pagesR
  rw [newestR_yes o1, newestR_yes o2, h]
  unfold bodiesK
  refine List.map_congr_left fun i hi => ?_
  rw [hp i (List.mem_range.1 hi)]

/-- WHATEVER THE CUT. -/
theorem whole_plain (hok : scrOk ss ws bs = true) (F : Fair ss) (h8 : (newR ss).1 ≤ 99999998) (dn : Int) (ls : List Bool) (tn : Int) (hd : 0 ≤ dn) :
    Disk.okD (cutS ss ws bs dn ls tn) [] = true ∧
    ((textAt (cutS ss ws bs dn ls tn) (((newR ss).1 + 1) % 2).toNat ≠ supT (lastE ss + 1) (scrP ss bs bs.length).2 ∧ textAt (cutS ss ws bs dn ls tn) (((newR ss).1 + 1) % 2).toNat ≠ textAt ss (((newR ss).1 + 1) % 2).toNat ∧ (newR (cutS ss ws bs dn ls tn)).1 ≠ (newR ss).1) ∨
      ((newR (cutS ss ws bs dn ls tn)).1 = (newR ss).1 ∧ pagesR (cutS ss ws bs dn ls tn) [] = pagesR ss ws) ∨
      ((newR (cutS ss ws bs dn ls tn)).1 = (newR ss).1 + 1 ∧ ((scrW ss bs).length : Int) ≤ dn ∧ pagesR (cutS ss ws bs dn ls tn) [] = bs)) := by
  obtain ⟨o1, o2, o3, o4⟩ := scrOk_parts hok
  have h64 := okD_len64 o1
  have hn := newR_nonneg ss
  have LE := lastE_eq F h64
  have pw := fun x hx => page_write (ss := ss) (bs := bs) o2 bs.length (by omega) x hx
  have WL : (scrW ss bs).length = (scrP ss bs bs.length).1.length + 1 := by unfold scrW; rw [List.length_append, List.length_singleton]
  obtain ⟨k, rfl⟩ := Int.eq_ofNat_of_zero_le hd
  by_cases hk : k < (scrW ss bs).length
  · rw [cutS_some hok k rfl hk]
    have ok1 := (super_okD hok k).1
    have okX := Disk.crash_ok (bs := ls) (tn := tn) ok1
    have eW : (scrW ss bs).take k = (scrP ss bs bs.length).1.take k := by
      unfold scrW
      rw [List.take_append_of_le_length (by omega)]
    have eX : Disk.crashS ls tn ss ((scrW ss bs).take k) = Disk.crashN ls tn ss ((scrW ss bs).take k) ((scrW ss bs).take k).length := by
      unfold Disk.crashS
      rw [if_pos ok1]
    have A : Aside ss (Disk.crashS ls tn ss ((scrW ss bs).take k)) := by
      rw [eX]
      exact aside_crash ls tn _ (fun x hx => pw x (by rw [eW] at hx; exact List.mem_of_mem_take hx)) _ (Nat.le_refl _)
    have nw := aside_new F A h64
    exact ⟨okX, .inr (.inl ⟨by rw [nw], pages_same nw A.page o1 okX⟩)⟩
  · rw [cutS_all hok (scrP ss bs bs.length).1.length WL (by omega)]
    have okY := (super_okD hok (scrP ss bs bs.length).1.length).2
    have okX := Disk.crash_ok (bs := ls) (tn := tn) okY
    have eT : (scrW ss bs).take (scrP ss bs bs.length).1.length = (scrP ss bs bs.length).1 := by unfold scrW; rw [List.take_append_of_le_length (Nat.le_refl _), List.take_length]
    have eD : (scrW ss bs).drop (scrP ss bs bs.length).1.length = [((lastE ss + 1) % 2, supT (lastE ss + 1) (scrP ss bs bs.length).2)] := by unfold scrW; rw [List.drop_left]
    have eDone := done_split ss (scrW ss bs) (scrP ss bs bs.length).1.length
    rw [eT, eD] at okX okY eDone ⊢
    have A := aside_done (ss := ss) (scrP ss bs bs.length).1 pw
    generalize hY : doneS ss (scrP ss bs bs.length).1 = Y at *
    generalize hT : supT (lastE ss + 1) (scrP ss bs bs.length).2 = T at *
    have y64 : Y.length = 64 := A.len.trans h64
    have eX : Disk.crashS ls tn Y [((lastE ss + 1) % 2, T)] = Disk.stepC ls tn Y (0, ((lastE ss + 1) % 2, T)) := by
      unfold Disk.crashS
      rw [if_pos okY]
      rfl
    rw [LE] at eX eDone
    rw [LE] at okX okY ⊢
    have hat : (((newR ss).1 + 1) % 2).toNat < 2 := by omega
    have hne : ((newR ss).1 % 2).toNat ≠ (((newR ss).1 + 1) % 2).toNat := by omega
    refine ⟨okX, ?_⟩
    rw [eX] at okX ⊢
    unfold Disk.stepC at okX ⊢
    dsimp only at okX ⊢
    by_cases ht : ((0 : Nat) : Int) = tn
    · rw [if_pos ht] at okX ⊢
      have here := A.low _ hat
      have eo : Y.getD (((newR ss).1 + 1) % 2).toNat ByteArray.empty = textAt ss (((newR ss).1 + 1) % 2).toNat := here
      rw [eo] at okX ⊢
      have tx : textAt (Y.set (((newR ss).1 + 1) % 2).toNat (Disk.torn T (textAt ss (((newR ss).1 + 1) % 2).toNat))) (((newR ss).1 + 1) % 2).toNat = Disk.torn T (textAt ss (((newR ss).1 + 1) % 2).toNat) := textAt_set (by omega)
      generalize hX : Y.set (((newR ss).1 + 1) % 2).toNat (Disk.torn T (textAt ss (((newR ss).1 + 1) % 2).toNat)) = X at *
      by_cases c1 : Disk.torn T (textAt ss (((newR ss).1 + 1) % 2).toNat) = T
      · -- the whole text all the same
        rw [c1] at hX
        have eD2 : X = doneS ss (scrW ss bs) := by
          rw [← eDone, ← hX]
          rfl
        have nc := newR_commit hok
        have pc := pages_commit hok
        rw [← eD2] at nc pc
        exact .inr (.inr ⟨by rw [nc, LE], by omega, pc⟩)
      by_cases c2 : Disk.torn T (textAt ss (((newR ss).1 + 1) % 2).toNat) = textAt ss (((newR ss).1 + 1) % 2).toNat
      · have B : Aside ss X := ⟨by rw [← hX, List.length_set]; exact A.len, fun j hj => by
          by_cases e : (((newR ss).1 + 1) % 2).toNat = j
          · subst e
            rw [tx, c2]
          · rw [← hX, textAt_set_ne e]; exact A.low j hj, fun i hi => by
          have := newR_good ss i hi
          rw [← hX, getD_set_ne (by omega)]; exact A.pg i hi⟩
        have nw := aside_new F B h64
        exact .inr (.inl ⟨by rw [nw], pages_same nw B.page o1 okX⟩)
      by_cases c3 : (newR X).1 = (newR ss).1
      · have pgX : ∀ i, i < (newR ss).2.length → pageAt X (newR ss).2 i = pageAt ss (newR ss).2 i := fun i hi => by
          have := newR_good ss i hi
          unfold pageAt
          rw [← hX, getD_set_ne (by omega), A.pg i hi]
        have kt : textAt X ((newR ss).1 % 2).toNat = textAt ss ((newR ss).1 % 2).toNat := by
          rw [← hX, textAt_set_ne hne.symm]
          exact A.low _ (by omega)
        have nw : newR X = newR ss := by
          refine keep_new F kt pgX ?_ ?_
          · have := newR_max X _ hat
            rw [c3] at this
            exact this
          · intro e1 pos _
            exfalso
            rw [tx] at e1
            cases hs : superR X (Disk.torn T (textAt ss (((newR ss).1 + 1) % 2).toNat)) with
            | none => rw [hs] at e1; exact absurd e1 (by show ¬ (0 : Int) = _; omega)
            | some p =>
              obtain ⟨x, y⟩ := p
              rw [hs] at e1
              have e2 : x = (newR ss).1 := e1
              obtain ⟨_, s2, _⟩ := superR_pos hs
              have ok := scrP_ok ss bs o2 o4
              rw [LE] at ok hT
              rw [← hT, e2] at s2
              refine c2 ?_
              rw [← hT]
              refine torn_epoch (by omega) h8 ok ?_ s2
              rcases other_text F h64 with q | ⟨f, lf, q1, q2, _⟩
              · exact .inl q
              · exact .inr ⟨f, lf, q1, q2⟩
        exact .inr (.inl ⟨c3, pages_same nw pgX o1 okX⟩)
      · exact .inl ⟨by rw [tx]; exact c1, by rw [tx]; exact c2, c3⟩
    · rw [if_neg ht] at okX ⊢
      by_cases hl : ls.getD 0 false = true
      · rw [if_pos hl] at okX ⊢
        have eD2 : Y.set (((newR ss).1 + 1) % 2).toNat T = doneS ss (scrW ss bs) := by
          rw [← eDone]
          rfl
        rw [eD2]
        exact .inr (.inr ⟨by rw [newR_commit hok, LE], by omega, pages_commit hok⟩)
      · rw [if_neg hl] at okX ⊢
        have nw := aside_new F A h64
        exact .inr (.inl ⟨by rw [nw], pages_same nw A.page o1 okX⟩)
end

end Go.Proofs.YtjclpbaiiklhcaaGreatDoor

/- The walk of the law FnWhole. -/
namespace Go.Proofs.YtjclpbaiiklhcaaGreatDoor
open Go.RowKit

theorem implCut_val (v1 v2 bv vl : Value) (ss : List ByteArray) (ws : List Disk.Wr) (bs : List ByteArray) (dn : Int) (ls : List Bool) (tn : Int) (a0 a1 a2 a3 : Addr) (tg : TypeId) (pg : Value) (w : World) (c : Disk.CapS v1)
    (hv1 : Disk.SR w v1 ss) (hv2 : Disk.WR w v2 ws) (h1 : ss.length ≤ 10000000000000) (h2 : ws.length ≤ 10000000000000) (hbv : Disk.SR w bv bs) (h3 : bs.length ≤ 10000000000000) (hvl : Disk.LR w vl ls) (hC : Ctx a0 a1 a2 a3 w) (hG : w.cell? ⟨0, 0, none⟩ = some (.iface tg pg)) :
    Calls Tryz.prog 17 #[.agg #[v1, v2], bv, .int .i64 dn, vl, .int .i64 tn] w fun e w' => ∃ u1 u2, e = .returned (.agg #[u1, u2]) ∧ Disk.ND w.heap.size w' u1 u2 (cutS ss ws bs dn ls tn) [] ∧ Below w.heap.size w w' ∧ Disk.CapS u1 := by
  obtain ⟨ao, cap, rfl, hle⟩ := hcp_of hv1 c
  exact implCut_cap ao cap v2 bv vl ss ws bs dn ls tn a0 a1 a2 a3 tg pg w hv1 hle hv2 h1 h2 hbv h3 hvl hC hG
theorem app_copyS {ops : Array Oper} {rest : List Oper} {o : Oper} {a : Act} {Q : Exit → Act → World → Prop} (w : World) (hgd : o.guard = none) (s x : Operand)
    (ho : o.op = .call { callee := .builtin .append, args := #[s, x], argTypes := #[24, 24] }) (g : Nat) (hs : a.eval s = .slice (some ⟨g, 0, none⟩) 0 0) (v : Value) (ss : List ByteArray) (hx : a.eval x = v) (hv : Disk.SR w v ss) (hl : ss.length ≤ 1000000000000)
    (h : ∀ ao n cap w', Disk.NS w.heap.size w' (.slice ao n cap) ss → Below w.heap.size w w' → wpList Tryz.prog ops Q rest (a.put o.dst (.slice ao n cap)) w') : wpList Tryz.prog ops Q (o :: rest) a w :=
  wpList_plain hgd fun _ hK => by
    obtain ⟨v', w', hr, hN, hb, hcp⟩ := Disk.run_copyS w g v ss o.type hv hl
    obtain ⟨ao, n, cap, rfl⟩ := hN.s1
    unfold Oper.wp execOp
    simp only [ho, resolve, invoke, builtin, Sem.run_bind, Sem.run_pure, Result.andThen_ok, List.map_toArray, List.map_cons, List.map_nil, hs, hx, hr]
    exact hK _ _ (h ao n cap w' hN hb)
theorem cutS_len {ss bs : List ByteArray} {ws : List Disk.Wr} {dn tn : Int} {ls : List Bool} (_h : ss.length ≤ 64) : (cutS ss ws bs dn ls tn).length ≤ 64 := by
  by_cases k : scrOk ss ws bs = true ∧ 0 ≤ dn
  · have h64 := okD_len64 (scrOk_parts k.1).1
    have key : ∀ (Y : List ByteArray) (us : List Disk.Wr), Y.length = 64 → (Disk.crashS ls tn Y us).length ≤ 64 := fun Y us hY => by
      unfold Disk.crashS
      split
      · rw [Disk.crashN_length, hY]; exact Nat.le_refl _
      · exact Nat.zero_le _
    unfold cutS
    rw [if_pos k]
    split
    · exact key _ _ h64
    · exact key _ _ (by rw [doneS_length]; exact h64)
  · rw [cutS_no k]; exact Nat.zero_le _
theorem str_eqT {s t : ByteArray} (h : s = t) : (s.toList == t.toList) = true := by rw [h]; simp
theorem str_eqF {s t : ByteArray} (h : s ≠ t) : (s.toList == t.toList) = false := by
  simp
  intro e
  rw [ByteArray.toList_eq, ByteArray.toList_eq] at e
  exact h (ByteArray.ext (Array.toList_inj.1 e))
theorem empT {s : ByteArray} (h : s = ByteArray.empty) : s.toList.isEmpty = true := by rw [h, ByteArray.toList_eq]; rfl
theorem empF {s : ByteArray} (h : s ≠ ByteArray.empty) : s.toList.isEmpty = false := by
  rw [Bool.eq_false_iff]
  intro e
  rw [List.isEmpty_iff, ByteArray.toList_eq] at e
  exact h (ByteArray.ext (Array.toList_inj.1 e))
theorem app_empty {a b : ByteArray} (h : a ++ b = ByteArray.empty) : a = ByteArray.empty ∧ b = ByteArray.empty := by
  have hs : (a ++ b).size = 0 := by rw [h]; rfl
  rw [ByteArray.size_append] at hs
  exact ⟨ByteArray.ext (Array.eq_empty_of_size_eq_zero (show a.data.size = 0 by have : a.size = a.data.size := rfl; omega)), ByteArray.ext (Array.eq_empty_of_size_eq_zero (show b.data.size = 0 by have : b.size = b.data.size := rfl; omega))⟩
theorem other_box {B : Nat} {ao : Option Addr} {n cap : Nat} (w : World) (ss : List ByteArray) (q : Nat) (h64 : ss.length = 64) (hq : q < 2) (h : Disk.NS B w (.slice ao n cap) ss) :
    ∃ cb cc, (.slice ao n cap : Value) = .slice (some ⟨cb, 0, none⟩) 64 cc ∧ B ≤ cb ∧ cb < w.heap.size ∧
      (w.alloc (.cells #[.slice (some ⟨cb, 0, none⟩) 64 cc, .slice none 0 0] 27)).cell? ⟨cb, q, none⟩ = some (.string (textAt ss q)) ∧
      (w.alloc (.cells #[.slice (some ⟨cb, 0, none⟩) 64 cc, .slice none 0 0] 27)).frozen? ⟨cb, q, none⟩ = false ∧
      ((w.setCell ⟨cb, q, none⟩ (.string ⟨#[]⟩)).alloc (.cells #[.slice (some ⟨cb, 0, none⟩) 64 cc, .slice none 0 0] 27)).cell? ⟨w.heap.size, 0, none⟩ = some (.slice (some ⟨cb, 0, none⟩) 64 cc) ∧
      ((w.setCell ⟨cb, q, none⟩ (.string ⟨#[]⟩)).alloc (.cells #[.slice (some ⟨cb, 0, none⟩) 64 cc, .slice none 0 0] 27)).cell? ⟨w.heap.size, 1, none⟩ = some (.slice none 0 0) ∧
      Disk.NS B ((w.setCell ⟨cb, q, none⟩ (.string ⟨#[]⟩)).alloc (.cells #[.slice (some ⟨cb, 0, none⟩) 64 cc, .slice none 0 0] 27)) (.slice (some ⟨cb, 0, none⟩) 64 cc) (ss.set q ByteArray.empty) := by
  obtain ⟨cb, cc, ec, hcB, hcw, hcells, hfz⟩ := h.form (by omega)
  rw [h64] at ec
  rw [ec] at h
  have nD := h.later (Disk.bel_one w (.cells #[.slice (some ⟨cb, 0, none⟩) 64 cc, .slice none 0 0] 27))
  obtain ⟨cb', cc', e2, _, _, hcells2, hfz2⟩ := nD.form (by omega)
  rw [h64] at e2
  simp only [Value.slice.injEq, Option.some.injEq, Addr.mk.injEq, and_true, true_and] at e2
  obtain ⟨rfl, rfl⟩ := e2
  have hsz : (w.setCell ⟨cb, q, none⟩ (.string ⟨#[]⟩)).heap.size = w.heap.size := by simp
  have BN := Bx.new (w.setCell ⟨cb, q, none⟩ (.string ⟨#[]⟩)) (.slice (some ⟨cb, 0, none⟩) 64 cc) (.slice none 0 0)
  rw [hsz] at BN
  exact ⟨cb, cc, ec, hcB, hcw, hcells2 q (by omega), hfz2 q, BN.c0, BN.c1, (h.put ByteArray.empty (by omega)).later (Disk.bel_one _ _)⟩

theorem fair_of {ss : List ByteArray} {E f : Int} {L : List Int} {q r : Nat} (hE : Hid (E = (newR ss).1)) (hL : Hid (L = (newR ss).2)) (hQ : Hid ((E % 2).toNat = q ∧ ((E + 1) % 2).toNat = r)) (hF : Hid (f = (newR (ss.set q ByteArray.empty)).1))
    (h1 : 0 < E → textAt ss q = supT E L) (h2 : E = 0 → textAt ss 0 ++ textAt ss 1 = ByteArray.empty) (h3 : f = 0 → textAt ss r = ByteArray.empty) : Fair ss := by
  refine ⟨?_, ?_, ?_⟩
  · rw [← hE.out, ← hL.out, hQ.out.1]; exact h1
  · rw [← hE.out]; exact fun h => app_empty (h2 h)
  · rw [← hE.out, hQ.out.1, hQ.out.2, ← hF.out]; exact h3

theorem scrW_last {ss bs : List ByteArray} {p : Nat} (h : (scrW ss bs).length = p + 1) : ((scrW ss bs).getD p Disk.wr0).2 = supT (lastE ss + 1) (scrP ss bs bs.length).2 := by
  have hl : p = (scrP ss bs bs.length).1.length := by
    unfold scrW at h
    rw [List.length_append, List.length_singleton] at h
    omega
  unfold scrW
  rw [hl, List.getD_eq_getElem?_getD, List.getElem?_append_right (Nat.le_refl _), Nat.sub_self]
  rfl

set_option maxRecDepth 100000 in
set_option maxHeartbeats 24000000 in
theorem lawWhole_any (cv : Value) (cs : List UInt8) (a0 a1 a2 a3 : Addr) (tg : TypeId) (pg : Value) (w : World) (hc : BR w cv cs) (hC : Ctx a0 a1 a2 a3 w) (hG : w.cell? ⟨0, 0, none⟩ = some (.iface tg pg)) :
    Calls Tryz.prog 4 #[cv] w fun x w' => x = .returned (.bool true) ∧ Below w.heap.size w w' := by
  have hmx : Tryz.prog.follows .mixedOrders = true := by kernel_rfl
  have BG := big_any cv cs w hc
  by_cases hbig : 4096 < cs.length
  · rw [decide_eq_true hbig] at BG
    go_enter Tryz.func4, Tryz.ntmps4
    go_wp2_with (go_at_call 5; refine BG.mono ?_; rintro x w' ⟨rfl, rfl⟩)
    go_ret
    exact ⟨rfl, Below.refl _ _⟩
  rw [decide_eq_false hbig] at BG
  have DP := drawCut_any cv cs w hc (by omega)
  go_enter Tryz.func4, Tryz.ntmps4
  go_wp2_with fail
  refine BG.mono ?_
  rintro x w0 ⟨rfl, rfl⟩
  clear BG
  go_wp2_with fail
  refine DP.mono ?_
  rintro x w1 ⟨⟨u1, u2, bv, vl, ss, ws, bs, ls, dn, tn, rfl, s1, s2, s3, s4, l1, l2, l3, l4, cp, dp⟩, hb1⟩
  clear DP
  have t1 := s1
  have t2 := s2
  have t3 := s3
  have t4 := s4
  obtain ⟨p1, k1, rfl, _⟩ := s1
  obtain ⟨p2, k2, rfl, _⟩ := s2
  obtain ⟨p3, k3, rfl, _⟩ := s3
  obtain ⟨p4, k4, rfl, _⟩ := s4
  have hC1 := hC.later hb1
  have hG1 := cell_later hb1 hG
  have CI := fun W (hb : Below w1.heap.size w1 W) => implCut_val (.slice p1 ss.length k1) (.slice p2 ws.length k2) (.slice p3 bs.length k3) (.slice p4 ls.length k4) ss ws bs dn ls tn a0 a1 a2 a3 tg pg W cp (t1.later hb) (t2.later hb) (by omega) (by omega) (t3.later hb) (by omega) (t4.later hb) (hC1.later hb) (cell_later hb hG1)
  have CS := fun W (hb : Below w1.heap.size w1 W) => specCut_any (.slice p1 ss.length k1) (.slice p2 ws.length k2) (.slice p3 bs.length k3) (.slice p4 ls.length k4) ss ws bs dn ls tn W (t1.later hb) (t2.later hb) (by omega) (by omega) (t3.later hb) (by omega) (t4.later hb) (by omega)
  have SS : Hid (∀ W (hb : Below w1.heap.size w1 W), _) := fun W (hb : Below w1.heap.size w1 W) => specScript_any (.slice p1 ss.length k1) (.slice p2 ws.length k2) (.slice p3 bs.length k3) ss ws bs W (t1.later hb) (t2.later hb) (by omega) (by omega) (t3.later hb) (by omega)
  have SNW : Hid (∀ W (hb : Below w1.heap.size w1 W), _) := fun W (hb : Below w1.heap.size w1 W) => specNewest_any (.slice p1 ss.length k1) (.slice p2 ws.length k2) ss ws W (t1.later hb) (t2.later hb) (by omega) (by omega) (ss_of (t1.later hb))
  have SPG : Hid (∀ W (hb : Below w1.heap.size w1 W), _) := fun W (hb : Below w1.heap.size w1 W) => specPages_any (.slice p1 ss.length k1) (.slice p2 ws.length k2) ss ws W (t1.later hb) (t2.later hb) (by omega) (by omega)
  have B3 : Hid (∀ W (hb : Below w1.heap.size w1 W), Disk.SR W (.slice p3 bs.length k3) bs ∧ Disk.SR W (.slice p1 ss.length k1) ss ∧ Ctx a0 a1 a2 a3 W) := fun W hb => ⟨t3.later hb, t1.later hb, hC1.later hb⟩
  have b31 : Hid (bs.length ≤ 31 ∧ ws.length ≤ 300 ∧ ss.length ≤ 64) := ⟨l3, l2, l1⟩
  have DPH : Hid (ss.length = 64 → ∀ i, i < 2 → DPt (textAt ss i)) := dp
  have LX : Hid ((cutS ss ws bs dn ls tn).length ≤ 64) := cutS_len l1
  generalize hX : cutS ss ws bs dn ls tn = X at CI CS LX
  have hX : Hid (cutS ss ws bs dn ls tn = X) := hX
  clear t1 t2 t3 t4 hC1 hG1 cp l1 l2 l3 l4 dp hbig
  go_wp2_with fail
  have hA := Disk.bel_one w1 (.cells #[.slice p1 ss.length k1, .slice p2 ws.length k2] 27)
  refine (CI _ hA).mono ?_
  rintro x w2 ⟨x1, x2, rfl, nX, hb2, cX⟩
  obtain ⟨b1, j1, e1, _⟩ := id nX.2.2.1
  obtain ⟨b2, j2, e2, _⟩ := id nX.2.2.2.1
  subst e1
  subst e2
  have hB := Disk.bel_one w2 (.cells #[.slice b1 X.length j1, .slice b2 0 j2] 27)
  have xA := ((Bx.new w1 (.slice p1 ss.length k1) (.slice p2 ws.length k2)).later hb2).later hB
  have xB := Bx.new w2 (.slice b1 X.length j1) (.slice b2 0 j2)
  have bl3 := bel_after (bel_after hA hb2) hB
  have r1 := nX.2.2.1.later hB
  have r2 := nX.2.2.2.1.later hB
  have nX1 : Disk.NS w1.heap.size _ (.slice b1 X.length j1) X := (Disk.NS.mono ⟨nX.1, nX.2.2.1, nX.2.2.2.2.1⟩ hA.size).later hB
  clear CI nX hA hb2 hB
  go_wp2_with fail
  generalize hw3 : w2.alloc (.cells #[.slice b1 X.length j1, .slice b2 0 j2] 27) = w3 at *
  generalize w2.heap.size = XB at *
  clear hw3
  have y0 := xA.c0
  have y1 := xA.c1
  have z0 := xB.c0
  have z1 := xB.c1
  refine Disk.z_plain 99 (fun W' => W'.cell? ⟨w1.heap.size, 0, none⟩ = some (.slice p1 ss.length k1) ∧ W'.cell? ⟨w1.heap.size, 1, none⟩ = some (.slice p2 ws.length k2) ∧ W'.cell? ⟨XB, 0, none⟩ = some (.slice b1 X.length j1) ∧ W'.cell? ⟨XB, 1, none⟩ = some (.slice b2 0 j2)) hmx ⟨y0, y1, z0, z1⟩ (fun hs => ?_)
  refine Disk.z_take 0 41 (v := .agg #[.slice b1 X.length j1, .slice b2 0 j2]) rfl rfl (by kernel_rfl) (by kernel_rfl) (by kernel_rfl) (by kernel_rfl) (by rfl) hs (fun W' hSw => (by have q1 := hSw.1; have q2 := hSw.2.1; have q3 := hSw.2.2.1; have q4 := hSw.2.2.2; go_simp; first | done | with_reducible rfl)) ?_
  simp only [List.setIfInBounds_toArray, List.set_cons_zero, List.set_cons_succ]
  refine Disk.z_take 1 42 (v := .agg #[.slice p1 ss.length k1, .slice p2 ws.length k2]) rfl rfl (by kernel_rfl) (by kernel_rfl) (by kernel_rfl) (by kernel_rfl) (by rfl) hs (fun W' hSw => (by have q1 := hSw.1; have q2 := hSw.2.1; have q3 := hSw.2.2.1; have q4 := hSw.2.2.2; go_simp; first | done | with_reducible rfl)) ?_
  simp only [List.setIfInBounds_toArray, List.set_cons_zero, List.set_cons_succ]
  refine Disk.z_take 2 43 (v := .slice p3 bs.length k3) rfl rfl (by kernel_rfl) (by kernel_rfl) (by kernel_rfl) (by kernel_rfl) (by rfl) hs (fun W' hSw => (by go_simp; first | done | with_reducible rfl)) ?_
  simp only [List.setIfInBounds_toArray, List.set_cons_zero, List.set_cons_succ]
  refine Disk.z_take 3 44 (v := .int .i64 dn) rfl rfl (by kernel_rfl) (by kernel_rfl) (by kernel_rfl) (by kernel_rfl) (by rfl) hs (fun W' hSw => (by go_simp; first | done | with_reducible rfl)) ?_
  simp only [List.setIfInBounds_toArray, List.set_cons_zero, List.set_cons_succ]
  refine Disk.z_take 4 45 (v := .slice p4 ls.length k4) rfl rfl (by kernel_rfl) (by kernel_rfl) (by kernel_rfl) (by kernel_rfl) (by rfl) hs (fun W' hSw => (by go_simp; first | done | with_reducible rfl)) ?_
  simp only [List.setIfInBounds_toArray, List.set_cons_zero, List.set_cons_succ]
  refine Disk.z_take 5 46 (v := .int .i64 tn) rfl rfl (by kernel_rfl) (by kernel_rfl) (by kernel_rfl) (by kernel_rfl) (by rfl) hs (fun W' hSw => (by go_simp; first | done | with_reducible rfl)) ?_
  simp only [List.setIfInBounds_toArray, List.set_cons_zero, List.set_cons_succ]
  have d3 : Below w3.heap.size w3 w3.drew := (Below.refl _ _).drew
  refine Disk.z_call 6 47 rfl rfl (by kernel_rfl) (by rfl) (f := 18) (args := #[.agg #[.slice p1 ss.length k1, .slice p2 ws.length k2], .slice p3 bs.length k3, .int .i64 dn, .slice p4 ls.length k4, .int .i64 tn]) (w0 := w3.drew) (by go_simp; first | done | with_reducible rfl) ?_
  refine (CS _ (bel_after bl3 d3)).mono ?_
  rintro x w4 ⟨q1, q2, rfl, nQ, hb4⟩
  have xA := (xA.later d3).later hb4
  have xB := (xB.later d3).later hb4
  have r1 := (r1.later d3).later hb4
  have r2 := (r2.later d3).later hb4
  have nX1 := (nX1.later d3).later hb4
  have bl4 := bel_after bl3 (bel_after d3 hb4)
  refine ⟨_, rfl, .inr ⟨xA.c0, xA.c1, xB.c0, xB.c1⟩, ?_⟩
  simp only [List.setIfInBounds_toArray, List.set_cons_zero, List.set_cons_succ]
  have LK := likeDisk_same _ _ q1 q2 X [] w4 r1 nQ.2.2.1 r2 nQ.2.2.2.1 (by have := LX.out; omega) (by simp)
  clear CS nQ hb4 hs y0 y1 z0 z1 bl3 d3
  refine Disk.z_call 7 48 rfl rfl (by kernel_rfl) (by rfl) (f := 9) (args := #[.agg #[.slice b1 X.length j1, .slice b2 0 j2], .agg #[q1, q2]]) (w0 := w4) (by go_simp; first | done | with_reducible rfl) ?_
  refine LK.mono ?_
  rintro x w5 ⟨rfl, hb5⟩
  have xA := xA.later hb5
  have xB := xB.later hb5
  have r1 := r1.later hb5
  have r2 := r2.later hb5
  have nX1 := nX1.later hb5
  have bl5 := bel_after bl4 hb5
  have hs5 : w5.cell? ⟨w1.heap.size, 0, none⟩ = some (.slice p1 ss.length k1) ∧ w5.cell? ⟨w1.heap.size, 1, none⟩ = some (.slice p2 ws.length k2) ∧ w5.cell? ⟨XB, 0, none⟩ = some (.slice b1 X.length j1) ∧ w5.cell? ⟨XB, 1, none⟩ = some (.slice b2 0 j2) := ⟨xA.c0, xA.c1, xB.c0, xB.c1⟩
  refine ⟨_, rfl, .inr hs5, ?_⟩
  simp only [List.setIfInBounds_toArray, List.set_cons_zero, List.set_cons_succ]
  clear LK hb5 bl4
  refine Disk.z_run 8 49 (v := .bool false) rfl rfl (by kernel_rfl) (by rfl) (by go_simp; first | done | with_reducible rfl) (.inr hs5) ?_
  simp only [List.setIfInBounds_toArray, List.set_cons_zero, List.set_cons_succ]
  refine Disk.z_done (by kernel_rfl) ?_ _
  clear hs5
  have y0 := xA.c0
  have y1 := xA.c1
  have z0 := xB.c0
  have z1 := xB.c1
  by_cases hx0 : X.length = 0
  · have e0 : ((X.length : Int) == 0) = true := by simp [hx0]
    have e1 : decide ((X.length : Int) = 0) = true := by simp [hx0]
    clear hx0
    go_wp2
    go_ret
    exact ⟨rfl, bel_after hb1 bl5⟩
  have e0 : ((X.length : Int) == 0) = false := by simp; intro e; exact hx0 (by rw [e]; rfl)
  have e1 : decide ((X.length : Int) = 0) = false := by simp; intro e; exact hx0 (by rw [e]; rfl)
  have hyes : scrOk ss ws bs = true ∧ 0 ≤ dn := Classical.byContradiction fun h => hx0 (by rw [← hX.out, cutS_no h]; rfl)
  obtain ⟨hok, hdn⟩ := hyes
  obtain ⟨o1, o2, o3, o4⟩ := scrOk_parts hok
  have h64 := okD_len64 o1
  have nn := newR_nonneg ss
  have h8 : (newR ss).1 ≤ 99999998 := by
    rcases newR_super ss with h | ⟨t, ht, h⟩
    · rw [h]; decide
    · obtain ⟨_, g2, _⟩ := superR_pos (e := (newR ss).1) (l := (newR ss).2) h
      have dt : DPt t := by
        rcases ht with rfl | rfl
        · exact DPH.out h64 0 (by omega)
        · exact DPH.out h64 1 (by omega)
      have := newR_le ss
      have := dt _ _ g2
      omega
  have WP : Hid (Fair ss → _) := fun F => whole_plain hok F h8 dn ls tn hdn
  rw [hX.out] at WP
  have OKL : Hid ((newR ss).2.length ≤ 30) := (newR_ok ss).2
  have OXL : X.length = 64 := by
    by_cases hh : X.length = 64
    · exact hh
    · exfalso
      have hc : Hid (X = cutS ss ws bs dn ls tn) := hX.out.symm
      have : Disk.okD X [] = true ∨ X.length = 0 := by
        rw [hc.out]
        unfold cutS
        split
        · split
          · by_cases q : Disk.okD ss ((scrW ss bs).take dn.toNat) = true
            · exact .inl (Disk.crash_ok q)
            · right; unfold Disk.crashS; rw [if_neg q]; rfl
          · by_cases q : Disk.okD (doneS ss ((scrW ss bs).take ((scrW ss bs).length - 1))) ((scrW ss bs).drop ((scrW ss bs).length - 1)) = true
            · exact .inl (Disk.crash_ok q)
            · right; unfold Disk.crashS; rw [if_neg q]; rfl
        · exact .inr rfl
      rcases this with h | h
      · exact hh (okD_len64 h)
      · exact hx0 h
  have SN := SNW.out _ bl5
  have SP : Hid (∀ W (hb : Below w1.heap.size w1 W), _) := SPG.out
  have SO : Hid (∀ W (hb : Below w1.heap.size w1 W), Disk.SR W (.slice p1 64 k1) ss) := fun W hb => by have := (B3.out W hb).2.1; rwa [h64] at this
  rw [newestR_yes o1] at SN
  rw [h64] at SN SP SS xA
  rw [OXL] at xB r1 nX1 cX
  obtain ⟨b, o', ep, _⟩ := (B3.out _ bl5).2.1.cellAt 0 (by omega)
  subst ep
  have SQ : Hid (∀ W (hb : Below w1.heap.size w1 W) i, i < 64 → W.cell? ⟨b, o' + i, none⟩ = some (.string (textAt ss i))) := fun W hb i hi => by
    obtain ⟨b', o'', e, hc⟩ := (B3.out W hb).2.1.cellAt i (by omega)
    simp only [Option.some.injEq, Addr.mk.injEq, and_true] at e
    obtain ⟨rfl, rfl⟩ := e
    exact hc
  have okE : ∀ q, Disk.okD (ss.set q ByteArray.empty) [] = true := fun q => okD_mk (by rw [List.length_set]; exact h64) (by simp) (fun s hs => by
    rcases List.mem_or_eq_of_mem_set hs with h | h
    · exact okD_fit o1 s h
    · rw [h]; decide) (by simp)
  have OKE : Hid (∀ q, Disk.okD (ss.set q ByteArray.empty) [] = true) := okE
  have hok : Hid (scrOk ss ws bs = true) := hok
  have o1 : Hid (Disk.okD ss ws = true) := o1
  have hdn : Hid (0 ≤ dn) := hdn
  have OX : Hid (X.length = 64) := OXL
  have O64 : Hid (ss.length = 64) := h64
  obtain ⟨E, hE'⟩ : ∃ E, E = (newR ss).1 := ⟨_, rfl⟩
  obtain ⟨L, hL'⟩ : ∃ L, L = (newR ss).2 := ⟨_, rfl⟩
  rw [← hE'] at nn h8 SN WP
  rw [← hL'] at SN OKL
  have hE : Hid (E = (newR ss).1) := hE'
  have hL : Hid (L = (newR ss).2) := hL'
  clear hE' hL'
  have hm0 : E.tmod 2 = E % 2 := Int.tmod_eq_emod_of_nonneg nn
  have hm1 : (E + 1).tmod 2 = (E + 1) % 2 := Int.tmod_eq_emod_of_nonneg (by omega)
  obtain ⟨q, hq, hq2⟩ : ∃ q : Nat, E.tmod 2 = (q : Int) ∧ q < 2 := ⟨(E % 2).toNat, by omega, by omega⟩
  obtain ⟨r, hr, hr2⟩ : ∃ r : Nat, (E + 1).tmod 2 = (r : Int) ∧ r < 2 := ⟨((E + 1) % 2).toNat, by omega, by omega⟩
  have hQE : Hid ((E % 2).toNat = q ∧ ((E + 1) % 2).toNat = r) := ⟨by omega, by omega⟩
  have hwr : IntKind.i64.wrap (E + 1) = E + 1 := wrap_small _ (by omega) (by omega)
  clear hm0 hm1 o2 o3 o4 okE h64 OXL hx0 SNW SPG y0 y1 z0 z1
  have y0 := xA.c0
  have y1 := xA.c1
  have z0 := xB.c0
  have z1 := xB.c1
  go_wp2_with fail
  refine SN.mono ?_
  rintro x w6 ⟨⟨lv, rfl, iL⟩, hb6⟩
  clear SN y0 y1 z0 z1
  obtain ⟨la, lk, rfl, lle, lcells⟩ := id iL
  clear lcells
  have xA := xA.later hb6
  have xB := xB.later hb6
  have r1 := r1.later hb6
  have r2 := r2.later hb6
  have bl6 := bel_after bl5 hb6
  clear bl5
  clear hb6
  have y0 := xA.c0
  have y1 := xA.c1
  have SPd := SP.out _ bl6
  go_wp2_with fail
  refine SPd.mono ?_
  rintro x w7 ⟨⟨ov, rfl, oO⟩, hb7⟩
  clear SPd y0 y1
  have sO : Disk.SR _ _ _ := sr_text oO
  obtain ⟨oa, okk, rfl, _⟩ := id sO
  clear oO
  have xA := xA.later hb7
  have xB := xB.later hb7
  have r1 := r1.later hb7
  have r2 := r2.later hb7
  have bl7 := bel_after bl6 hb7
  clear bl6
  have OLD : Hid (∀ W (hb : Below w7.heap.size w7 W), Disk.SR W (.slice oa (pagesR ss ws).length okk) (pagesR ss ws)) := fun W hb => sO.later hb
  have OL : Hid ((pagesR ss ws).length ≤ 30) := by have h := newest_len ss ws; rw [← pagesR_length] at h; exact h
  have ST := specSuper_any E _ L w7 (iL.later hb7) (by have := OKL.out; omega)
  clear hb7 sO iL
  go_wp2_with fail
  refine ST.mono ?_
  rintro x w8 ⟨rfl, hb8⟩
  clear ST
  have OLD : Hid (∀ W (hb : Below w8.heap.size w8 W), Disk.SR W (.slice oa (pagesR ss ws).length okk) (pagesR ss ws)) := fun W hb => OLD.out W (bel_after hb8 hb)
  have xA := xA.later hb8
  have xB := xB.later hb8
  have r1 := r1.later hb8
  have r2 := r2.later hb8
  have bl8 := bel_after bl7 hb8
  clear bl7
  clear hb8
  have y0 := xA.c0
  have y1 := xA.c1
  have z0 := xB.c0
  have z1 := xB.c1
  have hA8 := Disk.bel_one w8 (.cells #[] 9)
  have y0' := cell_later hA8 y0
  have y1' := cell_later hA8 y1
  go_wp2_with (at_builtin; refine app_copyS _ rfl _ _ rfl w8.heap.size rfl _ ss rfl (SO.out _ (bel_after bl8 hA8)) (by have := O64.out; omega) ?_; intro ao n cap w9 nC hb9; obtain ⟨cb, cc, ec, hcB, hcw, kq, kf, zz0, zz1, nE⟩ := other_box w9 ss q O64.out hq2 nC; simp only [Value.slice.injEq] at ec; obtain ⟨rfl, rfl, rfl⟩ := ec)
  clear nC y0' y1' y0 y1 z0 z1 kq kf
  have hbz := bel_after (hb9.setCell (p := ⟨cb, q, none⟩) hcB (.string ⟨#[]⟩)) (Disk.bel_one _ (.cells #[.slice (some ⟨cb, 0, none⟩) 64 cap, .slice none 0 0] 27))
  generalize (w9.setCell ⟨cb, q, none⟩ (.string ⟨#[]⟩)).alloc (.cells #[.slice (some ⟨cb, 0, none⟩) 64 cap, .slice none 0 0] 27) = wz at *
  have xA := (xA.later hA8).later hbz
  have xB := (xB.later hA8).later hbz
  have r1 := (r1.later hA8).later hbz
  have r2 := (r2.later hA8).later hbz
  have blz := bel_after bl8 (bel_after hA8 hbz)
  have OLD : Hid (∀ W (hb : Below wz.heap.size wz W), Disk.SR W (.slice oa (pagesR ss ws).length okk) (pagesR ss ws)) := fun W hb => OLD.out W (bel_after (bel_after hA8 hbz) hb)
  have SNO := specNewest_any (.slice (some ⟨cb, 0, none⟩) 64 cap) (.slice none 0 0) (ss.set q ByteArray.empty) [] wz nE.2.1 ⟨none, 0, rfl, fun i hi => absurd hi (by simp)⟩ (by rw [List.length_set, O64.out]; omega) (by simp) (ss_of nE.2.1)
  rw [newestR_yes (OKE.out q)] at SNO
  obtain ⟨f, hf'⟩ : ∃ f, f = (newR (ss.set q ByteArray.empty)).1 := ⟨_, rfl⟩
  rw [← hf'] at SNO
  have hF : Hid (f = (newR (ss.set q ByteArray.empty)).1) := hf'
  generalize (newR (ss.set q ByteArray.empty)).2 = FL at SNO
  clear hf' hb9 hA8 hbz nE hcB hcw
  refine SNO.mono ?_
  rintro x wy ⟨⟨fv, rfl, iF⟩, hby⟩
  clear SNO zz0 zz1 bl8
  obtain ⟨fa, fk, rfl, _⟩ := iF
  have xA := xA.later hby
  have xB := xB.later hby
  have r1 := r1.later hby
  have r2 := r2.later hby
  have bly := bel_after blz hby
  have OLD : Hid (∀ W (hb : Below wy.heap.size wy W), Disk.SR W (.slice oa (pagesR ss ws).length okk) (pagesR ss ws)) := fun W hb => OLD.out W (bel_after hby hb)
  clear blz hby
  have y0 := xA.c0
  have y1 := xA.c1
  have cq := SQ.out _ bly q (by omega)
  have cr := SQ.out _ bly r (by omega)
  have c0 : wy.cell? ⟨b, o', none⟩ = some (.string (textAt ss 0)) := SQ.out _ bly 0 (by omega)
  have c1 := SQ.out _ bly 1 (by omega)
  have sz0 : (textAt ss 0).size ≤ 256 := (Disk.okD_all o1.out).2.2.1 0 (by have := O64.out; omega)
  have sz1 : (textAt ss 1).size ≤ 256 := (Disk.okD_all o1.out).2.2.1 1 (by have := O64.out; omega)
  have FO : Hid (∀ (h1 : 0 < E → textAt ss q = supT E L) (h2 : E = 0 → textAt ss 0 ++ textAt ss 1 = ByteArray.empty) (h3 : f = 0 → textAt ss r = ByteArray.empty), Fair ss) := fair_of hE hL hQE hF
  go_wp2_with fail
  go_cut [127] (fun cv wc => ∃ c : Bool, cv = .bool c ∧ (c = false → Fair ss) ∧ Below wy.heap.size wy wc)
  case first =>
    clear r1 r2 xA xB WP bly OLD
    by_cases e0 : 0 < E
    · have D1 : decide (0 < E) = true := by simp [e0]
      have G1 : (E == 0) = false := by simp; omega
      have G2 : decide (E = 0) = false := by simp; omega
      by_cases b0 : textAt ss q = supT E L
      · have S1 := str_eqT b0
        by_cases f0 : f = 0
        · have F1 : (f == 0) = true := by simp [f0]
          have F2 : decide (f = 0) = true := by simp [f0]
          by_cases x0 : textAt ss r = ByteArray.empty
          · have X1 := empT x0
            have FF := FO.out (fun _ => b0) (fun h => absurd h (by omega)) (fun _ => x0)
            clear FO
            try clear f0
            go_quiet (fail)
            go_wp2_with fail
            go_meet
            exact ⟨_, rfl, fun _ => FF, below_drewN (Below.refl _ _) _⟩
          · have X1 := empF x0
            clear FO
            try clear f0
            go_quiet (fail)
            go_wp2_with fail
            go_meet
            exact ⟨_, rfl, fun h => absurd h (by first | (simp; done) | simp [X1] | simp [S1]), below_drewN (Below.refl _ _) _⟩
        · have F1 : (f == 0) = false := by simp [f0]
          have F2 : decide (f = 0) = false := by simp [f0]
          have FF := FO.out (fun _ => b0) (fun h => absurd h (by omega)) (fun h => absurd h f0)
          clear FO
          try clear f0
          go_quiet (fail)
          go_wp2_with fail
          go_meet
          exact ⟨_, rfl, fun _ => FF, below_drewN (Below.refl _ _) _⟩
      · have S1 := str_eqF b0
        clear FO
        try clear f0
        go_quiet (fail)
        go_wp2_with fail
        go_meet
        exact ⟨_, rfl, fun h => absurd h (by first | (simp; done) | simp [X1] | simp [S1]), below_drewN (Below.refl _ _) _⟩
    · have D1 : decide (0 < E) = false := by simp; omega
      have G1 : (E == 0) = true := by simp; omega
      have G2 : decide (E = 0) = true := by simp; omega
      by_cases d0 : textAt ss 0 ++ textAt ss 1 = ByteArray.empty
      · have S1 := empT d0
        by_cases f0 : f = 0
        · have F1 : (f == 0) = true := by simp [f0]
          have F2 : decide (f = 0) = true := by simp [f0]
          by_cases x0 : textAt ss r = ByteArray.empty
          · have X1 := empT x0
            have FF := FO.out (fun h => absurd h e0) (fun _ => d0) (fun _ => x0)
            clear FO
            try clear f0
            go_quiet (fail)
            go_wp2_with fail
            go_meet
            exact ⟨_, rfl, fun _ => FF, below_drewN (Below.refl _ _) _⟩
          · have X1 := empF x0
            clear FO
            try clear f0
            go_quiet (fail)
            go_wp2_with fail
            go_meet
            exact ⟨_, rfl, fun h => absurd h (by first | (simp; done) | simp [X1] | simp [S1]), below_drewN (Below.refl _ _) _⟩
        · have F1 : (f == 0) = false := by simp [f0]
          have F2 : decide (f = 0) = false := by simp [f0]
          have FF := FO.out (fun h => absurd h e0) (fun _ => d0) (fun h => absurd h f0)
          clear FO
          try clear f0
          go_quiet (fail)
          go_wp2_with fail
          go_meet
          exact ⟨_, rfl, fun _ => FF, below_drewN (Below.refl _ _) _⟩
      · have S1 := empF d0
        clear FO
        try clear f0
        go_quiet (fail)
        go_wp2_with fail
        go_meet
        exact ⟨_, rfl, fun h => absurd h (by first | (simp; done) | simp [X1] | simp [S1]), below_drewN (Below.refl _ _) _⟩
  case rest =>
    obtain ⟨c, rfl, hf, hbc⟩ := hcut
    have xA := xA.later hbc
    have xB := xB.later hbc
    have r1 := r1.later hbc
    have r2 := r2.later hbc
    have blc := bel_after bly hbc
    have OLD : Hid (∀ W (hb : Below wc.heap.size wc W), Disk.SR W (.slice oa (pagesR ss ws).length okk) (pagesR ss ws)) := fun W hb => OLD.out W (bel_after hbc hb)
    clear y0 y1 cq cr c0 c1 bly hbc FO sz0 sz1
    cases c
    case true =>
      go_wp2
      go_ret
      exact ⟨rfl, bel_after hb1 blc⟩
    case false =>
      have W3 := WP.out (hf rfl)
      clear hf WP
      obtain ⟨okX, W3⟩ := W3
      have NX : Hid (newestR X [] = newR X) := newestR_yes okX
      rw [hQE.out.2] at W3
      have W3 : Hid _ := W3
      have okX : Hid (Disk.okD X [] = true) := okX
      have y0 := xA.c0
      have y1 := xA.c1
      have SC := SS.out _ blc
      obtain ⟨p, hp⟩ : ∃ p, (scrW ss bs).length = p + 1 := ⟨(scrW ss bs).length - 1, by have := (scrW_length ss bs).1; omega⟩
      have hp31 : p ≤ 31 := by have := (scrW_length ss bs).2; have := b31.out.1; omega
      rw [scriptR_yes hok.out] at SC
      have LST : Hid (((scrW ss bs).getD p Disk.wr0).2 = supT (lastE ss + 1) (scrP ss bs bs.length).2) := scrW_last hp
      go_wp2_with fail
      refine SC.mono ?_
      rintro x wd ⟨⟨sv, rfl, nS⟩, hbd⟩
      clear SC y0 y1
      have nS := nS.2.1
      obtain ⟨sa, sk, rfl, hS⟩ := nS
      obtain ⟨sb, so, rfl, sx0, sx⟩ := hS p (by omega)
      clear sx0
      rw [LST.out] at sx
      rw [hp]
      have xA := xA.later hbd
      have xB := xB.later hbd
      have r1 := r1.later hbd
      have r2 := r2.later hbd
      have bld := bel_after blc hbd
      have OLD : Hid (∀ W (hb : Below wd.heap.size wd W), Disk.SR W (.slice oa (pagesR ss ws).length okk) (pagesR ss ws)) := fun W hb => OLD.out W (bel_after hbd hb)
      have y0 := xA.c0
      have y1 := xA.c1
      have z0 := xB.c0
      have z1 := xB.c1
      have cr := SQ.out _ bld r (by omega)
      have r1' : Disk.SR wd (.slice b1 64 j1) X := r1
      obtain ⟨xb, xo, ex, cx'⟩ := r1'.cellAt r (by have := OX.out; omega)
      have cx : wd.cell? ⟨xb, xo + r, none⟩ = some (.string (textAt X r)) := cx'
      clear cx'
      subst ex
      clear hS r1' blc hbd
      have hw1 : IntKind.i64.wrap (p : Int) = (p : Int) := wrap_small _ (by omega) (by omega)
      have hw2 : IntKind.i64.wrap ((p : Int) + 1 - 1) = (p : Int) := by rw [Int.add_sub_cancel]; exact hw1
      have hw3 : IntKind.i64.wrap ((p : Int) + 1) = (p : Int) + 1 := wrap_small _ (by omega) (by omega)
      have SX := specNewest_any (.slice (some ⟨xb, xo, none⟩) 64 j1) (.slice b2 0 j2) X [] wd r1 r2 (by have := OX.out; omega) (by simp) (ss_of r1)
      rw [NX.out] at SX
      have hp : Hid ((scrW ss bs).length = p + 1) := hp
      by_cases h1 : textAt X r = supT (lastE ss + 1) (scrP ss bs bs.length).2
      · have S1 := str_eqT h1
        have k : ((newR X).1 = E ∧ pagesR X [] = pagesR ss ws) ∨ ((newR X).1 = E + 1 ∧ ((scrW ss bs).length : Int) ≤ dn ∧ pagesR X [] = bs) := W3.out.resolve_left (fun h => h.1 h1)
        clear h1 SX
        rcases k with k | k
        · obtain ⟨fE, fP⟩ := k
          have PG := implPages_cap _ _ X [] a0 a1 a2 a3 wd r1 r2 (by have := OX.out; omega) (by simp) (hcp_of (v := .slice (some ⟨xb, xo, none⟩) 64 j1) r1 cX) (B3.out _ bld).2.2
          rw [NX.out] at PG
          rw [fE, fP] at PG
          clear fE fP W3
          go_wp2_with fail
          refine PG.mono ?_
          rintro x wp ⟨⟨pv, rfl, oP⟩, hbp⟩
          clear PG
          have sP := sr_text oP
          obtain ⟨pq, pk, rfl, _⟩ := id sP
          clear oP
          have blp := bel_after bld hbp
          have LT := likeTexts_same _ _ _ wp sP (OLD.out _ hbp) (by have := OL.out; omega)
          clear sP xB r1 r2 z0 z1
          go_wp2_with fail
          refine LT.mono ?_
          rintro x wy ⟨rfl, hby⟩
          go_wp2
          go_ret
          exact ⟨rfl, bel_after hb1 (bel_after blp hby)⟩
        · obtain ⟨fE, fD, fP⟩ := k
          have G1 : decide ((p : Int) + 1 ≤ dn) = true := by rw [hp.out] at fD; simp; omega
          clear fD
          have PG := implPages_cap _ _ X [] a0 a1 a2 a3 wd r1 r2 (by have := OX.out; omega) (by simp) (hcp_of (v := .slice (some ⟨xb, xo, none⟩) 64 j1) r1 cX) (B3.out _ bld).2.2
          rw [NX.out] at PG
          rw [fE, fP] at PG
          clear fE fP W3
          have n1 : ((E + 1 : Int) == E) = false := by simp; omega
          have n2 : decide ((E + 1 : Int) = E) = false := by simp; omega
          go_wp2_with fail
          refine PG.mono ?_
          rintro x wp ⟨⟨pv, rfl, oP⟩, hbp⟩
          clear PG
          have sP := sr_text oP
          obtain ⟨pq, pk, rfl, _⟩ := id sP
          clear oP
          have blp := bel_after bld hbp
          have LT := likeTexts_same _ _ bs wp sP (B3.out _ blp).1 (by have := b31.out.1; omega)
          clear sP xB r1 r2 z0 z1
          go_wp2_with fail
          refine LT.mono ?_
          rintro x wy ⟨rfl, hby⟩
          go_wp2
          go_ret
          exact ⟨rfl, bel_after hb1 (bel_after blp hby)⟩
      · have S1 := str_eqF h1
        by_cases h2 : textAt X r = textAt ss r
        · have S2 := str_eqT h2
          have k : ((newR X).1 = E ∧ pagesR X [] = pagesR ss ws) ∨ ((newR X).1 = E + 1 ∧ ((scrW ss bs).length : Int) ≤ dn ∧ pagesR X [] = bs) := W3.out.resolve_left (fun h => h.2.1 h2)
          clear h1 h2 SX
          rcases k with k | k
          · obtain ⟨fE, fP⟩ := k
            have PG := implPages_cap _ _ X [] a0 a1 a2 a3 wd r1 r2 (by have := OX.out; omega) (by simp) (hcp_of (v := .slice (some ⟨xb, xo, none⟩) 64 j1) r1 cX) (B3.out _ bld).2.2
            rw [NX.out] at PG
            rw [fE, fP] at PG
            clear fE fP W3
            go_wp2_with fail
            refine PG.mono ?_
            rintro x wp ⟨⟨pv, rfl, oP⟩, hbp⟩
            clear PG
            have sP := sr_text oP
            obtain ⟨pq, pk, rfl, _⟩ := id sP
            clear oP
            have blp := bel_after bld hbp
            have LT := likeTexts_same _ _ _ wp sP (OLD.out _ hbp) (by have := OL.out; omega)
            clear sP xB r1 r2 z0 z1
            go_wp2_with fail
            refine LT.mono ?_
            rintro x wy ⟨rfl, hby⟩
            go_wp2
            go_ret
            exact ⟨rfl, bel_after hb1 (bel_after blp hby)⟩
          · obtain ⟨fE, fD, fP⟩ := k
            have G1 : decide ((p : Int) + 1 ≤ dn) = true := by rw [hp.out] at fD; simp; omega
            clear fD
            have PG := implPages_cap _ _ X [] a0 a1 a2 a3 wd r1 r2 (by have := OX.out; omega) (by simp) (hcp_of (v := .slice (some ⟨xb, xo, none⟩) 64 j1) r1 cX) (B3.out _ bld).2.2
            rw [NX.out] at PG
            rw [fE, fP] at PG
            clear fE fP W3
            have n1 : ((E + 1 : Int) == E) = false := by simp; omega
            have n2 : decide ((E + 1 : Int) = E) = false := by simp; omega
            go_wp2_with fail
            refine PG.mono ?_
            rintro x wp ⟨⟨pv, rfl, oP⟩, hbp⟩
            clear PG
            have sP := sr_text oP
            obtain ⟨pq, pk, rfl, _⟩ := id sP
            clear oP
            have blp := bel_after bld hbp
            have LT := likeTexts_same _ _ bs wp sP (B3.out _ blp).1 (by have := b31.out.1; omega)
            clear sP xB r1 r2 z0 z1
            go_wp2_with fail
            refine LT.mono ?_
            rintro x wy ⟨rfl, hby⟩
            go_wp2
            go_ret
            exact ⟨rfl, bel_after hb1 (bel_after blp hby)⟩
        · have S2 := str_eqF h2
          clear h1 h2
          by_cases h3 : (newR X).1 = E
          · have k : (newR X).1 = E ∧ pagesR X [] = pagesR ss ws := by
              rcases W3.out with h | h | h
              · exact absurd h3 h.2.2
              · exact h
              · exact absurd (h3.symm.trans h.1) (by omega)
            rw [h3] at SX
            clear h3
            go_wp2_with fail
            refine SX.mono ?_
            rintro x we ⟨⟨ev, rfl, iE⟩, hbe⟩
            clear SX z0 z1 y0 y1
            obtain ⟨ea, ek, rfl, _⟩ := iE
            have xB := xB.later hbe
            have r1 := r1.later hbe
            have r2 := r2.later hbe
            have ble := bel_after bld hbe
            have OLD : Hid (∀ W (hb : Below we.heap.size we W), Disk.SR W (.slice oa (pagesR ss ws).length okk) (pagesR ss ws)) := fun W hb => OLD.out W (bel_after hbe hb)
            have z0 := xB.c0
            have z1 := xB.c1
            have k : ((newR X).1 = E ∧ pagesR X [] = pagesR ss ws) ∨ False := .inl k
            rcases k with k | k
            · obtain ⟨fE, fP⟩ := k
              have PG := implPages_cap _ _ X [] a0 a1 a2 a3 we r1 r2 (by have := OX.out; omega) (by simp) (hcp_of (v := .slice (some ⟨xb, xo, none⟩) 64 j1) r1 cX) (B3.out _ ble).2.2
              rw [NX.out] at PG
              rw [fE, fP] at PG
              clear fE fP W3
              go_wp2_with fail
              refine PG.mono ?_
              rintro x wp ⟨⟨pv, rfl, oP⟩, hbp⟩
              clear PG
              have sP := sr_text oP
              obtain ⟨pq, pk, rfl, _⟩ := id sP
              clear oP
              have blp := bel_after ble hbp
              have LT := likeTexts_same _ _ _ wp sP (OLD.out _ hbp) (by have := OL.out; omega)
              clear sP xB r1 r2 z0 z1
              go_wp2_with fail
              refine LT.mono ?_
              rintro x wy ⟨rfl, hby⟩
              go_wp2
              go_ret
              exact ⟨rfl, bel_after hb1 (bel_after blp hby)⟩
            · exact k.elim
          · have n3 : ((newR X).1 == E) = false := by simp [h3]
            have n4 : decide ((newR X).1 = E) = false := by simp [h3]
            generalize (newR X).1 = FX at *
            clear h3
            go_wp2_with fail
            refine SX.mono ?_
            rintro x we ⟨⟨ev, rfl, iE⟩, hbe⟩
            clear SX z0 z1 y0 y1
            obtain ⟨ea, ek, rfl, _⟩ := iE
            go_wp2
            go_ret
            exact ⟨rfl, bel_after hb1 (bel_after bld hbe)⟩

end Go.Proofs.YtjclpbaiiklhcaaGreatDoor
