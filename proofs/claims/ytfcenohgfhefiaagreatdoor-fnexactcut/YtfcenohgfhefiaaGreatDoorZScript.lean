/- Script of the program and of the model. -/
import Derived.Test.YtfcenohgfhefiaaGreatDoorZSpecScr
import Derived.Test.YtfcenohgfhefiaaGreatDoorZDefScr
namespace Go.Proofs.YtfcenohgfhefiaaGreatDoor
open Go.RowKit

theorem nw_of_owns {w : World} {B : Nat} {v : Value} {ws : List Disk.Wr} (h : w.ownsRow B 48 2 v ws.length (Disk.lcells ws)) : Disk.NW B w v ws := Disk.NO.nw (.inr h)

theorem specScript_any (v1 v2 bv : Value) (ss : List ByteArray) (ws : List Disk.Wr) (bs : List ByteArray) (w : World)
    (hv1 : Disk.SR w v1 ss) (hv2 : Disk.WR w v2 ws) (h1 : ss.length ≤ 10000000000000) (h2 : ws.length ≤ 10000000000000) (hbv : Disk.SR w bv bs) (h3 : bs.length ≤ 10000000000000) :
    Calls Tryz.prog 16 #[.agg #[v1, v2], bv] w fun x w' => (∃ v, x = .returned v ∧ Disk.NW w.heap.size w' v (scriptR ss ws bs)) ∧ Below w.heap.size w w' := by
  have hb0 := bel_one w (.cells #[v1, v2] 27)
  have S := l3Script_any v1 v2 bv ss ws bs _ (hv1.later hb0) (hv2.later hb0) h1 h2 (hbv.later hb0) h3
  have RN := @scriptR_no ss ws bs
  generalize scriptR ss ws bs = R at *
  go_enter Tryz.func16, Tryz.ntmps16
  go_wp2_with fail
  refine S.mono ?_
  rintro x w1 ⟨⟨v, rfl, ho⟩, hb1⟩
  have hbw := bel_after hb0 hb1
  have N1 := nw_of_owns (own_mono ho hb0.size)
  cases hok : scrOk ss ws bs
  · have HR : Hid (R = []) := RN hok
    clear hok RN
    have hbw2 := bel_after hbw (bel_one w1 (.cells #[] 48))
    go_wp2
    go_ret
    exact ⟨⟨_, rfl, by rw [HR.out]; exact Disk.nw_empty _ _ _ _⟩, hbw2⟩
  · clear hok RN
    go_wp2
    go_ret
    exact ⟨⟨_, rfl, N1⟩, hbw⟩

set_option maxRecDepth 100000 in
set_option maxHeartbeats 1600000 in
theorem implScript_any (ao : Option Addr) (cap : Nat) (v2 bv : Value) (ss : List ByteArray) (ws : List Disk.Wr) (bs : List ByteArray) (a0 a1 a2 a3 : Addr) (tg : TypeId) (pg : Value) (w : World)
    (hv1 : Disk.SR w (.slice ao ss.length cap) ss) (hcap : ss.length ≤ cap) (hv2 : Disk.WR w v2 ws) (h1 : ss.length ≤ 10000000000000) (h2 : ws.length ≤ 10000000000000) (hbv : Disk.SR w bv bs) (h3 : bs.length ≤ 10000000000000) (hC : Ctx a0 a1 a2 a3 w) (hG : w.cell? ⟨0, 0, none⟩ = some (.iface tg pg)) :
    Calls Tryz.prog 14 #[.agg #[.slice ao ss.length cap, v2], bv] w fun x w' => (∃ v, x = .returned v ∧ Disk.NW w.heap.size w' v (scriptR ss ws bs)) ∧ Below w.heap.size w w' := by
  have hb0 := bel_one w (.cells #[.slice ao ss.length cap, v2] 27)
  have S := commitWrites_any ao cap v2 bv ss ws bs a0 a1 a2 a3 tg pg _ (hv1.later hb0) hcap (hv2.later hb0) h1 h2 (hbv.later hb0) h3 (hC.later hb0) (cell_later hb0 hG)
  have RN := @scriptR_no ss ws bs
  have RY := @scriptR_yes ss ws bs
  go_enter_defers Tryz.func14, Tryz.ntmps14
  go_wp2_with fail
  refine S.mono ?_
  rintro x w1 ⟨ho, hb1⟩
  have hbw := bel_after hb0 hb1
  unfold CwOut at ho
  cases hok : scrOk ss ws bs
  · rw [hok, if_neg (by simp)] at ho
    subst ho
    have HR : Hid (scriptR ss ws bs = []) := RN hok
    clear hok RN RY S
    have N0 : Disk.NW w.heap.size w1 (.slice none 0 0) (scriptR ss ws bs) := by rw [HR.out]; exact Disk.nw_empty _ _ _ _
    go_wp2
    refine leaves_cons (f := 56) (args := #[]) (by simp) (by simp [go_sem]) ?_
    refine (scriptCatch tg pg [] _).mono ?_
    rintro e u' w'' ⟨rfl, rfl, rfl⟩
    simp [Leaves, settle, results, Tryz.results14, go_sem]
    exact ⟨N0, hbw⟩
  · rw [hok, if_pos rfl] at ho
    obtain ⟨v, rfl, ho⟩ := ho
    have HR : Hid (scriptR ss ws bs = scrW ss bs) := RY hok
    have N1 := nw_of_owns (own_mono ho hb0.size)
    rw [← HR.out] at N1
    clear hok RN RY S
    go_wp2
    refine leaves_cons (f := 56) (args := #[]) (by simp) (by simp [go_sem]) ?_
    refine (scriptIdle _).mono ?_
    rintro e u' w'' ⟨rfl, rfl, rfl⟩
    simp [Leaves, settle, results, Tryz.results14, go_sem]
    exact ⟨N1, hbw⟩

end Go.Proofs.YtfcenohgfhefiaaGreatDoor
