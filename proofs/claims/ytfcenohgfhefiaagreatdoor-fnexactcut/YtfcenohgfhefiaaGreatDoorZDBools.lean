/- toBoolS, eqBoolS: slices of flags copied and held against each other. -/
import Derived.Test.YtfcenohgfhefiaaGreatDoorZDCrash
namespace Go.Proofs.YtfcenohgfhefiaaGreatDoor.Disk
open Go.RowKit

theorem Tryz.info4 : (Tryz.prog.info? 4).map (fun i => (i.zero, i.size, i.bytes)) = some (some (.bool false), 1, 1) := by kernel_rfl
theorem Tryz.under43 : Tryz.prog.underlying 41 = some (.slice 4) := by kernel_rfl

theorem make43 (n : Nat) (hn : n ≤ 200000000000000) (w : World) : (Instr.makeSlice 41 (.int .i64 (n : Int)) (.int .i64 (n : Int))).run Tryz.prog w = .ok (.slice (some ⟨w.heap.size, 0, none⟩) n n) (w.alloc (.cells (madeCells #[.bool false] n) 4)) :=
  run_make_row' (P := Tryz.prog) 41 4 (.bool false) 1 Tryz.under43 Tryz.info4 rfl .i64 .i64 n (by omega) (by omega) w

theorem made_rowB (w : World) (n : Nat) : ∃ f : Nat → Value, (w.alloc (.cells (madeCells #[.bool false] n) 4)).rowIs w.heap.size 4 n f := by
  have h := row_any w (madeCells #[.bool false] n) 4
  rw [size_madeCells] at h
  exact ⟨_, h⟩

def bcell1 (bs : List Bool) (i : Nat) : Value := .bool (bs.getD i false)

/-- A new slice of flags with a row of its own from block B on. -/
def NB (B : Nat) (w' : World) (v : Value) (bs : List Bool) : Prop :=
  OS w' 4 1 v bs.length ∧ LR w' v bs ∧ ∀ b, rowOf v bs.length = some b → B ≤ b
theorem NB.later {B : Nat} {w w' : World} {v : Value} {bs : List Bool} (h : NB B w v bs) (hb : Below w.heap.size w w') : NB B w' v bs := ⟨h.1.later hb, h.2.1.later hb, h.2.2⟩

theorem nb_row {B : Nat} {w : World} {b N cap : Nat} {bs : List Bool} {f : Nat → Value} (h : w.rowIs b 4 N (fun i => if i < bs.length then bcell1 bs i else f i)) (hN : bs.length ≤ N) (hB : B ≤ b) :
    NB B w (.slice (some ⟨b, 0, none⟩) bs.length cap) bs := by
  refine ⟨⟨_, _, rfl, .inr ⟨b, N, _, rfl, by omega, h⟩⟩, ⟨_, _, rfl, fun i hi => ⟨b, 0, rfl, ?_⟩⟩, fun b' e => ?_⟩
  · rw [Nat.zero_add, h.cell (by omega), if_pos hi]
    rfl
  · unfold rowOf at e
    by_cases hn : bs.length = 0
    · simp [hn] at e
    · simp [hn, Value.ownBlock] at e
      omega

set_option maxHeartbeats 400000 in
theorem toBoolS_any (v : Value) (bs : List Bool) (w : World) (hv : LR w v bs) (h1 : bs.length ≤ 200000000000000) :
    Calls Tryz.prog 44 #[v] w fun e w' => ∃ v', e = .returned v' ∧ NB w.heap.size w' v' bs ∧ Below w.heap.size w w' := by
  obtain ⟨ao, cap, rfl, hv⟩ := hv
  have hmk := make43 bs.length h1
  obtain ⟨f, hr0⟩ := made_rowB w bs.length
  go_enter Tryz.func44, Tryz.ntmps44
  go_wp2
  go_loopw [4] (fun i wr => ∃ (j : Nat), j ≤ bs.length ∧ i = .int .i64 j ∧ Below w.heap.size w wr ∧ wr.rowIs w.heap.size 4 bs.length (fun i => if i < j then bcell1 bs i else f i)) (fun i _ => bs.length - (intOf i).toNat)
  case atStart => exact ⟨0, Nat.zero_le _, rfl, bel_one _ _, hr0.congr (fun i _ => by simp)⟩
  case round =>
    obtain ⟨j, hj, rfl, hb, hrow⟩ := hrel
    by_cases hlt : j < bs.length
    · obtain ⟨b, o, rfl, hc⟩ := hv j hlt
      have hc1 := cell_later hb hc
      have hc2 := hrow.cell (i := j) hlt
      have hf2 := hrow.frozen j
      have R := row_copy hrow (.bool (bs.getD j false)) rfl
      have G := hb.setCell (p := ⟨w.heap.size, j, none⟩) (Nat.le_refl _) (.bool (bs.getD j false))
      generalize bs.getD j false = s at *
      clear hv hc hrow hr0 hmk
      go_wp2
      go_roundw
      case rel => exact ⟨j + 1, by omega, by go_num, G, R⟩
      case measure => simp [intOf]; omega
    · obtain rfl : j = bs.length := by omega
      go_wp2
      go_ret
      exact ⟨_, rfl, nb_row hrow (Nat.le_refl _) (Nat.le_refl _), hb⟩

end Go.Proofs.YtfcenohgfhefiaaGreatDoor.Disk
