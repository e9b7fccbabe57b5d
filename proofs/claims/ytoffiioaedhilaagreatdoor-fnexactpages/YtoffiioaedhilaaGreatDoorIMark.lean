/- markInt64S, heldInt64S: marks laid in a row of numbers are held. -/
import Derived.Test.YtoffiioaedhilaaGreatDoorOwn
import Derived.Test.YtoffiioaedhilaaGreatDoorDDkB
namespace Go.Proofs.YtoffiioaedhilaaGreatDoor
open Go.RowKit

def imarks (k : Int) (n : Nat) : List Int := (List.range n).map fun i : Nat => k + i
theorem imarks_length (k : Int) (n : Nat) : (imarks k n).length = n := by simp [imarks]
theorem imarks_get (k : Int) (n i : Nat) (h : i < n) : (imarks k n).getD i 0 = k + i := by simp [imarks, h]

theorem OS_of_owns {w : World} {B e n : Nat} {v : Value} {xs : List Value} (h : w.ownsRow B e 1 v n xs) : Disk.OS w e 1 v n := by
  obtain ⟨hl, h⟩ := h
  rcases h with ⟨rfl, rfl⟩ | ⟨g, cap, cur, rfl, hB, hh, h1, h2, h3, h4⟩
  · exact ⟨none, 0, rfl, .inl rfl⟩
  · exact ⟨_, cap, rfl, .inr ⟨g, cur.size, fun i => cur[i]?.getD undef, rfl, by omega, cur, hh, rfl, fun i hi => by simp [hi]⟩⟩
theorem row_of_owns {w : World} {B e n : Nat} {v : Value} {xs : List Value} (h : w.ownsRow B e 1 v n xs) : ∀ b, Disk.rowOf v n = some b → B ≤ b := by
  intro b hb
  obtain ⟨hl, h⟩ := h
  rcases h with ⟨rfl, rfl⟩ | ⟨g, cap, cur, rfl, hB, hh, h1, h2, h3, h4⟩
  · simp [Disk.rowOf] at hb
  · unfold Disk.rowOf at hb
    split at hb
    · cases hb
    · simp [Value.ownBlock] at hb
      omega

theorem IR.grown {w w' : World} {v : Value} {l : List Int} {row : Option Nat} (h : IR w v l) (hg : w.grownBy w' row) (hne : l = [] ∨ v.ownBlock ≠ row) : IR w' v l := by
  obtain ⟨ao, cap, rfl, hle, h⟩ := h
  refine ⟨ao, cap, rfl, hle, fun i hi => ?_⟩
  obtain ⟨b, o, rfl, hc⟩ := h i hi
  rcases hne with rfl | hne
  · simp at hi
  · exact ⟨b, o, rfl, hg.cell hc hne⟩
theorem IR.low {w w' : World} {v : Value} {l : List Int} {row : Option Nat} {B : Nat} (h : IR w v l) (hg : w.grownBy w' row) (hB : ∀ a n c, v = .slice (some a) n c → 0 < n → a.block < B) (hr : ∀ b, row = some b → B ≤ b) : IR w' v l := by
  by_cases hl : l = []
  · exact h.grown hg (.inl hl)
  · obtain ⟨ao, cap, rfl, hle, h'⟩ := id h
    have hp : 0 < l.length := by cases l with | nil => exact absurd rfl hl | cons _ _ => simp
    obtain ⟨b, o, rfl, hc⟩ := h' 0 hp
    refine h.grown hg (.inr fun e => ?_)
    have h1 := hB _ _ _ rfl hp
    have h2 := hr b e.symm
    simp at h1
    omega
theorem IR.lt {w : World} {v : Value} {l : List Int} (h : IR w v l) : ∀ a n c, v = .slice (some a) n c → 0 < n → a.block < w.heap.size := by
  obtain ⟨ao, cap, rfl, hle, h⟩ := h
  intro a n c e hp
  simp only [Value.slice.injEq] at e
  obtain ⟨rfl, rfl, _⟩ := e
  obtain ⟨b, o, e2, hc⟩ := h 0 hp
  simp only [Option.some.injEq] at e2
  subst e2
  exact World.block_lt_of_cell? _ _ hc

theorem irow_mark {w : World} {b N j : Nat} {k : Int} {f : Nat → Value} (h : w.rowIs b 2 N (fun i : Nat => if i < j then .int .i64 (k + i) else f i)) :
    (w.setCell ⟨b, j, none⟩ (.int .i64 (k + j))).rowIs b 2 N (fun i : Nat => if i < j + 1 then .int .i64 (k + i) else f i) := by
  refine (h.set j _).congr fun i _ => ?_
  by_cases e : i = j
  · subst e; simp
  · by_cases e' : i < j
    · rw [if_neg e, if_pos e', if_pos (by omega)]
    · rw [if_neg e, if_neg e', if_neg (by omega)]
theorem irow_marks {w : World} {b N n cap : Nat} {k : Int} {f : Nat → Value} (h : w.rowIs b 2 N (fun i : Nat => if i < n then .int .i64 (k + i) else f i)) (hN : n ≤ N) (hc : n ≤ cap) :
    IR w (.slice (some ⟨b, 0, none⟩) n cap) (imarks k n) := by
  refine ⟨some ⟨b, 0, none⟩, cap, by rw [imarks_length], by rw [imarks_length]; exact hc, fun i hi => ⟨b, 0, rfl, ?_⟩⟩
  rw [imarks_length] at hi
  rw [imarks_get k n i hi, Nat.zero_add, h.cell (by omega), if_pos hi]

set_option maxHeartbeats 400000 in
theorem markInt64S_any (v : Value) (n : Nat) (k : Int) (w : World) (hv : Disk.OS w 2 1 v n) (hc : ∃ ao cap, v = .slice ao n cap ∧ n ≤ cap) (h0 : 0 < k) (h1 : k + n ≤ 1000000000000000) :
    Calls Tryz.prog 15 #[v, .int .i64 k] w fun e w' => e = .returned (.int .i64 (k + n)) ∧ w.grownBy w' (Disk.rowOf v n) ∧ IR w' v (imarks k n) := by
  obtain ⟨ao, cap, rfl, hv⟩ := hv
  have hcap : n ≤ cap := by
    obtain ⟨_, _, e, h⟩ := hc
    simp only [Value.slice.injEq] at e
    omega
  clear hc
  by_cases hn : n = 0
  · subst hn
    go_enter Tryz.func15, Tryz.ntmps15
    go_wp2
    refine wp_loop_rounds 1 ?_
    rw [rounds_succ]
    go_wp2
    go_ret
    exact ⟨Disk.ret_int (by simp), World.grownBy.refl _ _, ⟨ao, cap, by simp [imarks], by simp [imarks], fun i hi => by simp [imarks] at hi⟩⟩
  · obtain ⟨b, N, f, rfl, hN, hr⟩ := hv.resolve_left hn
    have hro : Disk.rowOf (.slice (some ⟨b, 0, none⟩) n cap) n = some b := by simp [Disk.rowOf, hn, Value.ownBlock]
    rw [hro]
    rw [Nat.mul_one] at hN
    clear hv hro
    go_enter Tryz.func15, Tryz.ntmps15
    go_wp2
    go_loopw [1, 5] (fun c i wr => ∃ j : Nat, j ≤ n ∧ i = .int .i64 j ∧ c = .int .i64 (k + j) ∧ w.grownBy wr (some b) ∧ wr.rowIs b 2 N (fun i : Nat => if i < j then .int .i64 (k + i) else f i)) (fun _ i _ => n - (intOf i).toNat)
    case atStart => exact ⟨0, Nat.zero_le _, rfl, by go_num, World.grownBy.refl _ _, hr.congr (fun i _ => by simp)⟩
    case round =>
      obtain ⟨j, hj, rfl, rfl, hg, hrow⟩ := hrel
      by_cases hlt : j < n
      · have hc2 := hrow.cell (i := j) (by omega)
        have hf2 := hrow.frozen j
        have R := irow_mark hrow
        have G := Disk.grown_trans hg (Disk.grown_set wr b j (.int .i64 (k + j)))
        clear hrow hg
        go_wp2
        go_roundw
        case rel => exact ⟨j + 1, by omega, by go_num, by go_num, G, R⟩
        case measure => simp [intOf]; omega
      · obtain rfl : j = n := by omega
        go_wp2
        go_ret
        exact ⟨rfl, hg, irow_marks hrow hN hcap⟩

set_option maxHeartbeats 400000 in
theorem heldInt64S_any (v : Value) (n : Nat) (k : Int) (w : World) (hv : IR w v (imarks k n)) (h0 : 0 < k) (h1 : k + n ≤ 1000000000000000) :
    Calls Tryz.prog 16 #[v, .int .i64 k] w fun e w' => e = .returned (.int .i64 (k + n)) ∧ Below w.heap.size w w' := by
  obtain ⟨ao, cap, rfl, _, hv⟩ := hv
  rw [imarks_length] at hv ⊢
  go_enter Tryz.func16, Tryz.ntmps16
  go_wp2
  go_loopw [1, 5] (fun c i wr => ∃ j : Nat, j ≤ n ∧ i = .int .i64 j ∧ c = .int .i64 (k + j) ∧ Below w.heap.size w wr) (fun _ i _ => n - (intOf i).toNat)
  case atStart => exact ⟨0, Nat.zero_le _, rfl, by go_num, Below.refl _ _⟩
  case round =>
    obtain ⟨j, hj, rfl, rfl, hb⟩ := hrel
    by_cases hlt : j < n
    · obtain ⟨b, o, rfl, hc⟩ := hv j hlt
      rw [imarks_get k n j hlt] at hc
      have hc1 := cell_later hb hc
      clear hv hc
      go_wp2
      go_roundw
      case rel => exact ⟨j + 1, by omega, by go_num, by go_num, hb⟩
      case measure => simp [intOf]; omega
    · obtain rfl : j = n := by omega
      go_wp2
      go_ret
      exact ⟨rfl, hb⟩

end Go.Proofs.YtoffiioaedhilaaGreatDoor
