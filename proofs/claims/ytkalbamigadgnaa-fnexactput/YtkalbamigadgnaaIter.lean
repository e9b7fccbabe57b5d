/- inOrder: the late writes of a slice come one behind the other, each with its number. -/
import Derived.Test.YtkalbamigadgnaaOk
import Derived.RangeFuncNested
import Derived.RangeFuncBound
import Derived.RangeFuncCalls
import Derived.RangeFuncLeaves
import Derived.Shelf.Abstract
import Derived.OwnWalkIn
import Derived.TacticsInMore
import Derived.LoopNIn
import Derived.LoopIn
namespace Go.Proofs.Ytkalbamigadgnaa
open Go.RowKit Go.Shelf

attribute [local go_sem] Oper.semAt_some

abbrev NW1 := Nat × Wr
def enc2 (x : NW1) : Array Value := #[.int .i64 (x.1 : Int), .agg #[.int .i64 x.2.1, .string x.2.2]]
/-- The first k writes with their numbers. -/
def num (ws : List Wr) (k : Nat) : List NW1 := (List.range k).map fun i => (i, ws.getD i wr0)
theorem num_succ (ws : List Wr) (k : Nat) : num ws (k + 1) = num ws k ++ [(k, ws.getD k wr0)] := by simp [num, List.range_succ]
theorem num_length (ws : List Wr) (k : Nat) : (num ws k).length = k := by simp [num]

set_option maxRecDepth 100000 in
set_option maxHeartbeats 2000000 in
theorem inOrder1_in (F : Fence) (n : Nat) (h50 : F.fn 50) (hro : F.round = none) (hn : 1 ≤ n) (l Bs : Nat) (wb : World) (v : Value) (ws : List Wr) (hwr : WR wb v ws) (hlen : ws.length ≤ 10000000000000)
    (J Jx : List NW1 → World → Prop) (W : World) (hJ : AbidesFrom W.heap.size J)
    (hY : ∀ pre x W, J pre W → pre.length < ws.length → YieldAt F (n - 1) Try.prog l (enc2 x) W fun e W' =>
      (e = .returned (.bool true) ∧ J (pre ++ [x]) W' ∧ Below wb.heap.size W W') ∨ (e = .returned (.bool false) ∧ Jx (pre ++ [x]) W'))
    (hbW : Below wb.heap.size wb W) (hBs : W.cell? ⟨Bs, 0, none⟩ = some v) (h0 : J [] W) :
    CallsIn F n Try.prog 50 #[.func (.yield l) #[] #[], .pointer (some ⟨Bs, 0, none⟩)] W fun e W' => (∃ v, e = .returned v) ∧
      ((∃ ys, ys = num ws ws.length ∧ J ys W') ∨ (∃ pre, (∃ k, k ≤ ws.length ∧ pre = num ws k) ∧ Jx pre W')) := by
  obtain ⟨ao, cap, rfl, hv⟩ := hwr
  refine callsIn_of_wp Try.func50 rfl h50 ?_ hro
  simp only [Try.ntmps50, List.size_toArray, List.length_cons, List.length_nil, Nat.reduceAdd, Nat.reduceSub, Array.replicate_succ, Array.replicate_zero, List.push_toArray, List.append_toArray, List.nil_append, List.cons_append]
  gi_wp2
  gi_loopw [7] (fun i wr => ∃ k : Nat, k ≤ ws.length ∧ i = .int .i64 k ∧ J (num ws k) wr ∧ Below wb.heap.size wb wr) (fun i _ => ws.length - (intOf i).toNat)
  case atStart => exact ⟨0, Nat.zero_le _, rfl, h0, hbW⟩
  case round =>
    obtain ⟨k, hk, rfl, hJs, hb⟩ := hrel
    by_cases hlt : k < ws.length
    · obtain ⟨b, o, rfl, hc, hd⟩ := hv k hlt
      have hc1 := cell_later hb hc
      have hd1 := cell_later hb hd
      generalize hs : ws.getD k wr0 = s at *
      have HS : Hid (ws.getD k wr0 = s) := hs
      obtain ⟨s1, s2⟩ := s
      have hJa : J (num ws k) (wr.alloc (.cells #[.int .i64 s1, .string s2] 53)) := hJ _ _ _ none hJs (World.grownBy_alloc wr _ none) (fun r e => by cases e)
      obtain ⟨fn, tmps, assign, body, hy, hR⟩ := hY _ (k, (s1, s2)) _ hJa (by rw [num_length]; exact hlt)
      dsimp only [enc2] at hy
      clear hv hc hs hd
      gi_wp2
      refine hR.mono ?_
      rintro e W3 (⟨rfl, hJ3, hk3⟩ | ⟨rfl, hJx3⟩)
      · gi_wp2
        go_roundw
        case rel => exact ⟨k + 1, by omega, by simp, by rw [num_succ, HS.out]; exact hJ3, (hb.alloc hb.size _).trans hk3⟩
        case measure => simp [intOf]; omega
      · gi_wp2
        refine bodyPost_ret (results_none rfl _ _ _) rfl ?_
        exact ⟨⟨_, rfl⟩, .inr ⟨_, ⟨k + 1, by omega, by rw [num_succ, HS.out]⟩, hJx3⟩⟩
    · obtain rfl : k = ws.length := by omega
      gi_wp2
      go_end0
      exact ⟨⟨_, rfl⟩, .inl ⟨_, rfl, hJs⟩⟩

set_option maxHeartbeats 1000000 in
theorem inOrder_in (F : Fence) (n : Nat) (h35 : F.fn 35) (hro : F.round = none) (a : Option Addr) (len cap : Nat) (w : World) :
    CallsIn F n Try.prog 35 #[.slice a len cap] w fun e w' => e = .returned (.func (.func 50) #[] #[.pointer (some ⟨w.heap.size, 0, none⟩)]) ∧ w' = w.alloc (.cells #[.slice a len cap] 28) := by
  refine callsIn_of_wp Try.func35 rfl h35 ?_ hro
  simp only [Try.ntmps35, List.size_toArray, List.length_cons, List.length_nil, Nat.reduceAdd, Nat.reduceSub, Array.replicate_succ, Array.replicate_zero, List.push_toArray, List.append_toArray, List.nil_append, List.cons_append]
  gi_wp2
  go_ret
  exact ⟨rfl, rfl⟩

/-- What inOrder hands back goes through all writes, or stops behind some of them. -/
theorem inOrder_stops (F : Fence) (n : Nat) (h50 : F.fn 50) (hro : F.round = none) (hn : 1 ≤ n) (Bs : Nat) (wb : World) (v : Value) (ws : List Wr) (hwr : WR wb v ws) (hlen : ws.length ≤ 10000000000000) (w : World)
    (hbW : Below wb.heap.size wb w) (hBs : w.cell? ⟨Bs, 0, none⟩ = some v) :
    SeqStopsK F n Try.prog 50 #[.pointer (some ⟨Bs, 0, none⟩)] enc2 (Below wb.heap.size) (fun ys => ys = num ws ws.length) (fun pre => ∃ k, k ≤ ws.length ∧ pre = num ws k) ws.length w := fun l J Jx W hW hJ _ hY h0 =>
  inOrder1_in F n h50 hro hn l Bs wb v ws hwr hlen J Jx W hJ hY (hbW.trans (hW.mono hbW.size)) (cell_later hW hBs) h0

end Go.Proofs.Ytkalbamigadgnaa
