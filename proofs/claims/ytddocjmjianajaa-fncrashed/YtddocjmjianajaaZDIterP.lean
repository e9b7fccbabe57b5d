/- inOrder once more: of each write that comes what holds of all of them is known. -/
import Derived.Test.YtddocjmjianajaaZDTexts
import Derived.Test.YtddocjmjianajaaZDBase
namespace Go.Proofs.Ytddocjmjianajaa.Disk
open Go.RowKit Go.Shelf Go.Deep

attribute [local go_sem] Oper.semAt_some

/-- A numbered write that is right. -/
abbrev OkW1 := { x : NW1 // okW x.2 = true }
def encP (x : OkW1) : Array Value := enc2 x.1

set_option maxRecDepth 100000 in
set_option maxHeartbeats 2000000 in
theorem inOrderP_in (F : Fence) (n : Nat) (h50 : F.fn 38) (hro : F.round = none) (hn : 1 ≤ n) (l Bs : Nat) (wb : World) (v : Value) (ws : List Wr) (hwr : WR wb v ws) (hlen : ws.length ≤ 10000000000000) (hall : ∀ i, i < ws.length → okW (ws.getD i wr0) = true)
    (J Jx : List OkW1 → World → Prop) (W : World) (hJ : AbidesFrom W.heap.size J)
    (hY : ∀ pre x W, J pre W → pre.length < ws.length → YieldAt F (n - 1) Try.prog l (encP x) W fun e W' =>
      (e = .returned (.bool true) ∧ J (pre ++ [x]) W' ∧ Below wb.heap.size W W') ∨ (e = .returned (.bool false) ∧ Jx (pre ++ [x]) W'))
    (hbW : Below wb.heap.size wb W) (hBs : W.cell? ⟨Bs, 0, none⟩ = some v) (h0 : J [] W) :
    CallsIn F n Try.prog 38 #[.func (.yield l) #[] #[], .pointer (some ⟨Bs, 0, none⟩)] W fun e W' => (∃ v, e = .returned v) ∧
      ((∃ ys, ys.map (·.1) = num ws ws.length ∧ J ys W') ∨ (∃ pre, (∃ k, k ≤ ws.length ∧ pre.map (·.1) = num ws k) ∧ Jx pre W')) := by
  obtain ⟨ao, cap, rfl, hv⟩ := hwr
  have HA : Hid (∀ i, i < ws.length → okW (ws.getD i wr0) = true) := hall
  clear hall
  refine callsIn_of_wp Try.func38 rfl h50 ?_ hro
  simp only [Try.ntmps38, List.size_toArray, List.length_cons, List.length_nil, Nat.reduceAdd, Nat.reduceSub, Array.replicate_succ, Array.replicate_zero, List.push_toArray, List.append_toArray, List.nil_append, List.cons_append]
  gi_wp2
  gi_loopw [7] (fun i wr => ∃ (k : Nat) (pre : List OkW1), k ≤ ws.length ∧ i = .int .i64 k ∧ Hid (pre.map (·.1) = num ws k) ∧ J pre wr ∧ Below wb.heap.size wb wr) (fun i _ => ws.length - (intOf i).toNat)
  case atStart => exact ⟨0, [], Nat.zero_le _, rfl, rfl, h0, hbW⟩
  case round =>
    obtain ⟨k, pre, hk, rfl, hpre, hJs, hb⟩ := hrel
    by_cases hlt : k < ws.length
    · obtain ⟨b, o, rfl, hc, hd⟩ := hv k hlt
      have hc1 := cell_later hb hc
      have hd1 := cell_later hb hd
      have hok := HA.out k hlt
      generalize hs : ws.getD k wr0 = s at *
      have HS : Hid (ws.getD k wr0 = s) := hs
      obtain ⟨s1, s2⟩ := s
      have hJa : J pre (wr.alloc (.cells #[.int .i64 s1, .string s2] 42)) := hJ _ _ _ none hJs (World.grownBy_alloc wr _ none) (fun r e => by cases e)
      have hpl : pre.length = k := by have := congrArg List.length hpre.out; rw [List.length_map, num_length] at this; exact this
      obtain ⟨fn, tmps, assign, body, hy, hR⟩ := hY _ ⟨(k, (s1, s2)), hok⟩ _ hJa (by omega)
      dsimp only [encP, enc2] at hy
      clear hv hc hs hd hpl
      gi_wp2
      refine hR.mono ?_
      rintro e W3 (⟨rfl, hJ3, hk3⟩ | ⟨rfl, hJx3⟩)
      · gi_wp2
        go_roundw
        case rel => exact ⟨k + 1, _, by omega, by simp, (by rw [num_succ, HS.out, List.map_append, hpre.out]; rfl : List.map (·.1) (pre ++ [⟨(k, (s1, s2)), hok⟩]) = num ws (k + 1)), hJ3, (hb.alloc hb.size _).trans hk3⟩
        case measure => simp [intOf]; omega
      · gi_wp2
        refine bodyPost_ret (results_none rfl _ _ _) rfl ?_
        exact ⟨⟨_, rfl⟩, .inr ⟨_, ⟨k + 1, by omega, (by rw [num_succ, HS.out, List.map_append, hpre.out]; rfl : List.map (·.1) (pre ++ [⟨(k, (s1, s2)), hok⟩]) = num ws (k + 1))⟩, hJx3⟩⟩
    · obtain rfl : k = ws.length := by omega
      gi_wp2
      go_end0
      exact ⟨⟨_, rfl⟩, .inl ⟨_, hpre.out, hJs⟩⟩

theorem inOrderP_stops (F : Fence) (n : Nat) (h50 : F.fn 38) (hro : F.round = none) (hn : 1 ≤ n) (Bs : Nat) (wb : World) (v : Value) (ws : List Wr) (hwr : WR wb v ws) (hlen : ws.length ≤ 10000000000000) (hall : ∀ i, i < ws.length → okW (ws.getD i wr0) = true) (w : World)
    (hbW : Below wb.heap.size wb w) (hBs : w.cell? ⟨Bs, 0, none⟩ = some v) :
    SeqStopsK F n Try.prog 38 #[.pointer (some ⟨Bs, 0, none⟩)] encP (Below wb.heap.size) (fun ys => ys.map (·.1) = num ws ws.length) (fun pre => ∃ k, k ≤ ws.length ∧ pre.map (·.1) = num ws k) ws.length w := fun l J Jx W hW hJ _ hY h0 =>
  inOrderP_in F n h50 hro hn l Bs wb v ws hwr hlen hall J Jx W hJ hY (hbW.trans (hW.mono hbW.size)) (cell_later hW hBs) h0

/-! What a turn of a block that is no cells leaves as it was. -/

theorem own_ne {X : World} {b : Nat} {c : Array Value} {t : TypeId} {fr : Nat × Nat} {row : Option Nat} (h : X.heap[b]? = some (.cells c t fr)) (hr : ∀ r, row = some r → ∃ o : Obj, X.heap[r]? = some o ∧ o.isCells = false) : some b ≠ row := fun e => by
  obtain ⟨o, ho, hc⟩ := hr b e.symm
  rw [h] at ho
  cases ho
  simp [Obj.isCells] at hc

theorem NS.turned {B : Nat} {X Y : World} {v : Value} {ss : List ByteArray} {row : Option Nat} (h : NS B X v ss) (hg : X.grownBy Y row) (hr : ∀ r, row = some r → ∃ o : Obj, X.heap[r]? = some o ∧ o.isCells = false) : NS B Y v ss := by
  have key : ss.length = 0 ∨ v.ownBlock ≠ row := by
    obtain ⟨ao, cap, rfl, ho⟩ := h.1
    rcases ho with h0 | ⟨b, N, f, rfl, _, c, hc, _⟩
    · exact .inl h0
    · exact .inr (own_ne hc hr)
  exact ⟨h.1.grown hg key, h.2.1.grown hg (key.elim (fun e => .inl (List.length_eq_zero_iff.1 e)) .inr), h.2.2⟩

theorem Res.turned {R : Nat} {X Y : World} {row : Option Nat} (h : Res R X) (hg : X.grownBy Y row) (hr : ∀ r, row = some r → ∃ o : Obj, X.heap[r]? = some o ∧ o.isCells = false) : Res R Y :=
  ⟨cell_kept h.1 hg hr, cell_kept h.2.1 hg hr, (frozen_kept h.1 hg hr).trans h.2.2.1, (frozen_kept h.2.1 hg hr).trans h.2.2.2.1, Nat.lt_of_lt_of_le h.2.2.2.2 hg.size⟩

end Go.Proofs.Ytddocjmjianajaa.Disk
