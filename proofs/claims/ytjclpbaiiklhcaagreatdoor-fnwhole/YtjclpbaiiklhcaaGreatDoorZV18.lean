import Derived.Test.YtjclpbaiiklhcaaGreatDoorRows
import Derived.WalkKit
import Derived.WalkSpells
import Derived.WalkLawsBesides
import Derived.WalkSmall
import Derived.Defers
import Derived.Recover
import Derived.Test.YtjclpbaiiklhcaaGreatDoorZSpecScr
import Derived.Test.YtjclpbaiiklhcaaGreatDoorZV5
import Derived.Test.YtjclpbaiiklhcaaGreatDoorZDBase
/- What recovers at the faces of a commit. -/
namespace Go.Proofs.YtjclpbaiiklhcaaGreatDoor
open Go.RowKit

theorem scriptCatch (u : TypeId) (pv : Value) (older : List PanicEntry) (w : World) :
    CallsD Tryz.prog 31 #[] (.panicking ({ v := .iface u pv, recovered := false } :: older)) w fun e u' w' => e = .returned (.tuple #[]) ∧ u' = .panicking ({ v := .iface u pv, recovered := true } :: older) ∧ w' = w := by
  refine callsD_of_wpS Tryz.func31 rfl fun c₀ cs hu => ?_
  apply wpS_region
  simp [wpOpsS, go_sem, recoverD, hu, Tryz.ntmps31, bodyPostS, results, Tryz.results31]
theorem scriptIdle (w : World) :
    CallsD Tryz.prog 31 #[] .returning w fun e u' w' => e = .returned (.tuple #[]) ∧ u' = .returning ∧ w' = w := by
  refine callsD_of_wpS Tryz.func31 rfl fun c₀ cs hu => ?_
  apply wpS_region
  cases c₀
  simp_all [wpOpsS, go_sem, recoverD, Tryz.ntmps31, bodyPostS, results, Tryz.results31]
theorem commitCatch (u : TypeId) (pv : Value) (older : List PanicEntry) (w : World) :
    CallsD Tryz.prog 25 #[] (.panicking ({ v := .iface u pv, recovered := false } :: older)) w fun e u' w' => e = .returned (.tuple #[]) ∧ u' = .panicking ({ v := .iface u pv, recovered := true } :: older) ∧ w' = w := by
  refine callsD_of_wpS Tryz.func25 rfl fun c₀ cs hu => ?_
  apply wpS_region
  simp [wpOpsS, go_sem, recoverD, hu, Tryz.ntmps25, bodyPostS, results, Tryz.results25]
theorem commitIdle (w : World) :
    CallsD Tryz.prog 25 #[] .returning w fun e u' w' => e = .returned (.tuple #[]) ∧ u' = .returning ∧ w' = w := by
  refine callsD_of_wpS Tryz.func25 rfl fun c₀ cs hu => ?_
  apply wpS_region
  cases c₀
  simp_all [wpOpsS, go_sem, recoverD, Tryz.ntmps25, bodyPostS, results, Tryz.results25]
theorem cutCatch (u : TypeId) (pv : Value) (older : List PanicEntry) (w : World) :
    CallsD Tryz.prog 37 #[] (.panicking ({ v := .iface u pv, recovered := false } :: older)) w fun e u' w' => e = .returned (.tuple #[]) ∧ u' = .panicking ({ v := .iface u pv, recovered := true } :: older) ∧ w' = w := by
  refine callsD_of_wpS Tryz.func37 rfl fun c₀ cs hu => ?_
  apply wpS_region
  simp [wpOpsS, go_sem, recoverD, hu, Tryz.ntmps37, bodyPostS, results, Tryz.results37]
theorem cutIdle (w : World) :
    CallsD Tryz.prog 37 #[] .returning w fun e u' w' => e = .returned (.tuple #[]) ∧ u' = .returning ∧ w' = w := by
  refine callsD_of_wpS Tryz.func37 rfl fun c₀ cs hu => ?_
  apply wpS_region
  cases c₀
  simp_all [wpOpsS, go_sem, recoverD, Tryz.ntmps37, bodyPostS, results, Tryz.results37]

end Go.Proofs.YtjclpbaiiklhcaaGreatDoor

/- Script of the program and of the model. -/
namespace Go.Proofs.YtjclpbaiiklhcaaGreatDoor
open Go.RowKit

theorem nw_of_owns {w : World} {B : Nat} {v : Value} {ws : List Disk.Wr} (h : w.ownsRow B 48 2 v ws.length (Disk.lcells ws)) : Disk.NW B w v ws := Disk.NO.nw (.inr h)

theorem specScript_any (v1 v2 bv : Value) (ss : List ByteArray) (ws : List Disk.Wr) (bs : List ByteArray) (w : World)
    (hv1 : Disk.SR w v1 ss) (hv2 : Disk.WR w v2 ws) (h1 : ss.length ≤ 10000000000000) (h2 : ws.length ≤ 10000000000000) (hbv : Disk.SR w bv bs) (h3 : bs.length ≤ 10000000000000) :
    Calls Tryz.prog 12 #[.agg #[v1, v2], bv] w fun x w' => (∃ v, x = .returned v ∧ Disk.NW w.heap.size w' v (scriptR ss ws bs)) ∧ Below w.heap.size w w' := by
  have hb0 := bel_one w (.cells #[v1, v2] 27)
  have S := l3Script_any v1 v2 bv ss ws bs _ (hv1.later hb0) (hv2.later hb0) h1 h2 (hbv.later hb0) h3
  have RN := @scriptR_no ss ws bs
  generalize scriptR ss ws bs = R at *
  go_enter Tryz.func12, Tryz.ntmps12
  go_wp2_with fail
  refine S.mono ?_
  rintro x w1 ⟨⟨v, rfl, ho⟩, hb1⟩
  have hbw := bel_after hb0 hb1
  have N1 := nw_of_owns (own_mono ho hb0.size)
  cases hok : scrOk ss ws bs
  · have HR : Hid (R = []) := RN hok
    clear hok RN
    have hbw2 := bel_after hbw (bel_one w1 (.cells #[] 48))
    go_wp2
    go_ret
    exact ⟨⟨_, rfl, by rw [HR.out]; exact Disk.nw_empty _ _ _ _⟩, hbw2⟩
  · clear hok RN
    go_wp2
    go_ret
    exact ⟨⟨_, rfl, N1⟩, hbw⟩

set_option maxRecDepth 100000 in
set_option maxHeartbeats 1600000 in
theorem implScript_any (ao : Option Addr) (cap : Nat) (v2 bv : Value) (ss : List ByteArray) (ws : List Disk.Wr) (bs : List ByteArray) (a0 a1 a2 a3 : Addr) (tg : TypeId) (pg : Value) (w : World)
    (hv1 : Disk.SR w (.slice ao ss.length cap) ss) (hcap : ss.length ≤ cap) (hv2 : Disk.WR w v2 ws) (h1 : ss.length ≤ 10000000000000) (h2 : ws.length ≤ 10000000000000) (hbv : Disk.SR w bv bs) (h3 : bs.length ≤ 10000000000000) (hC : Ctx a0 a1 a2 a3 w) (hG : w.cell? ⟨0, 0, none⟩ = some (.iface tg pg)) :
    Calls Tryz.prog 10 #[.agg #[.slice ao ss.length cap, v2], bv] w fun x w' => (∃ v, x = .returned v ∧ Disk.NW w.heap.size w' v (scriptR ss ws bs)) ∧ Below w.heap.size w w' := by
  have hb0 := bel_one w (.cells #[.slice ao ss.length cap, v2] 27)
  have S := commitWrites_any ao cap v2 bv ss ws bs a0 a1 a2 a3 tg pg _ (hv1.later hb0) hcap (hv2.later hb0) h1 h2 (hbv.later hb0) h3 (hC.later hb0) (cell_later hb0 hG)
  have RN := @scriptR_no ss ws bs
  have RY := @scriptR_yes ss ws bs
  go_enter_defers Tryz.func10, Tryz.ntmps10
  go_wp2_with fail
  refine S.mono ?_
  rintro x w1 ⟨ho, hb1⟩
  have hbw := bel_after hb0 hb1
  unfold CwOut at ho
  cases hok : scrOk ss ws bs
  · rw [hok, if_neg (by simp)] at ho
    subst ho
    have HR : Hid (scriptR ss ws bs = []) := RN hok
    clear hok RN RY S
    have N0 : Disk.NW w.heap.size w1 (.slice none 0 0) (scriptR ss ws bs) := by rw [HR.out]; exact Disk.nw_empty _ _ _ _
    go_wp2
    refine leaves_cons (f := 31) (args := #[]) (by simp) (by simp [go_sem]) ?_
    refine (scriptCatch tg pg [] _).mono ?_
    rintro e u' w'' ⟨rfl, rfl, rfl⟩
    simp [Leaves, settle, results, Tryz.results10, go_sem]
    exact ⟨N0, hbw⟩
  · rw [hok, if_pos rfl] at ho
    obtain ⟨v, rfl, ho⟩ := ho
    have HR : Hid (scriptR ss ws bs = scrW ss bs) := RY hok
    have N1 := nw_of_owns (own_mono ho hb0.size)
    rw [← HR.out] at N1
    clear hok RN RY S
    go_wp2
    refine leaves_cons (f := 31) (args := #[]) (by simp) (by simp [go_sem]) ?_
    refine (scriptIdle _).mono ?_
    rintro e u' w'' ⟨rfl, rfl, rfl⟩
    simp [Leaves, settle, results, Tryz.results10, go_sem]
    exact ⟨N1, hbw⟩

end Go.Proofs.YtjclpbaiiklhcaaGreatDoor

/- inOrder once more: of each write that comes what holds of all of them is known. -/
namespace Go.Proofs.YtjclpbaiiklhcaaGreatDoor.Disk
open Go.RowKit Go.Shelf Go.Deep

attribute [local go_sem] Oper.semAt_some

/-- A numbered write that is right. -/
abbrev OkW1 := { x : NW1 // okW x.2 = true }
def encP (x : OkW1) : Array Value := enc2 x.1

set_option maxRecDepth 100000 in
set_option maxHeartbeats 2000000 in
theorem inOrderP_in (F : Fence) (n : Nat) (h50 : F.fn 82) (hro : F.round = none) (hn : 1 ≤ n) (l Bs : Nat) (wb : World) (v : Value) (ws : List Wr) (hwr : WR wb v ws) (hlen : ws.length ≤ 10000000000000) (hall : ∀ i, i < ws.length → okW (ws.getD i wr0) = true)
    (J Jx : List OkW1 → World → Prop) (W : World) (hJ : AbidesFrom W.heap.size J)
    (hY : ∀ pre x W, J pre W → pre.length < ws.length → YieldAt F (n - 1) Tryz.prog l (encP x) W fun e W' =>
      (e = .returned (.bool true) ∧ J (pre ++ [x]) W' ∧ Below wb.heap.size W W') ∨ (e = .returned (.bool false) ∧ Jx (pre ++ [x]) W'))
    (hbW : Below wb.heap.size wb W) (hBs : W.cell? ⟨Bs, 0, none⟩ = some v) (h0 : J [] W) :
    CallsIn F n Tryz.prog 82 #[.func (.yield l) #[] #[], .pointer (some ⟨Bs, 0, none⟩)] W fun e W' => (∃ v, e = .returned v) ∧
      ((∃ ys, ys.map (·.1) = num ws ws.length ∧ J ys W') ∨ (∃ pre, (∃ k, k ≤ ws.length ∧ pre.map (·.1) = num ws k) ∧ Jx pre W')) := by
  obtain ⟨ao, cap, rfl, hv⟩ := hwr
  have HA : Hid (∀ i, i < ws.length → okW (ws.getD i wr0) = true) := hall
  clear hall
  refine callsIn_of_wp Tryz.func82 rfl h50 ?_ hro
  simp only [Tryz.ntmps82, List.size_toArray, List.length_cons, List.length_nil, Nat.reduceAdd, Nat.reduceSub, Array.replicate_succ, Array.replicate_zero, List.push_toArray, List.append_toArray, List.nil_append, List.cons_append]
  gi_wp2
  gi_loopw [7] (fun i wr => ∃ (k : Nat) (pre : List OkW1), k ≤ ws.length ∧ i = .int .i64 k ∧ Hid (pre.map (·.1) = num ws k) ∧ J pre wr ∧ Below wb.heap.size wb wr) (fun i _ => ws.length - (intOf i).toNat)
  case atStart => exact ⟨0, [], Nat.zero_le _, rfl, rfl, h0, hbW⟩
  case round =>
    obtain ⟨k, pre, hk, rfl, hpre, hJs, hb⟩ := hrel
    by_cases hlt : k < ws.length
    · obtain ⟨b, o, rfl, hc, hd⟩ := hv k hlt
      have hc1 := cell_later hb hc
      have hd1 := cell_later hb hd
      have hok := HA.out k hlt
      generalize hs : ws.getD k wr0 = s at *
      have HS : Hid (ws.getD k wr0 = s) := hs
      obtain ⟨s1, s2⟩ := s
      have hJa : J pre (wr.alloc (.cells #[.int .i64 s1, .string s2] 48)) := hJ _ _ _ none hJs (World.grownBy_alloc wr _ none) (fun r e => by cases e)
      have hpl : pre.length = k := by have := congrArg List.length hpre.out; rw [List.length_map, num_length] at this; exact this
      obtain ⟨fn, tmps, assign, body, hy, hR⟩ := hY _ ⟨(k, (s1, s2)), hok⟩ _ hJa (by omega)
      dsimp only [encP, enc2] at hy
      clear hv hc hs hd hpl
      gi_wp2
      refine hR.mono ?_
      rintro e W3 (⟨rfl, hJ3, hk3⟩ | ⟨rfl, hJx3⟩)
      · gi_wp2
        go_roundw
        case rel => exact ⟨k + 1, _, by omega, by simp, (by rw [num_succ, HS.out, List.map_append, hpre.out]; rfl : List.map (·.1) (pre ++ [⟨(k, (s1, s2)), hok⟩]) = num ws (k + 1)), hJ3, (hb.alloc hb.size _).trans hk3⟩
        case measure => simp [intOf]; omega
      · gi_wp2
        refine bodyPost_ret (results_none rfl _ _ _) rfl ?_
        exact ⟨⟨_, rfl⟩, .inr ⟨_, ⟨k + 1, by omega, (by rw [num_succ, HS.out, List.map_append, hpre.out]; rfl : List.map (·.1) (pre ++ [⟨(k, (s1, s2)), hok⟩]) = num ws (k + 1))⟩, hJx3⟩⟩
    · obtain rfl : k = ws.length := by omega
      gi_wp2
      go_end0
      exact ⟨⟨_, rfl⟩, .inl ⟨_, hpre.out, hJs⟩⟩

theorem inOrderP_stops (F : Fence) (n : Nat) (h50 : F.fn 82) (hro : F.round = none) (hn : 1 ≤ n) (Bs : Nat) (wb : World) (v : Value) (ws : List Wr) (hwr : WR wb v ws) (hlen : ws.length ≤ 10000000000000) (hall : ∀ i, i < ws.length → okW (ws.getD i wr0) = true) (w : World)
    (hbW : Below wb.heap.size wb w) (hBs : w.cell? ⟨Bs, 0, none⟩ = some v) :
    SeqStopsK F n Tryz.prog 82 #[.pointer (some ⟨Bs, 0, none⟩)] encP (Below wb.heap.size) (fun ys => ys.map (·.1) = num ws ws.length) (fun pre => ∃ k, k ≤ ws.length ∧ pre.map (·.1) = num ws k) ws.length w := fun l J Jx W hW hJ _ hY h0 =>
  inOrderP_in F n h50 hro hn l Bs wb v ws hwr hlen hall J Jx W hJ hY (hbW.trans (hW.mono hbW.size)) (cell_later hW hBs) h0

/-! What a turn of a block that is no cells leaves as it was. -/

theorem own_ne {X : World} {b : Nat} {c : Array Value} {t : TypeId} {fr : Nat × Nat} {row : Option Nat} (h : X.heap[b]? = some (.cells c t fr)) (hr : ∀ r, row = some r → ∃ o : Obj, X.heap[r]? = some o ∧ o.isCells = false) : some b ≠ row := fun e => by
  obtain ⟨o, ho, hc⟩ := hr b e.symm
  rw [h] at ho
  cases ho
  simp [Obj.isCells] at hc

theorem NS.turned {B : Nat} {X Y : World} {v : Value} {ss : List ByteArray} {row : Option Nat} (h : NS B X v ss) (hg : X.grownBy Y row) (hr : ∀ r, row = some r → ∃ o : Obj, X.heap[r]? = some o ∧ o.isCells = false) : NS B Y v ss := by
  have key : ss.length = 0 ∨ v.ownBlock ≠ row := by
    obtain ⟨ao, cap, rfl, ho⟩ := h.1
    rcases ho with h0 | ⟨b, N, f, rfl, _, c, hc, _⟩
    · exact .inl h0
    · exact .inr (own_ne hc hr)
  exact ⟨h.1.grown hg key, h.2.1.grown hg (key.elim (fun e => .inl (List.length_eq_zero_iff.1 e)) .inr), h.2.2⟩

theorem Res.turned {R : Nat} {X Y : World} {row : Option Nat} (h : Res R X) (hg : X.grownBy Y row) (hr : ∀ r, row = some r → ∃ o : Obj, X.heap[r]? = some o ∧ o.isCells = false) : Res R Y :=
  ⟨cell_kept h.1 hg hr, cell_kept h.2.1 hg hr, (frozen_kept h.1 hg hr).trans h.2.2.1, (frozen_kept h.2.1 hg hr).trans h.2.2.2.1, Nat.lt_of_lt_of_le h.2.2.2.2 hg.size⟩

end Go.Proofs.YtjclpbaiiklhcaaGreatDoor.Disk
