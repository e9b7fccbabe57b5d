import Derived.Test.YtgacacbncefeaaaGreatZV3
import Derived.Test.YtgacacbncefeaaaGreatZHLawM
import Derived.Test.YtgacacbncefeaaaGreatZV6
import Derived.Test.YtgacacbncefeaaaGreatZHSpecP
import Derived.ChangeSlices
import Derived.ProofKit
import Derived.OpenShut
import Derived.SizedLaws
import Derived.Lib.SmallJoins
import Derived.Deep.Slices
/- markVm and heldVm of the laws. -/
namespace Go.Proofs.YtgacacbncefeaaaGreat
open Go.RowKit

/-- w' is w with new blocks, and with writes to blocks of R alone. -/
structure Only (w w' : World) (R : Nat → Prop) : Prop where
  os : w'.os = w.os
  tape : w'.tape = w.tape
  output : w'.output = w.output
  size : w.heap.size ≤ w'.heap.size
  block : ∀ k, k < w.heap.size → ¬ R k → w'.heap[k]? = w.heap[k]?
theorem Only.of_below {w w' : World} {R : Nat → Prop} (h : Below w.heap.size w w') : Only w w' R := ⟨h.os, h.tape, h.output, h.size, fun k hk _ => h.block k hk⟩
theorem Only.of_grown {w w' : World} {R : Nat → Prop} {r : Option Nat} (h : w.grownBy w' r) (hr : ∀ k, r = some k → R k) : Only w w' R := ⟨h.os, h.tape, h.output, h.size, fun k hk n => h.block k hk (fun e => n (hr k e.symm))⟩
theorem Only.of_thr {w w' : World} {R : Nat → Prop} {r1 r2 r3 : Option Nat} (h : Thr w w' r1 r2 r3) (h1 : ∀ k, r1 = some k → R k) (h2 : ∀ k, r2 = some k → R k) (h3 : ∀ k, r3 = some k → R k) : Only w w' R :=
  ⟨h.os, h.tape, h.output, h.size, fun k hk n => h.block k hk (fun e => n (h1 k e.symm)) (fun e => n (h2 k e.symm)) (fun e => n (h3 k e.symm))⟩
theorem Only.trans {a b c : World} {R : Nat → Prop} (h : Only a b R) (k : Only b c R) : Only a c R :=
  ⟨k.os.trans h.os, k.tape.trans h.tape, k.output.trans h.output, Nat.le_trans h.size k.size, fun i hi n => (k.block i (Nat.lt_of_lt_of_le hi h.size) n).trans (h.block i hi n)⟩
theorem Only.below {w w' : World} {R : Nat → Prop} {B : Nat} (h : Only w w' R) (hB : B ≤ w.heap.size) (hr : ∀ k, R k → B ≤ k) : Below B w w' :=
  ⟨h.os, h.tape, h.output, h.size, fun k hk => h.block k (by omega) (fun e => by have := hr k e; omega)⟩

def VRow (v : Value) (m : Mp) (b : Nat) : Prop := ∃ v1 v2 v3 vp vo, v = .agg #[v1, v2, .int .i64 m.h.old, .int .i64 m.h.eden, .int .i64 m.h.surv, .bool m.h.flip, .int .i64 m.h.hash, v3, vp, .int .i64 m.pc, vo, .int .i64 m.st] ∧ (Disk.rowOf v1 m.h.words.length = some b ∨ Disk.rowOf v2 m.h.roots.length = some b ∨ Disk.rowOf v3 m.h.kept.length = some b ∨ Disk.rowOf vp m.prog.length = some b ∨ Disk.rowOf vo m.out.length = some b)
theorem VN.row {B b : Nat} {w : World} {v : Value} {m : Mp} (k : VN B w v m) (h : VRow v m b) : B ≤ b ∧ b < w.heap.size := by
  obtain ⟨v1, v2, v3, vp, vo, rfl, hh, ⟨_, op⟩, ⟨_, oo⟩, r1, r2⟩ := k.ex
  obtain ⟨u1, u2, u3, up, uo, e, h⟩ := h
  injection e with e
  simp only [Array.mk.injEq, List.cons.injEq, and_true, true_and] at e
  obtain ⟨rfl, rfl, rfl, rfl, rfl⟩ := e
  obtain ⟨⟨o1, o2, o3⟩, _, ⟨b1, b2, b3⟩, _⟩ := hh.irs
  rcases h with h | h | h | h | h
  · exact ⟨b1 b h, o1.row b h⟩
  · exact ⟨b2 b h, o2.row b h⟩
  · exact ⟨b3 b h, o3.row b h⟩
  · exact ⟨(r1 b h).1, op.row b h⟩
  · exact ⟨(r2 b h).1, oo.row b h⟩
/-- Its rows hold their marks. -/
def MK (w : World) (v : Value) (m : Mp) : Prop := ∃ v1 v2 v3 vp vo, v = .agg #[v1, v2, .int .i64 m.h.old, .int .i64 m.h.eden, .int .i64 m.h.surv, .bool m.h.flip, .int .i64 m.h.hash, v3, vp, .int .i64 m.pc, vo, .int .i64 m.st] ∧ IR w v1 (imarks 1 m.h.words.length) ∧ IR w v2 (imarks (1 + (m.h.words.length : Int)) m.h.roots.length) ∧ IR w v3 (imarks (1 + (m.h.words.length : Int) + m.h.roots.length) m.h.kept.length) ∧ CR w vp (cmarks (1 + (m.h.words.length : Int) + m.h.roots.length + m.h.kept.length) m.prog.length) ∧ IR w vo (imarks (1 + (m.h.words.length : Int) + m.h.roots.length + m.h.kept.length + 2 * m.prog.length) m.out.length)
theorem MK.later {w w' : World} {v : Value} {m : Mp} (h : MK w v m) (hb : Below w.heap.size w w') : MK w' v m := by
  obtain ⟨v1, v2, v3, vp, vo, e, a, b, c, d, f⟩ := h
  exact ⟨v1, v2, v3, vp, vo, e, a.later hb, b.later hb, c.later hb, d.later hb, f.later hb⟩

def kTot (m : Mp) : Int := (1 + (m.h.words.length : Int) + m.h.roots.length + m.h.kept.length + 2 * m.prog.length + m.out.length)
theorem OS.keepT {w w' : World} {t s n : Nat} {v : Value} {r1 r2 r3 : Option Nat} (h : Disk.OS w t s v n) (T : Thr w w' r1 r2 r3) (hr : ∀ b, Disk.rowOf v n = some b → some b ≠ r1 ∧ some b ≠ r2 ∧ some b ≠ r3) : Disk.OS w' t s v n := by
  obtain ⟨ao, cap, rfl, h⟩ := h
  refine ⟨ao, cap, rfl, ?_⟩
  by_cases h0 : n = 0
  · exact .inl h0
  · obtain ⟨b, N, f, rfl, hN, hrow⟩ := h.resolve_left h0
    have q := hr b (by unfold Disk.rowOf; rw [if_neg h0]; rfl)
    exact .inr ⟨b, N, f, rfl, hN, hrow.of_block (T.block b hrow.lt q.1 q.2.1 q.2.2)⟩
theorem apartC {w : World} {t s n mm : Nat} {v u : Value} (d : ∀ b, Disk.rowOf v n = some b → Disk.rowOf u mm ≠ some b) (hv : Disk.OS w t s v n) : n = 0 ∨ v.ownBlock ≠ Disk.rowOf u mm := apart' d hv
theorem inil {k : Int} {n mm : Nat} {v u : Value} (h : n = 0 ∨ v.ownBlock ≠ Disk.rowOf u mm) : imarks k n = [] ∨ v.ownBlock ≠ Disk.rowOf u mm := marks_nil h
theorem cnil {k : Int} {n mm : Nat} {v u : Value} (h : n = 0 ∨ v.ownBlock ≠ Disk.rowOf u mm) : cmarks k n = [] ∨ v.ownBlock ≠ Disk.rowOf u mm := h.elim (fun e => .inl (by rw [e]; rfl)) .inr

set_option maxRecDepth 100000 in
set_option maxHeartbeats 1600000 in
theorem markVm_any (B : Nat) (v : Value) (m : Mp) (w : World) (k : VN B w v m) (hs : smM m 1000000000) :
    Calls Tryz.prog 19 #[v, .int .i64 1] w fun e w' => e = .returned (.int .i64 (kTot m)) ∧ Only w w' (VRow v m) ∧ MK w' v m := by
  have kr := fun b h => k.row (b := b) h
  obtain ⟨v1, v2, v3, vp, vo, rfl, hh, ⟨rp, op⟩, ⟨ro, oo⟩, d1, d2⟩ := k.ex
  obtain ⟨⟨o1, o2, o3⟩, ⟨i1, i2, i3⟩, _, d12, d13, d23⟩ := hh.irs
  obtain ⟨s1, s2, s3, s4, s5⟩ := hs
  have hb0 := bel_one w (.cells #[v1, v2, .int .i64 m.h.old, .int .i64 m.h.eden, .int .i64 m.h.surv, .bool m.h.flip, .int .i64 m.h.hash, v3, vp, .int .i64 m.pc, vo, .int .i64 m.st] 30)
  have B0 : Bk (w.alloc (.cells #[v1, v2, .int .i64 m.h.old, .int .i64 m.h.eden, .int .i64 m.h.surv, .bool m.h.flip, .int .i64 m.h.hash, v3, vp, .int .i64 m.pc, vo, .int .i64 m.st] 30)) w.heap.size #[v1, v2, .int .i64 m.h.old, .int .i64 m.h.eden, .int .i64 m.h.surv, .bool m.h.flip, .int .i64 m.h.hash, v3, vp, .int .i64 m.pc, vo, .int .i64 m.st] 30 := Bk.new w _ _
  have x0 := B0.cell 0 (v1) rfl
  have x1 := B0.cell 1 (v2) rfl
  have x2 := B0.cell 2 (.int .i64 m.h.old) rfl
  have x3 := B0.cell 3 (.int .i64 m.h.eden) rfl
  have x4 := B0.cell 4 (.int .i64 m.h.surv) rfl
  have x5 := B0.cell 5 (.bool m.h.flip) rfl
  have x6 := B0.cell 6 (.int .i64 m.h.hash) rfl
  have x7 := B0.cell 7 (v3) rfl
  have x8 := B0.cell 8 (vp) rfl
  have x9 := B0.cell 9 (.int .i64 m.pc) rfl
  have x10 := B0.cell 10 (vo) rfl
  have x11 := B0.cell 11 (.int .i64 m.st) rfl
  have nb : ∀ b, VRow (.agg #[v1, v2, .int .i64 m.h.old, .int .i64 m.h.eden, .int .i64 m.h.surv, .bool m.h.flip, .int .i64 m.h.hash, v3, vp, .int .i64 m.pc, vo, .int .i64 m.st]) m b → b ≠ w.heap.size := fun b h e => by have := (kr b h).2; omega
  have n1 : some w.heap.size ≠ Disk.rowOf v1 m.h.words.length := fun e => nb _ ⟨_, _, _, _, _, rfl, .inl e.symm⟩ rfl
  have n2 : some w.heap.size ≠ Disk.rowOf v2 m.h.roots.length := fun e => nb _ ⟨_, _, _, _, _, rfl, .inr (.inl e.symm)⟩ rfl
  have n3 : some w.heap.size ≠ Disk.rowOf v3 m.h.kept.length := fun e => nb _ ⟨_, _, _, _, _, rfl, .inr (.inr (.inl e.symm))⟩ rfl
  have n4 : some w.heap.size ≠ Disk.rowOf vp m.prog.length := fun e => nb _ ⟨_, _, _, _, _, rfl, .inr (.inr (.inr (.inl e.symm)))⟩ rfl
  have q1 : ∀ b, Disk.rowOf v1 m.h.words.length = some b → VRow (.agg #[v1, v2, .int .i64 m.h.old, .int .i64 m.h.eden, .int .i64 m.h.surv, .bool m.h.flip, .int .i64 m.h.hash, v3, vp, .int .i64 m.pc, vo, .int .i64 m.st]) m b := fun b e => ⟨_, _, _, _, _, rfl, .inl e⟩
  have q2 : ∀ b, Disk.rowOf v2 m.h.roots.length = some b → VRow (.agg #[v1, v2, .int .i64 m.h.old, .int .i64 m.h.eden, .int .i64 m.h.surv, .bool m.h.flip, .int .i64 m.h.hash, v3, vp, .int .i64 m.pc, vo, .int .i64 m.st]) m b := fun b e => ⟨_, _, _, _, _, rfl, .inr (.inl e)⟩
  have q3 : ∀ b, Disk.rowOf v3 m.h.kept.length = some b → VRow (.agg #[v1, v2, .int .i64 m.h.old, .int .i64 m.h.eden, .int .i64 m.h.surv, .bool m.h.flip, .int .i64 m.h.hash, v3, vp, .int .i64 m.pc, vo, .int .i64 m.st]) m b := fun b e => ⟨_, _, _, _, _, rfl, .inr (.inr (.inl e))⟩
  have q4 : ∀ b, Disk.rowOf vp m.prog.length = some b → VRow (.agg #[v1, v2, .int .i64 m.h.old, .int .i64 m.h.eden, .int .i64 m.h.surv, .bool m.h.flip, .int .i64 m.h.hash, v3, vp, .int .i64 m.pc, vo, .int .i64 m.st]) m b := fun b e => ⟨_, _, _, _, _, rfl, .inr (.inr (.inr (.inl e)))⟩
  have q5 : ∀ b, Disk.rowOf vo m.out.length = some b → VRow (.agg #[v1, v2, .int .i64 m.h.old, .int .i64 m.h.eden, .int .i64 m.h.surv, .bool m.h.flip, .int .i64 m.h.hash, v3, vp, .int .i64 m.pc, vo, .int .i64 m.st]) m b := fun b e => ⟨_, _, _, _, _, rfl, .inr (.inr (.inr (.inr e)))⟩
  have MH := markHeap_any v1 v2 v3 m.h 1 _ (o1.later hb0) (o2.later hb0) (o3.later hb0) (i1.later hb0) (i2.later hb0) (i3.later hb0) d12 d13 d23 (by omega) (by omega) (by omega) (by omega) (by omega)
  have zp := CRs rp
  have zo := IRs ro
  unfold kTot
  generalize hRR : VRow (.agg #[v1, v2, .int .i64 m.h.old, .int .i64 m.h.eden, .int .i64 m.h.surv, .bool m.h.flip, .int .i64 m.h.hash, v3, vp, .int .i64 m.pc, vo, .int .i64 m.st]) m = RR at *
  go_enter Tryz.func19, Tryz.ntmps19
  go_wp2_with fail
  refine MH.mono ?_
  clear MH x0 x1 x2 x3 x4 x5 x6 x7 x8 x9 x10 x11 nb kr
  rintro e w1 ⟨rfl, T1, m1, m2, m3⟩
  have O1 : Only w w1 RR := (Only.of_below hb0).trans (Only.of_thr T1 q1 q2 q3)
  have B1 : Bk w1 w.heap.size #[v1, v2, .int .i64 m.h.old, .int .i64 m.h.eden, .int .i64 m.h.surv, .bool m.h.flip, .int .i64 m.h.hash, v3, vp, .int .i64 m.pc, vo, .int .i64 m.st] 30 := (T1.block _ B0.lt n1 n2 n3).trans B0
  have opx : Disk.OS w1 59 2 vp m.prog.length := by
    have p0 := op.later hb0
    exact OS.keepT p0 T1 (fun b e => ⟨fun f => (d1 b e).2.1 f.symm, fun f => (d1 b e).2.2.1 f.symm, fun f => (d1 b e).2.2.2.1 f.symm⟩)
  have oox : Disk.OS w1 2 1 vo m.out.length := by
    have p0 := oo.later hb0
    exact OS.keepT p0 T1 (fun b e => ⟨fun f => (d2 b e).2.1 f.symm, fun f => (d2 b e).2.2.1 f.symm, fun f => (d2 b e).2.2.2 f.symm⟩)
  have MC := markCodes_any vp m.prog.length (1 + (m.h.words.length : Int) + m.h.roots.length + m.h.kept.length) w1 opx (by obtain ⟨a, c, e, f⟩ := zp; exact ⟨a, c, e, f⟩) (by omega) (by omega)
  have x8 := B1.cell 8 vp rfl
  go_wp2_with fail
  refine MC.mono ?_
  clear MC x8
  rintro e w2 ⟨rfl, g2, m4⟩
  have O2 : Only w w2 RR := O1.trans (Only.of_grown g2 q4)
  have B2 := B1.off g2 n4
  have x10 := B2.cell 10 vo rfl
  have ooy := oox.grown g2 (apartC (fun b e f => (d1 b f).2.2.2.2 e) oo)
  have p1 := m1.grown g2 (inil (apartC (fun b e f => (d1 b f).2.1 e) o1))
  have p2 := m2.grown g2 (inil (apartC (fun b e f => (d1 b f).2.2.1 e) o2))
  have p3 := m3.grown g2 (inil (apartC (fun b e f => (d1 b f).2.2.2.1 e) o3))
  have MI := markInt64S_any vo m.out.length (1 + (m.h.words.length : Int) + m.h.roots.length + m.h.kept.length + 2 * m.prog.length) w2 ooy (by obtain ⟨a, c, e, f⟩ := zo; exact ⟨a, c, e, f⟩) (by omega) (by omega)
  clear B0 B1 m1 m2 m3 opx oox
  go_wp2_with fail
  refine MI.mono ?_
  clear MI x10
  rintro e w3 ⟨rfl, g3, m5⟩
  have O3 : Only w w3 RR := O2.trans (Only.of_grown g3 q5)
  have r1 := p1.grown g3 (inil (apartC (fun b e f => (d2 b f).2.1 e) o1))
  have r2 := p2.grown g3 (inil (apartC (fun b e f => (d2 b f).2.2.1 e) o2))
  have r3 := p3.grown g3 (inil (apartC (fun b e f => (d2 b f).2.2.2 e) o3))
  have r4 := m4.grown g3 (cnil (apartC (fun b e f => (d1 b e).2.2.2.2 f) op))
  go_wp2
  go_ret
  exact ⟨rfl, O3, ⟨_, _, _, _, _, rfl, r1, r2, r3, r4, m5⟩⟩

set_option maxRecDepth 100000 in
set_option maxHeartbeats 1600000 in
theorem heldVm_any (v : Value) (m : Mp) (w : World) (k : MK w v m) (hs : smM m 1000000000) :
    Calls Tryz.prog 20 #[v, .int .i64 1] w fun e w' => e = .returned (.int .i64 (kTot m)) ∧ Below w.heap.size w w' := by
  obtain ⟨v1, v2, v3, vp, vo, rfl, m1, m2, m3, m4, m5⟩ := k
  obtain ⟨s1, s2, s3, s4, s5⟩ := hs
  have hb0 := bel_one w (.cells #[v1, v2, .int .i64 m.h.old, .int .i64 m.h.eden, .int .i64 m.h.surv, .bool m.h.flip, .int .i64 m.h.hash, v3, vp, .int .i64 m.pc, vo, .int .i64 m.st] 30)
  have B0 : Bk (w.alloc (.cells #[v1, v2, .int .i64 m.h.old, .int .i64 m.h.eden, .int .i64 m.h.surv, .bool m.h.flip, .int .i64 m.h.hash, v3, vp, .int .i64 m.pc, vo, .int .i64 m.st] 30)) w.heap.size #[v1, v2, .int .i64 m.h.old, .int .i64 m.h.eden, .int .i64 m.h.surv, .bool m.h.flip, .int .i64 m.h.hash, v3, vp, .int .i64 m.pc, vo, .int .i64 m.st] 30 := Bk.new w _ _
  have x0 := B0.cell 0 (v1) rfl
  have x1 := B0.cell 1 (v2) rfl
  have x2 := B0.cell 2 (.int .i64 m.h.old) rfl
  have x3 := B0.cell 3 (.int .i64 m.h.eden) rfl
  have x4 := B0.cell 4 (.int .i64 m.h.surv) rfl
  have x5 := B0.cell 5 (.bool m.h.flip) rfl
  have x6 := B0.cell 6 (.int .i64 m.h.hash) rfl
  have x7 := B0.cell 7 (v3) rfl
  have x8 := B0.cell 8 (vp) rfl
  have x9 := B0.cell 9 (.int .i64 m.pc) rfl
  have x10 := B0.cell 10 (vo) rfl
  have x11 := B0.cell 11 (.int .i64 m.st) rfl
  have HH := heldHeap_any v1 v2 v3 m.h 1 _ (m1.later hb0) (m2.later hb0) (m3.later hb0) (by omega) (by omega) (by omega) (by omega) (by omega)
  unfold kTot
  go_enter Tryz.func20, Tryz.ntmps20
  go_wp2_with fail
  refine HH.mono ?_
  clear HH x0 x1 x2 x3 x4 x5 x6 x7 x8 x9 x10 x11
  rintro e w1 ⟨rfl, hb1⟩
  have bw1 := bel_after hb0 hb1
  have B1 := B0.later hb1
  have x8 := B1.cell 8 vp rfl
  have HC := heldCodes_any vp m.prog.length (1 + (m.h.words.length : Int) + m.h.roots.length + m.h.kept.length) w1 (m4.later bw1) (by omega) (by omega)
  go_wp2_with fail
  refine HC.mono ?_
  clear HC x8
  rintro e w2 ⟨rfl, hb2⟩
  have bw2 := bel_after bw1 hb2
  have B2 := B1.later hb2
  have x10 := B2.cell 10 vo rfl
  have HI := heldInt64S_any vo m.out.length (1 + (m.h.words.length : Int) + m.h.roots.length + m.h.kept.length + 2 * m.prog.length) w2 (m5.later bw2) (by omega) (by omega)
  go_wp2_with fail
  refine HI.mono ?_
  clear HI x10
  rintro e w3 ⟨rfl, hb3⟩
  go_wp2
  go_ret
  exact ⟨rfl, bel_after bw2 hb3⟩

end Go.Proofs.YtgacacbncefeaaaGreat

/- The law of Result. -/
namespace Go.Proofs.YtgacacbncefeaaaGreat
open Go.RowKit

theorem resL_len {m : Mp} {n : Nat} (h : smM m n) : (resL m).length ≤ n := by
  unfold resL
  split
  · exact h.2.2.2.2
  · exact Nat.zero_le _

set_option maxRecDepth 100000 in
set_option maxHeartbeats 3200000 in
theorem lawResult_any (v1 v2 v3 vp vo : Value) (m : Mp) (w : World) (i1 : IR w v1 m.h.words) (i2 : IR w v2 m.h.roots) (i3 : IR w v3 m.h.kept) (ip : CR w vp m.prog) (io : IR w vo m.out) (hs : smM m 1000000000000000) :
    Calls Tryz.prog 6 #[.agg #[v1, v2, .int .i64 m.h.old, .int .i64 m.h.eden, .int .i64 m.h.surv, .bool m.h.flip, .int .i64 m.h.hash, v3, vp, .int .i64 m.pc, vo, .int .i64 m.st]] w fun e w' => e = .returned (.bool true) ∧ Below w.heap.size w w' := by
  have hb0 := bel_one w (.cells #[v1, v2, .int .i64 m.h.old, .int .i64 m.h.eden, .int .i64 m.h.surv, .bool m.h.flip, .int .i64 m.h.hash, v3, vp, .int .i64 m.pc, vo, .int .i64 m.st] 45)
  have B0 : Bk (w.alloc (.cells #[v1, v2, .int .i64 m.h.old, .int .i64 m.h.eden, .int .i64 m.h.surv, .bool m.h.flip, .int .i64 m.h.hash, v3, vp, .int .i64 m.pc, vo, .int .i64 m.st] 45)) w.heap.size #[v1, v2, .int .i64 m.h.old, .int .i64 m.h.eden, .int .i64 m.h.surv, .bool m.h.flip, .int .i64 m.h.hash, v3, vp, .int .i64 m.pc, vo, .int .i64 m.st] 45 := Bk.new w _ _
  have SZ := szVm_any v1 v2 v3 vp vo m _ (i1.later hb0) (i2.later hb0) (i3.later hb0) (ip.later hb0) (io.later hb0) hs
  have x0 := B0.cell 0 (v1) rfl
  have x1 := B0.cell 1 (v2) rfl
  have x2 := B0.cell 2 (.int .i64 m.h.old) rfl
  have x3 := B0.cell 3 (.int .i64 m.h.eden) rfl
  have x4 := B0.cell 4 (.int .i64 m.h.surv) rfl
  have x5 := B0.cell 5 (.bool m.h.flip) rfl
  have x6 := B0.cell 6 (.int .i64 m.h.hash) rfl
  have x7 := B0.cell 7 (v3) rfl
  have x8 := B0.cell 8 (vp) rfl
  have x9 := B0.cell 9 (.int .i64 m.pc) rfl
  have x10 := B0.cell 10 (vo) rfl
  have x11 := B0.cell 11 (.int .i64 m.st) rfl
  go_enter Tryz.func6, Tryz.ntmps6
  go_wp2_with fail
  refine SZ.mono ?_
  clear SZ x0 x1 x2 x3 x4 x5 x6 x7 x8 x9 x10 x11
  rintro e w1 ⟨⟨y, rfl, hy⟩, hb1⟩
  have bw1 := bel_after hb0 hb1
  have B1 := B0.later hb1
  by_cases hn : y < 0
  · clear hy
    go_wp2
    go_ret
    exact ⟨rfl, bw1⟩
  have sm := hy.out (by omega)
  have sm9 : smM m 1000000000 := by unfold smM at *; omega
  have TV := fun W (hb : Below w.heap.size w W) => toVm_any v1 v2 v3 vp vo m W (i1.later hb) (i2.later hb) (i3.later hb) (ip.later hb) (io.later hb) (by unfold smM at *; omega)
  replace sm9 : Hid (smM m 1000000000) := sm9
  clear hy sm hs i1 i2 i3 ip io B0
  have rl : (resL m).length ≤ 1000000000 := resL_len sm9.out
  have rsl := rl
  have nn : (resS m != resS m) = false := by simp
  have SVC := fun v w (h : VR w v m) => specVmOk_c v m w h sm9.out
  have x0 := B1.cell 0 (v1) rfl
  have x1 := B1.cell 1 (v2) rfl
  have x2 := B1.cell 2 (.int .i64 m.h.old) rfl
  have x3 := B1.cell 3 (.int .i64 m.h.eden) rfl
  have x4 := B1.cell 4 (.int .i64 m.h.surv) rfl
  have x5 := B1.cell 5 (.bool m.h.flip) rfl
  have x6 := B1.cell 6 (.int .i64 m.h.hash) rfl
  have x7 := B1.cell 7 (v3) rfl
  have x8 := B1.cell 8 (vp) rfl
  have x9 := B1.cell 9 (.int .i64 m.pc) rfl
  have x10 := B1.cell 10 (vo) rfl
  have x11 := B1.cell 11 (.int .i64 m.st) rfl
  go_wp2_with fail
  refine (TV _ bw1).mono ?_
  clear x0 x1 x2 x3 x4 x5 x6 x7 x8 x9 x10 x11
  rintro e w2 ⟨⟨p, rfl, hp⟩, hb2⟩
  have bw2 := bel_after bw1 hb2
  have B2 := B1.later hb2
  have SP := specResult_any p m w2 hp.vr sm9.out SVC
  clear hp SVC
  go_wp2_with fail
  refine SP.mono ?_
  clear SP
  rintro e w3 ⟨⟨r3, rfl, ir3, os3, -⟩, hb3⟩
  have bw3 := bel_after bw2 hb3
  have B3 := B2.later hb3
  have lo3 : ∀ b, Disk.rowOf r3 (resL m).length = some b → b < w3.heap.size := fun b h => os3.row b h
  have x0 := B3.cell 0 (v1) rfl
  have x1 := B3.cell 1 (v2) rfl
  have x2 := B3.cell 2 (.int .i64 m.h.old) rfl
  have x3 := B3.cell 3 (.int .i64 m.h.eden) rfl
  have x4 := B3.cell 4 (.int .i64 m.h.surv) rfl
  have x5 := B3.cell 5 (.bool m.h.flip) rfl
  have x6 := B3.cell 6 (.int .i64 m.h.hash) rfl
  have x7 := B3.cell 7 (v3) rfl
  have x8 := B3.cell 8 (vp) rfl
  have x9 := B3.cell 9 (.int .i64 m.pc) rfl
  have x10 := B3.cell 10 (vo) rfl
  have x11 := B3.cell 11 (.int .i64 m.st) rfl
  go_wp2_with fail
  refine (TV _ bw3).mono ?_
  clear x0 x1 x2 x3 x4 x5 x6 x7 x8 x9 x10 x11 B1 B2
  rintro e w4 ⟨⟨q, rfl, hq⟩, hb4⟩
  have bw4 := bel_after bw3 hb4
  have B4 := B3.later hb4
  obtain ⟨u1, u2, u3, up, uo, rfl, k1, k2, k3, kp, ko⟩ := hq.vr
  obtain ⟨ua1, uc1, rfl, -⟩ := IRs k1
  obtain ⟨ua2, uc2, rfl, -⟩ := IRs k2
  obtain ⟨ua3, uc3, rfl, -⟩ := IRs k3
  obtain ⟨uap, ucp, rfl, -⟩ := CRs kp
  obtain ⟨uao, uco, rfl, -⟩ := IRs ko
  clear k1 k2 k3 kp ko
  have al := bel_one w4 (.cells #[.slice ua1 m.h.words.length uc1, .slice ua2 m.h.roots.length uc2, .int .i64 m.h.old, .int .i64 m.h.eden, .int .i64 m.h.surv, .bool m.h.flip, .int .i64 m.h.hash, .slice ua3 m.h.kept.length uc3, .slice uap m.prog.length ucp, .int .i64 m.pc, .slice uao m.out.length uco, .int .i64 m.st] 30)
  have D5 : Bk (w4.alloc (.cells #[.slice ua1 m.h.words.length uc1, .slice ua2 m.h.roots.length uc2, .int .i64 m.h.old, .int .i64 m.h.eden, .int .i64 m.h.surv, .bool m.h.flip, .int .i64 m.h.hash, .slice ua3 m.h.kept.length uc3, .slice uap m.prog.length ucp, .int .i64 m.pc, .slice uao m.out.length uco, .int .i64 m.st] 30)) w4.heap.size #[.slice ua1 m.h.words.length uc1, .slice ua2 m.h.roots.length uc2, .int .i64 m.h.old, .int .i64 m.h.eden, .int .i64 m.h.surv, .bool m.h.flip, .int .i64 m.h.hash, .slice ua3 m.h.kept.length uc3, .slice uap m.prog.length ucp, .int .i64 m.pc, .slice uao m.out.length uco, .int .i64 m.st] 30 := Bk.new w4 _ _
  have bw5 := bel_after bw4 al
  have B5 := B4.later al
  have VQ := hq.later al
  have rw5 := fun b (h : VRow (.agg #[.slice ua1 m.h.words.length uc1, .slice ua2 m.h.roots.length uc2, .int .i64 m.h.old, .int .i64 m.h.eden, .int .i64 m.h.surv, .bool m.h.flip, .int .i64 m.h.hash, .slice ua3 m.h.kept.length uc3, .slice uap m.prog.length ucp, .int .i64 m.pc, .slice uao m.out.length uco, .int .i64 m.st]) m b) => hq.row (b := b) h
  have le34 : w3.heap.size ≤ w4.heap.size := hb4.size
  have IM := implResult_any _ m _ VQ.vr sm9.out
  have y0 := D5.cell 0 (.slice ua1 m.h.words.length uc1) rfl
  have y1 := D5.cell 1 (.slice ua2 m.h.roots.length uc2) rfl
  have y2 := D5.cell 2 (.int .i64 m.h.old) rfl
  have y3 := D5.cell 3 (.int .i64 m.h.eden) rfl
  have y4 := D5.cell 4 (.int .i64 m.h.surv) rfl
  have y5 := D5.cell 5 (.bool m.h.flip) rfl
  have y6 := D5.cell 6 (.int .i64 m.h.hash) rfl
  have y7 := D5.cell 7 (.slice ua3 m.h.kept.length uc3) rfl
  have y8 := D5.cell 8 (.slice uap m.prog.length ucp) rfl
  have y9 := D5.cell 9 (.int .i64 m.pc) rfl
  have y10 := D5.cell 10 (.slice uao m.out.length uco) rfl
  have y11 := D5.cell 11 (.int .i64 m.st) rfl
  have ir5 := (ir3.later hb4).later al
  have os5 := (os3.later hb4).later al
  have sz5 : (w4.alloc (.cells #[.slice ua1 m.h.words.length uc1, .slice ua2 m.h.roots.length uc2, .int .i64 m.h.old, .int .i64 m.h.eden, .int .i64 m.h.surv, .bool m.h.flip, .int .i64 m.h.hash, .slice ua3 m.h.kept.length uc3, .slice uap m.prog.length ucp, .int .i64 m.pc, .slice uao m.out.length uco, .int .i64 m.st] 30)).heap.size = w4.heap.size + 1 := by simp
  clear hq B3 B4 ir3 os3
  go_wp2_with fail
  refine IM.mono ?_
  clear IM y0 y1 y2 y3 y4 y5 y6 y7 y8 y9 y10 y11
  rintro e w6 ⟨⟨r6, rfl, ir6, os6, lo6⟩, hb6⟩
  have bw6 := bel_after bw5 hb6
  have B6 := B5.later hb6
  have D6 := D5.later hb6
  have VQ6 := VQ.later hb6
  have ir56 := ir5.later hb6
  have os56 := os5.later hb6
  replace lo6 : ∀ b, Disk.rowOf r6 (resL m).length = some b → w4.heap.size < b := fun b h => by have := lo6 b h; omega
  have l46 : w4.heap.size < w6.heap.size := by have := hb6.size; omega
  have hi6 : ∀ b, Disk.rowOf r6 (resL m).length = some b → b < w6.heap.size := fun b h => os6.row b h
  have EQ := eqInt64S_any r6 r3 (resL m) (resL m) w6 ir6 ir56 (by omega) (by omega)
  rw [decide_eq_true rfl] at EQ
  clear B5 D5 VQ ir5 os5 sz5
  go_wp2_with fail
  refine EQ.mono ?_
  clear EQ
  rintro e w7 ⟨rfl, hb7⟩
  have bw7 := bel_after bw6 hb7
  have B7 := B6.later hb7
  have D7 := D6.later hb7
  have VQ7 := VQ6.later hb7
  have jr7 := ir6.later hb7
  have js7 := os6.later hb7
  have ir7 := ir56.later hb7
  have os7 := os56.later hb7
  have z67 := hb7.size
  clear B6 D6 VQ6 ir6 os6 ir56 os56
  go_wp2_with fail
  refine Disk.z_plain 99 (fun W' => Bk W' w.heap.size #[v1, v2, .int .i64 m.h.old, .int .i64 m.h.eden, .int .i64 m.h.surv, .bool m.h.flip, .int .i64 m.h.hash, v3, vp, .int .i64 m.pc, vo, .int .i64 m.st] 45 ∧ Bk W' w4.heap.size #[.slice ua1 m.h.words.length uc1, .slice ua2 m.h.roots.length uc2, .int .i64 m.h.old, .int .i64 m.h.eden, .int .i64 m.h.surv, .bool m.h.flip, .int .i64 m.h.hash, .slice ua3 m.h.kept.length uc3, .slice uap m.prog.length ucp, .int .i64 m.pc, .slice uao m.out.length uco, .int .i64 m.st] 30) (by kernel_rfl) ⟨B7.drew, D7.drew⟩ fun hz => ?_
  refine Disk.z_take 0 41 (v := .agg #[.slice ua1 m.h.words.length uc1, .slice ua2 m.h.roots.length uc2, .int .i64 m.h.old, .int .i64 m.h.eden, .int .i64 m.h.surv, .bool m.h.flip, .int .i64 m.h.hash, .slice ua3 m.h.kept.length uc3, .slice uap m.prog.length ucp, .int .i64 m.pc, .slice uao m.out.length uco, .int .i64 m.st]) rfl rfl (by kernel_rfl) (by kernel_rfl) (by kernel_rfl) (by kernel_rfl) (by rfl) hz (fun W' hSw => (by
    have z0 := hSw.2.cell 0 (.slice ua1 m.h.words.length uc1) rfl
    have z1 := hSw.2.cell 1 (.slice ua2 m.h.roots.length uc2) rfl
    have z2 := hSw.2.cell 2 (.int .i64 m.h.old) rfl
    have z3 := hSw.2.cell 3 (.int .i64 m.h.eden) rfl
    have z4 := hSw.2.cell 4 (.int .i64 m.h.surv) rfl
    have z5 := hSw.2.cell 5 (.bool m.h.flip) rfl
    have z6 := hSw.2.cell 6 (.int .i64 m.h.hash) rfl
    have z7 := hSw.2.cell 7 (.slice ua3 m.h.kept.length uc3) rfl
    have z8 := hSw.2.cell 8 (.slice uap m.prog.length ucp) rfl
    have z9 := hSw.2.cell 9 (.int .i64 m.pc) rfl
    have z10 := hSw.2.cell 10 (.slice uao m.out.length uco) rfl
    have z11 := hSw.2.cell 11 (.int .i64 m.st) rfl
    go_simp; first | done | with_reducible rfl)) ?_
  simp only [List.setIfInBounds_toArray, List.set_cons_zero, List.set_cons_succ]
  refine Disk.z_take 1 42 (v := .agg #[v1, v2, .int .i64 m.h.old, .int .i64 m.h.eden, .int .i64 m.h.surv, .bool m.h.flip, .int .i64 m.h.hash, v3, vp, .int .i64 m.pc, vo, .int .i64 m.st]) rfl rfl (by kernel_rfl) (by kernel_rfl) (by kernel_rfl) (by kernel_rfl) (by rfl) hz (fun W' hSw => (by
    have z0 := hSw.1.cell 0 (v1) rfl
    have z1 := hSw.1.cell 1 (v2) rfl
    have z2 := hSw.1.cell 2 (.int .i64 m.h.old) rfl
    have z3 := hSw.1.cell 3 (.int .i64 m.h.eden) rfl
    have z4 := hSw.1.cell 4 (.int .i64 m.h.surv) rfl
    have z5 := hSw.1.cell 5 (.bool m.h.flip) rfl
    have z6 := hSw.1.cell 6 (.int .i64 m.h.hash) rfl
    have z7 := hSw.1.cell 7 (v3) rfl
    have z8 := hSw.1.cell 8 (vp) rfl
    have z9 := hSw.1.cell 9 (.int .i64 m.pc) rfl
    have z10 := hSw.1.cell 10 (vo) rfl
    have z11 := hSw.1.cell 11 (.int .i64 m.st) rfl
    go_simp; first | done | with_reducible rfl)) ?_
  simp only [List.setIfInBounds_toArray, List.set_cons_zero, List.set_cons_succ]
  refine Disk.z_call 2 43 rfl rfl (by kernel_rfl) (by rfl) (f := 23) (args := #[.agg #[v1, v2, .int .i64 m.h.old, .int .i64 m.h.eden, .int .i64 m.h.surv, .bool m.h.flip, .int .i64 m.h.hash, v3, vp, .int .i64 m.pc, vo, .int .i64 m.st]]) (w0 := w7.drew) (by go_simp; first | done | with_reducible rfl) ?_
  refine (TV _ (bel_after bw7 (Below.refl _ _).drew)).mono ?_
  rintro e w8 ⟨⟨s, rfl, hsv⟩, hb8⟩
  have b78 : Below w7.heap.size w7 w8 := bel_after (Below.refl _ _).drew hb8
  refine ⟨_, rfl, .inr ⟨B7.later b78, D7.later b78⟩, ?_⟩
  simp only [List.setIfInBounds_toArray, List.set_cons_zero, List.set_cons_succ]
  refine Disk.z_call 3 44 rfl rfl (by kernel_rfl) (by rfl) (f := 16) (args := #[.agg #[.slice ua1 m.h.words.length uc1, .slice ua2 m.h.roots.length uc2, .int .i64 m.h.old, .int .i64 m.h.eden, .int .i64 m.h.surv, .bool m.h.flip, .int .i64 m.h.hash, .slice ua3 m.h.kept.length uc3, .slice uap m.prog.length ucp, .int .i64 m.pc, .slice uao m.out.length uco, .int .i64 m.st], s]) (w0 := w8) (by go_simp; first | done | with_reducible rfl) ?_
  refine (eqVm_any _ _ m w8 (VQ7.later b78).vr hsv.vr sm9.out).mono ?_
  rintro e w9 ⟨rfl, hb9⟩
  have b79 : Below w7.heap.size w7 w9 := bel_after b78 hb9
  have hz9 : Bk w9 w.heap.size #[v1, v2, .int .i64 m.h.old, .int .i64 m.h.eden, .int .i64 m.h.surv, .bool m.h.flip, .int .i64 m.h.hash, v3, vp, .int .i64 m.pc, vo, .int .i64 m.st] 45 ∧ Bk w9 w4.heap.size #[.slice ua1 m.h.words.length uc1, .slice ua2 m.h.roots.length uc2, .int .i64 m.h.old, .int .i64 m.h.eden, .int .i64 m.h.surv, .bool m.h.flip, .int .i64 m.h.hash, .slice ua3 m.h.kept.length uc3, .slice uap m.prog.length ucp, .int .i64 m.pc, .slice uao m.out.length uco, .int .i64 m.st] 30 := ⟨B7.later b79, D7.later b79⟩
  refine ⟨_, rfl, .inr hz9, ?_⟩
  simp only [List.setIfInBounds_toArray, List.set_cons_zero, List.set_cons_succ]
  refine Disk.z_take 4 45 (v := .bool false) rfl rfl (by kernel_rfl) (by kernel_rfl) (by kernel_rfl) (by kernel_rfl) (by rfl) hz9 (fun W' hSw => (by
    clear hSw
    go_simp; first | done | with_reducible rfl)) ?_
  simp only [List.setIfInBounds_toArray, List.set_cons_zero, List.set_cons_succ]
  refine Disk.z_done (by kernel_rfl) ?_ _
  have bw9 := bel_after bw7 b79
  obtain ⟨B9, D9⟩ := hz9
  have VQ9 := VQ7.later b79
  have jr9 := jr7.later b79
  have js9 := js7.later b79
  have ir9 := ir7.later b79
  have os9 := os7.later b79
  have z79 := b79.size
  have MV := markVm_any _ _ m w9 VQ9 sm9.out
  have kp : 0 < kTot m := by unfold kTot; omega
  have y0 := D9.cell 0 (.slice ua1 m.h.words.length uc1) rfl
  have y1 := D9.cell 1 (.slice ua2 m.h.roots.length uc2) rfl
  have y2 := D9.cell 2 (.int .i64 m.h.old) rfl
  have y3 := D9.cell 3 (.int .i64 m.h.eden) rfl
  have y4 := D9.cell 4 (.int .i64 m.h.surv) rfl
  have y5 := D9.cell 5 (.bool m.h.flip) rfl
  have y6 := D9.cell 6 (.int .i64 m.h.hash) rfl
  have y7 := D9.cell 7 (.slice ua3 m.h.kept.length uc3) rfl
  have y8 := D9.cell 8 (.slice uap m.prog.length ucp) rfl
  have y9 := D9.cell 9 (.int .i64 m.pc) rfl
  have y10 := D9.cell 10 (.slice uao m.out.length uco) rfl
  have y11 := D9.cell 11 (.int .i64 m.st) rfl
  clear hz B7 D7 VQ7 hsv jr7 js7 ir7 os7 b78 hb8 hb9 b79
  go_wp2_with fail
  refine MV.mono ?_
  clear MV y0 y1 y2 y3 y4 y5 y6 y7 y8 y9 y10 y11
  rintro e w10 ⟨rfl, O10, -⟩
  have z10 := O10.size
  have hk10 : ∀ b, b < w9.heap.size → (b < w3.heap.size ∨ w4.heap.size ≤ b) → w10.heap[b]? = w9.heap[b]? := fun b h1 h2 => O10.block b h1 (fun e => by have := rw5 b e; omega)
  have l34 := bw3.size
  have ltw : w.heap.size < w3.heap.size := by have := hb0.size; have := hb1.size; have := hb2.size; have := hb3.size; simp at *; omega
  have B10 : Bk w10 w.heap.size #[v1, v2, .int .i64 m.h.old, .int .i64 m.h.eden, .int .i64 m.h.surv, .bool m.h.flip, .int .i64 m.h.hash, v3, vp, .int .i64 m.pc, vo, .int .i64 m.st] 45 := (hk10 _ B9.lt (.inl ltw)).trans B9
  have bw10 : Below w.heap.size w w10 := bw9.trans (O10.below bw9.size (fun b e => by have := rw5 b e; omega))
  have jr10 := jr9.keepR (w' := w10) (B := w4.heap.size) (S := w9.heap.size) (fun b h1 h2 => hk10 b h2 (.inr h1)) (fun b h => ⟨by have := lo6 b h; omega, by have := hi6 b h; omega⟩)
  have js10 := OS.keepC js9 (w' := w10) (B := w4.heap.size) (S := w9.heap.size) (fun b h1 h2 => hk10 b h2 (.inr h1)) (fun b h => ⟨by have := lo6 b h; omega, by have := hi6 b h; omega⟩)
  have ir10 := ir9.keepR (w' := w10) (B := 0) (S := w3.heap.size) (fun b h1 h2 => hk10 b (by omega) (.inl h2)) (fun b h => ⟨Nat.zero_le _, lo3 b h⟩)
  have EQ := eqInt64S_any r6 r3 (resL m) (resL m) w10 jr10 ir10 (by omega) (by omega)
  rw [decide_eq_true rfl] at EQ
  generalize kTot m = kt at *
  have kd : decide (kt < 0) = false := decide_eq_false (by omega)
  clear B9 D9 VQ9 jr9 js9 ir9 os9 O10 hk10
  go_wp2_with fail
  refine EQ.mono ?_
  clear EQ
  rintro e w11 ⟨rfl, hb11⟩
  have bw11 := bel_after bw10 hb11
  have B11 := B10.later hb11
  have js11 := js10.later hb11
  have jrs := IRs jr10
  have ir11 := ir10.later hb11
  have z11 := hb11.size
  have MI := markInt64S_any r6 (resL m).length 1 w11 js11 (by obtain ⟨a, c, e, f⟩ := jrs; exact ⟨a, c, e, f⟩) (by omega) (by omega)
  clear B10 js10 jr10 ir10
  go_wp2_with fail
  refine MI.mono ?_
  clear MI
  rintro e w12 ⟨rfl, g12, mk12⟩
  have nr : ∀ b, b ≤ w4.heap.size → some b ≠ Disk.rowOf r6 (resL m).length := fun b h e => by have := lo6 b e.symm; omega
  have B12 := B11.off g12 (nr _ (by omega))
  have ir12 : IR w12 r3 (resL m) := ir11.keepR (B := 0) (S := w3.heap.size) (fun b h1 h2 => g12.block b (by omega) (nr b (by omega))) (fun b h => ⟨Nat.zero_le _, lo3 b h⟩)
  have bw12 : Below w.heap.size w w12 := Below.grown bw11 g12 bw11.size (fun k hk => by have := lo6 k hk; omega)
  have HI := heldInt64S_any r6 (resL m).length 1 w12 mk12 (by omega) (by omega)
  have mm : ((1 + ((resL m).length : Int)) != (1 + ((resL m).length : Int))) = false := by simp
  have md : decide ((1 + ((resL m).length : Int)) < 0) = false := decide_eq_false (by omega)
  clear B11 ir11 js11
  go_wp2_with fail
  refine HI.mono ?_
  clear HI
  rintro e w13 ⟨rfl, hb13⟩
  have bw13 := bel_after bw12 hb13
  have B13 := B12.later hb13
  have mk13 := mk12.later hb13
  have ir13 := ir12.later hb13
  have x0 := B13.cell 0 (v1) rfl
  have x1 := B13.cell 1 (v2) rfl
  have x2 := B13.cell 2 (.int .i64 m.h.old) rfl
  have x3 := B13.cell 3 (.int .i64 m.h.eden) rfl
  have x4 := B13.cell 4 (.int .i64 m.h.surv) rfl
  have x5 := B13.cell 5 (.bool m.h.flip) rfl
  have x6 := B13.cell 6 (.int .i64 m.h.hash) rfl
  have x7 := B13.cell 7 (v3) rfl
  have x8 := B13.cell 8 (vp) rfl
  have x9 := B13.cell 9 (.int .i64 m.pc) rfl
  have x10 := B13.cell 10 (vo) rfl
  have x11 := B13.cell 11 (.int .i64 m.st) rfl
  clear B12 mk12 ir12
  go_wp2_with fail
  refine (TV _ bw13).mono ?_
  clear x0 x1 x2 x3 x4 x5 x6 x7 x8 x9 x10 x11
  rintro e w14 ⟨⟨s14, rfl, hs14⟩, hb14⟩
  have bw14 := bel_after bw13 hb14
  have mk14 := mk13.later hb14
  have ir14 := ir13.later hb14
  have IM := implResult_any s14 m w14 hs14.vr sm9.out
  clear mk13 ir13 hs14 TV
  go_wp2_with fail
  refine IM.mono ?_
  clear IM
  rintro e w15 ⟨⟨r15, rfl, ir15, os15, -⟩, hb15⟩
  have bw15 := bel_after bw14 hb15
  have mk15 := mk14.later hb15
  have ir15' := ir14.later hb15
  have EQ := eqInt64S_any r15 r3 (resL m) (resL m) w15 ir15 ir15' (by omega) (by omega)
  rw [decide_eq_true rfl] at EQ
  clear mk14 ir14
  go_wp2_with fail
  refine EQ.mono ?_
  clear EQ
  rintro e w16 ⟨rfl, hb16⟩
  have bw16 := bel_after bw15 hb16
  have mk16 := mk15.later hb16
  have HI := heldInt64S_any r6 (resL m).length 1 w16 mk16 (by omega) (by omega)
  clear mk15 ir15 ir15'
  go_wp2_with fail
  refine HI.mono ?_
  clear HI
  rintro e w17 ⟨rfl, hb17⟩
  have bw17 := bel_after bw16 hb17
  clear mk16
  go_wp2
  go_ret
  exact ⟨rfl, bw17⟩

end Go.Proofs.YtgacacbncefeaaaGreat

/- A heap that came in as an argument. -/
namespace Go.Proofs.YtgacacbncefeaaaGreat
open Go.ChangeShapes Go.WideShapes Go.ChangeAt Go.RowKit Go.Joins

theorem Tryz.cells2 : Tryz.prog.cellsOf 2 = 1 := by kernel_rfl
theorem Tryz.bytes2 : Tryz.prog.bytesOf 2 = 8 := by kernel_rfl
theorem Tryz.cellsHp : Tryz.prog.cellsOf 43 = 8 := by kernel_rfl
theorem own : ownKnob Tryz.prog.godebug = none := by kernel_rfl
theorem laidOut : laidOutB Tryz.prog = true := by kernel_rfl
theorem reach_eq : reachBytes = 140737488351232 := rfl
theorem add_eq (b o i : Nat) : (⟨b, o, none⟩ : Addr).add i = ⟨b, o + i, none⟩ := by
  unfold Addr.add
  by_cases h : i = 0
  · simp [h]
  · simp [h]
theorem spotless {w : World} {a : Addr} {v : Value} (h : w.cell? (a.add 0) = some v) : ∃ b o, a = ⟨b, o, none⟩ := by
  obtain ⟨b, o, s⟩ := a
  have : s = none := by simpa [Addr.add] using World.cell?_spot h
  exact ⟨b, o, by rw [this]⟩
theorem array8 {α : Type} {cs : Array α} (h : cs.size = 8) : ∃ c0 c1 c2 c3 c4 c5 c6 c7, cs = #[c0, c1, c2, c3, c4, c5, c6, c7] := by
  obtain ⟨l⟩ := cs
  match l, h with
  | [c0, c1, c2, c3, c4, c5, c6, c7], _ => exact ⟨c0, c1, c2, c3, c4, c5, c6, c7, rfl⟩
theorem list8 {α : Type} {cs : List α} (h : cs.length = 8) : ∃ c0 c1 c2 c3 c4 c5 c6 c7, cs = [c0, c1, c2, c3, c4, c5, c6, c7] := by
  match cs, h with
  | [c0, c1, c2, c3, c4, c5, c6, c7], _ => exact ⟨c0, c1, c2, c3, c4, c5, c6, c7, rfl⟩

theorem open_nums {H : Type} {enc : TypeId × Value → H} {W : World} {n : Nat} {c : Value} {y : DataW H × List MemPlace} (h : DataW.trod enc Tryz.prog W 0 (fun _ => true) true n 26 [c] = some y)
    (hw : ∀ x, x ∈ DataW.weights Tryz.prog 26 y.1 → x ≤ 140737488351232) : ∃ l, IR W c l ∧ l.length ≤ 100000000000000 := by
  rcases open_ints Tryz.underlying26 Tryz.underlying2 Tryz.cells2 h with ⟨hcs, hx⟩ | ⟨a, len, cap, zs, hcs, _, hl, hm, hz, hx, hcell, hwz⟩
  · obtain rfl : c = .slice none 0 0 := by simpa using hcs
    exact ⟨[], ⟨none, 0, rfl, Nat.le_refl _, fun i hi => by simp at hi⟩, by simp⟩
  · obtain rfl : c = .slice (some a) len cap := by simpa using hcs
    simp only [if_true] at hz
    have e : (zs.take len).length = len := by rw [List.length_take]; omega
    have hlen : len ≤ 100000000000000 := by
      have := hw (((lits .i64 (zs.take len) : List (DataW H)).length + (lits .i64 (zs.drop len) : List (DataW H)).length) * Tryz.prog.bytesOf 2) (by
        rw [hx]
        simp [DataW.weights, Tryz.underlying26])
      rw [Tryz.bytes2] at this
      have q : (lits .i64 (zs.take len) : List (DataW H)).length = len := by simpa [lits] using e
      rw [q] at this
      omega
    refine ⟨zs.take len, ⟨some a, cap, by rw [e], by rw [e]; exact hl, fun i hi => ?_⟩, by rw [e]; exact hlen⟩
    have hi' : i < len := by omega
    obtain ⟨b, o, rfl⟩ := spotless (hcell 0 (by omega))
    have hci := hcell i (by omega)
    rw [add_eq] at hci
    refine ⟨b, o, rfl, ?_⟩
    rw [hci]
    simp [List.getD_eq_getElem?_getD, hi']

set_option maxRecDepth 100000 in
set_option maxHeartbeats 1600000 in
theorem open_heap {H : Type} {enc : TypeId × Value → H} {W : World} {b0 : Nat} {v : Value} {d : DataW H} {p : List MemPlace} (hv : Value.okWide Tryz.prog W .any b0 43 v)
    (h : DataW.Trod enc Tryz.prog W 0 (fun _ => true) true 43 v d p) (hsz : ∀ x ∈ DataW.weights Tryz.prog 43 d, x ≤ 140737488351232) :
    ∃ (v1 v2 v3 : Value) (hp : Hp), v = .agg #[v1, v2, .int .i64 hp.old, .int .i64 hp.eden, .int .i64 hp.surv, .bool hp.flip, .int .i64 hp.hash, v3] ∧ IR W v1 hp.words ∧ IR W v2 hp.roots ∧ IR W v3 hp.kept ∧ hp.words.length ≤ 1000000000000000 ∧ hp.roots.length ≤ 1000000000000000 ∧ hp.kept.length ≤ 1000000000000000 := by
  obtain ⟨cs, rfl, hcs⟩ := okWide_struct Tryz.underlying43 hv
  obtain ⟨c0, c1, c2, c3, c4, c5, c6, c7, rfl⟩ := array8 (hcs.trans Tryz.cellsHp)
  obtain ⟨fuel, hf⟩ := h
  obtain ⟨xs, n, _, hx, hl, hlen, hfl⟩ := DataW.trod_struct Tryz.underlying43 hf
  obtain ⟨y0, y1, y2, y3, y4, y5, y6, y7, rfl⟩ := list8 hlen
  have g0 := hfl 0 _ rfl
  have g1 := hfl 1 _ rfl
  have g2 := hfl 2 _ rfl
  have g3 := hfl 3 _ rfl
  have g4 := hfl 4 _ rfl
  have g5 := hfl 5 _ rfl
  have g6 := hfl 6 _ rfl
  have g7 := hfl 7 _ rfl
  clear hfl hlen hl
  simp only [Prod.mk.injEq, List.map_cons, List.map_nil] at hx
  obtain ⟨rfl, _⟩ := hx
  have cI : Tryz.prog.cellsOf 26 = 1 := by kernel_rfl
  have c4' : Tryz.prog.cellsOf 4 = 1 := by kernel_rfl
  simp [Value.cells, cI, c4', Tryz.cells2] at g0 g1 g2 g3 g4 g5 g6 g7
  obtain ⟨z2, e2, _⟩ := DataW.trod_int Tryz.underlying2 g2
  obtain ⟨z3, e3, _⟩ := DataW.trod_int Tryz.underlying2 g3
  obtain ⟨z4, e4, _⟩ := DataW.trod_int Tryz.underlying2 g4
  obtain ⟨z5, e5, _⟩ := DataW.trod_bool Tryz.underlying4 g5
  obtain ⟨z6, e6, _⟩ := DataW.trod_int Tryz.underlying2 g6
  simp only [List.cons.injEq, and_true] at e2 e3 e4 e5 e6
  subst e2 e3 e4 e5 e6
  obtain ⟨l1, r1, b1⟩ := open_nums g0 (fun x hx => hsz x (by simp [DataW.weights, DataW.weightsEach, Tryz.underlying43, hx]))
  obtain ⟨l2, r2, b2⟩ := open_nums g1 (fun x hx => hsz x (by simp [DataW.weights, DataW.weightsEach, Tryz.underlying43, hx]))
  obtain ⟨l3, r3, b3⟩ := open_nums g7 (fun x hx => hsz x (by simp [DataW.weights, DataW.weightsEach, Tryz.underlying43, hx]))
  exact ⟨c0, c1, c7, ⟨l1, l2, z2, z3, z4, z5, z6, l3⟩, rfl, r1, r2, r3, by show l1.length ≤ _; omega, by show l2.length ≤ _; omega, by show l3.length ≤ _; omega⟩

end Go.Proofs.YtgacacbncefeaaaGreat

/- A machine that came in as an argument. -/
namespace Go.Proofs.YtgacacbncefeaaaGreat
open Go.ChangeShapes Go.WideShapes Go.ChangeAt Go.RowKit Go.Joins

theorem Tryz.kcellsVm : Tryz.prog.cellsOf 45 = 12 := by kernel_rfl
theorem Tryz.kcellsI : Tryz.prog.cellsOf 26 = 1 := by kernel_rfl
theorem Tryz.kcellsC : Tryz.prog.cellsOf 80 = 2 := by kernel_rfl
theorem Tryz.kcellsCs : Tryz.prog.cellsOf 36 = 1 := by kernel_rfl
theorem Tryz.kbytesC : Tryz.prog.bytesOf 80 = 16 := by kernel_rfl
theorem Tryz.kcells4 : Tryz.prog.cellsOf 4 = 1 := by kernel_rfl
theorem array12 {α : Type} {cs : Array α} (h : cs.size = 12) : ∃ c0 c1 c2 c3 c4 c5 c6 c7 c8 c9 c10 c11, cs = #[c0, c1, c2, c3, c4, c5, c6, c7, c8, c9, c10, c11] := by
  obtain ⟨l⟩ := cs
  match l, h with
  | [c0, c1, c2, c3, c4, c5, c6, c7, c8, c9, c10, c11], _ => exact ⟨c0, c1, c2, c3, c4, c5, c6, c7, c8, c9, c10, c11, rfl⟩
theorem list2K {α : Type} {cs : List α} (h : cs.length = 2) : ∃ c0 c1, cs = [c0, c1] := by
  match cs, h with
  | [c0, c1], _ => exact ⟨c0, c1, rfl⟩
theorem list5K {α : Type} {cs : List α} (h : cs.length = 5) : ∃ c0 c1 c2 c3 c4, cs = [c0, c1, c2, c3, c4] := by
  match cs, h with
  | [c0, c1, c2, c3, c4], _ => exact ⟨c0, c1, c2, c3, c4, rfl⟩
theorem weights_allK {H : Type} {P : Program} {e : TypeId} {x : Nat} : ∀ (ds : List (DataW H)) (d : DataW H), d ∈ ds → x ∈ DataW.weights P e d → x ∈ DataW.weightsAll P e ds
  | [], _, h, _ => by simp at h
  | c :: r, d, h, hx => by
    simp only [DataW.weightsAll, List.mem_append]
    rcases List.mem_cons.1 h with rfl | h
    · exact .inl hx
    · exact .inr (weights_allK r d h hx)

def CdAt (W : World) (a : Addr) (p : Cd) : Prop := W.cell? (a.add 0) = some (.int .i64 p.1) ∧ W.cell? (a.add 1) = some (.int .i64 p.2)
theorem open_codeK {H : Type} {enc : TypeId × Value → H} {W : World} {n : Nat} {a : Addr} {cs : List Value} {y : DataW H × List MemPlace} (hc : W.cells? 0 a 2 = some cs) (h : DataW.trod enc Tryz.prog W 0 (fun _ => true) true n 80 cs = some y) : ∃ p, CdAt W a p := by
  obtain ⟨_, hlen, hcell⟩ := World.cells?_some hc
  obtain ⟨xs, k, _, hx, _, hxl, hfl⟩ := DataW.trod_struct Tryz.underlying80 h
  obtain ⟨y0, y1, rfl⟩ := list2K hxl
  obtain ⟨v0, v1, rfl⟩ := list2K hlen
  have g0 := hfl 0 _ rfl
  have g1 := hfl 1 _ rfl
  clear hfl hxl
  have e0 := hcell 0 (by omega)
  have e1 := hcell 1 (by omega)
  simp [Tryz.cells2] at g0 g1 e0 e1
  obtain ⟨z0, q0, _, w0⟩ := DataW.trod_int Tryz.underlying2 g0
  obtain ⟨z1, q1, _, w1⟩ := DataW.trod_int Tryz.underlying2 g1
  simp only [List.cons.injEq, and_true] at q0 q1
  subst q0 q1
  exact ⟨(z0, z1), e0, e1⟩

set_option maxRecDepth 100000 in
set_option maxHeartbeats 1600000 in
theorem open_codes {H : Type} {enc : TypeId × Value → H} {W : World} {n : Nat} {c : Value} {y : DataW H × List MemPlace} (h : DataW.trod enc Tryz.prog W 0 (fun _ => true) true n 36 [c] = some y)
    (hw : ∀ x, x ∈ DataW.weights Tryz.prog 36 y.1 → x ≤ 140737488351232) : ∃ l, CR W c l ∧ l.length ≤ 100000000000000 := by
  rcases Deep.open_slice Tryz.underlying36 h with ⟨hcs, hx⟩ | ⟨a, len, cap, m, k, D, Pl, hcs, _, hl, hm, hmm, hx, hc⟩
  · obtain rfl : c = .slice none 0 0 := by simpa using hcs
    exact ⟨[], ⟨none, 0, rfl, Nat.le_refl _, fun i hi => by simp at hi⟩, by simp⟩
  · obtain rfl : c = .slice (some a) len cap := by simpa using hcs
    have hmc : m = cap := by simpa using hmm
    subst hmc
    rw [hx] at hw
    rw [Tryz.kcellsC] at hc
    have hlen : len ≤ 100000000000000 := by
      have := hw ((((List.range len).map D).length + ((List.range (m - len)).map fun j => D (len + j)).length) * Tryz.prog.bytesOf 80) (by
        simp [DataW.weights, Tryz.underlying36])
      rw [Tryz.kbytesC] at this
      simp at this
      omega
    have hh : ∀ i, i < len → ∃ x : Cd, CdAt W (a.add (i * 2)) x := fun i hi => by
      obtain ⟨cs, h1, h2⟩ := hc i (by omega)
      exact open_codeK h1 h2
    obtain ⟨f, hf⟩ : ∃ f : Nat → Cd, ∀ i, i < len → CdAt W (a.add (i * 2)) (f i) := ⟨fun i => if hi : i < len then Classical.choose (hh i hi) else cd0, fun i hi => by simp only [dif_pos hi]; exact Classical.choose_spec (hh i hi)⟩
    have e : ((List.range len).map f).length = len := by simp
    refine ⟨(List.range len).map f, ⟨some a, m, by rw [e], by rw [e]; exact hl, fun i hi => ?_⟩, by rw [e]; exact hlen⟩
    rw [e] at hi
    have h0 := (hf 0 (by omega)).1
    rw [Nat.zero_mul] at h0
    obtain ⟨b, o, rfl⟩ := spotless (a := a) (by simpa [Addr.add] using h0)
    obtain ⟨c0, c1⟩ := hf i hi
    rw [add_eq, add_eq] at c0 c1
    have eg : ((List.range len).map f).getD i cd0 = f i := by simp [hi]
    exact ⟨b, o, rfl, by rw [eg]; simpa using c0, by rw [eg]; exact c1⟩

set_option maxRecDepth 100000 in
set_option maxHeartbeats 1600000 in
theorem open_heapK {H : Type} {enc : TypeId × Value → H} {W : World} {n : Nat} {c0 c1 c2 c3 c4 c5 c6 c7 : Value} {y : DataW H × List MemPlace} (h : DataW.trod enc Tryz.prog W 0 (fun _ => true) true n 43 [c0, c1, c2, c3, c4, c5, c6, c7] = some y)
    (hsz : ∀ x, x ∈ DataW.weights Tryz.prog 43 y.1 → x ≤ 140737488351232) :
    ∃ hp : Hp, (c2 = .int .i64 hp.old ∧ c3 = .int .i64 hp.eden ∧ c4 = .int .i64 hp.surv ∧ c5 = .bool hp.flip ∧ c6 = .int .i64 hp.hash) ∧ IR W c0 hp.words ∧ IR W c1 hp.roots ∧ IR W c7 hp.kept ∧ hp.words.length ≤ 1000000000000000 ∧ hp.roots.length ≤ 1000000000000000 ∧ hp.kept.length ≤ 1000000000000000 := by
  obtain ⟨xs, k, _, hx, hl, hlen, hfl⟩ := DataW.trod_struct Tryz.underlying43 h
  obtain ⟨y0, y1, y2, y3, y4, y5, y6, y7, rfl⟩ := list8 hlen
  have g0 := hfl 0 _ rfl
  have g1 := hfl 1 _ rfl
  have g2 := hfl 2 _ rfl
  have g3 := hfl 3 _ rfl
  have g4 := hfl 4 _ rfl
  have g5 := hfl 5 _ rfl
  have g6 := hfl 6 _ rfl
  have g7 := hfl 7 _ rfl
  clear hfl hlen hl
  obtain ⟨yd, yp⟩ := y
  simp only [Prod.mk.injEq, List.map_cons, List.map_nil] at hx
  obtain ⟨rfl, _⟩ := hx
  simp [Tryz.kcellsI, Tryz.kcells4, Tryz.cells2] at g0 g1 g2 g3 g4 g5 g6 g7
  obtain ⟨z2, e2, _⟩ := DataW.trod_int Tryz.underlying2 g2
  obtain ⟨z3, e3, _⟩ := DataW.trod_int Tryz.underlying2 g3
  obtain ⟨z4, e4, _⟩ := DataW.trod_int Tryz.underlying2 g4
  obtain ⟨z5, e5, _⟩ := DataW.trod_bool Tryz.underlying4 g5
  obtain ⟨z6, e6, _⟩ := DataW.trod_int Tryz.underlying2 g6
  simp only [List.cons.injEq, and_true] at e2 e3 e4 e5 e6
  subst e2 e3 e4 e5 e6
  obtain ⟨l1, r1, b1⟩ := open_nums g0 (fun x hx => hsz x (by simp [DataW.weights, DataW.weightsEach, Tryz.underlying43, hx]))
  obtain ⟨l2, r2, b2⟩ := open_nums g1 (fun x hx => hsz x (by simp [DataW.weights, DataW.weightsEach, Tryz.underlying43, hx]))
  obtain ⟨l3, r3, b3⟩ := open_nums g7 (fun x hx => hsz x (by simp [DataW.weights, DataW.weightsEach, Tryz.underlying43, hx]))
  exact ⟨⟨l1, l2, z2, z3, z4, z5, z6, l3⟩, ⟨rfl, rfl, rfl, rfl, rfl⟩, r1, r2, r3, by show l1.length ≤ _; omega, by show l2.length ≤ _; omega, by show l3.length ≤ _; omega⟩

set_option maxRecDepth 100000 in
set_option maxHeartbeats 1600000 in
theorem open_vm {H : Type} {enc : TypeId × Value → H} {W : World} {b0 : Nat} {v : Value} {d : DataW H} {p : List MemPlace} (hv : Value.okWide Tryz.prog W .any b0 45 v)
    (h : DataW.Trod enc Tryz.prog W 0 (fun _ => true) true 45 v d p) (hsz : ∀ x ∈ DataW.weights Tryz.prog 45 d, x ≤ 140737488351232) :
    ∃ (v1 v2 v3 vp vo : Value) (m : Mp), v = .agg #[v1, v2, .int .i64 m.h.old, .int .i64 m.h.eden, .int .i64 m.h.surv, .bool m.h.flip, .int .i64 m.h.hash, v3, vp, .int .i64 m.pc, vo, .int .i64 m.st] ∧ IR W v1 m.h.words ∧ IR W v2 m.h.roots ∧ IR W v3 m.h.kept ∧ CR W vp m.prog ∧ IR W vo m.out ∧ smM m 1000000000000000 := by
  obtain ⟨cs, rfl, hcs⟩ := okWide_struct Tryz.underlying45 hv
  obtain ⟨c0, c1, c2, c3, c4, c5, c6, c7, c8, c9, c10, c11, rfl⟩ := array12 (hcs.trans Tryz.kcellsVm)
  obtain ⟨fuel, hf⟩ := h
  obtain ⟨xs, n, _, hx, hl, hlen, hfl⟩ := DataW.trod_struct Tryz.underlying45 hf
  obtain ⟨y0, y1, y2, y3, y4, rfl⟩ := list5K hlen
  have g0 := hfl 0 _ rfl
  have g1 := hfl 1 _ rfl
  have g2 := hfl 2 _ rfl
  have g3 := hfl 3 _ rfl
  have g4 := hfl 4 _ rfl
  clear hfl hlen hl
  simp only [Prod.mk.injEq, List.map_cons, List.map_nil] at hx
  obtain ⟨rfl, _⟩ := hx
  simp [Value.cells, Tryz.kcellsI, Tryz.kcellsCs, Tryz.cells2, Tryz.cellsHp] at g0 g1 g2 g3 g4
  obtain ⟨z2, e2, _⟩ := DataW.trod_int Tryz.underlying2 g2
  obtain ⟨z4, e4, _⟩ := DataW.trod_int Tryz.underlying2 g4
  simp only [List.cons.injEq, and_true] at e2 e4
  subst e2 e4
  obtain ⟨hp, ⟨rfl, rfl, rfl, rfl, rfl⟩, r1, r2, r3, b1, b2, b3⟩ := open_heapK g0 (fun x hx => hsz x (by simp [DataW.weights, DataW.weightsEach, Tryz.underlying45, hx]))
  obtain ⟨lp, rp, bp⟩ := open_codes g1 (fun x hx => hsz x (by simp [DataW.weights, DataW.weightsEach, Tryz.underlying45, hx]))
  obtain ⟨lo, ro, bo⟩ := open_nums g3 (fun x hx => hsz x (by simp [DataW.weights, DataW.weightsEach, Tryz.underlying45, hx]))
  exact ⟨c0, c1, c7, c8, c10, ⟨hp, lp, z2, lo, z4⟩, rfl, r1, r2, r3, rp, ro, b1, b2, b3, by show lp.length ≤ _; omega, by show lo.length ≤ _; omega⟩

end Go.Proofs.YtgacacbncefeaaaGreat
