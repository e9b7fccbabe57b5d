import Derived.Test.YtgacacbncefeaaaGreatZW6
import Derived.Test.YtgacacbncefeaaaGreatZHLawM
import Derived.Test.YtgacacbncefeaaaGreatZW7
import Derived.Test.YtgacacbncefeaaaGreatZHSpecP
import Derived.ChangeSlices
import Derived.ProofKit
import Derived.OpenShut
import Derived.SizedLaws
import Derived.Lib.SmallJoins
import Derived.Deep.Slices
/- markVm and heldVm of the laws. -/
namespace Go.Proofs.YtgacacbncefeaaaGreat
open Go.RowKit

/-- w' is w with new blocks, and with writes to blocks of R alone. -/
structure Only (w w' : World) (R : Nat → Prop) : Prop where
  os : w'.os = w.os
  tape : w'.tape = w.tape
  output : w'.output = w.output
  size : w.heap.size ≤ w'.heap.size
  block : ∀ k, k < w.heap.size → ¬ R k → w'.heap[k]? = w.heap[k]?
theorem Only.of_below {w w' : World} {R : Nat → Prop} (h : Below w.heap.size w w') : Only w w' R := ⟨h.os, h.tape, h.output, h.size, fun k hk _ => h.block k hk⟩
theorem Only.of_grown {w w' : World} {R : Nat → Prop} {r : Option Nat} (h : w.grownBy w' r) (hr : ∀ k, r = some k → R k) : Only w w' R := ⟨h.os, h.tape, h.output, h.size, fun k hk n => h.block k hk (fun e => n (hr k e.symm))⟩
theorem Only.of_thr {w w' : World} {R : Nat → Prop} {r1 r2 r3 : Option Nat} (h : Thr w w' r1 r2 r3) (h1 : ∀ k, r1 = some k → R k) (h2 : ∀ k, r2 = some k → R k) (h3 : ∀ k, r3 = some k → R k) : Only w w' R :=
  ⟨h.os, h.tape, h.output, h.size, fun k hk n => h.block k hk (fun e => n (h1 k e.symm)) (fun e => n (h2 k e.symm)) (fun e => n (h3 k e.symm))⟩
theorem Only.trans {a b c : World} {R : Nat → Prop} (h : Only a b R) (k : Only b c R) : Only a c R :=
  ⟨k.os.trans h.os, k.tape.trans h.tape, k.output.trans h.output, Nat.le_trans h.size k.size, fun i hi n => (k.block i (Nat.lt_of_lt_of_le hi h.size) n).trans (h.block i hi n)⟩
theorem Only.below {w w' : World} {R : Nat → Prop} {B : Nat} (h : Only w w' R) (hB : B ≤ w.heap.size) (hr : ∀ k, R k → B ≤ k) : Below B w w' :=
  ⟨h.os, h.tape, h.output, h.size, fun k hk => h.block k (by omega) (fun e => by have := hr k e; omega)⟩

def VRow (v : Value) (m : Mp) (b : Nat) : Prop := ∃ v1 v2 v3 vp vo, v = .agg #[v1, v2, .int .i64 m.h.old, .int .i64 m.h.eden, .int .i64 m.h.surv, .bool m.h.flip, .int .i64 m.h.hash, v3, vp, .int .i64 m.pc, vo, .int .i64 m.st] ∧ (Disk.rowOf v1 m.h.words.length = some b ∨ Disk.rowOf v2 m.h.roots.length = some b ∨ Disk.rowOf v3 m.h.kept.length = some b ∨ Disk.rowOf vp m.prog.length = some b ∨ Disk.rowOf vo m.out.length = some b)
theorem VN.row {B b : Nat} {w : World} {v : Value} {m : Mp} (k : VN B w v m) (h : VRow v m b) : B ≤ b ∧ b < w.heap.size := by
  obtain ⟨v1, v2, v3, vp, vo, rfl, hh, ⟨_, op⟩, ⟨_, oo⟩, r1, r2⟩ := k.ex
  obtain ⟨u1, u2, u3, up, uo, e, h⟩ := h
  injection e with e
  simp only [Array.mk.injEq, List.cons.injEq, and_true, true_and] at e
  obtain ⟨rfl, rfl, rfl, rfl, rfl⟩ := e
  obtain ⟨⟨o1, o2, o3⟩, _, ⟨b1, b2, b3⟩, _⟩ := hh.irs
  rcases h with h | h | h | h | h
  · exact ⟨b1 b h, o1.row b h⟩
  · exact ⟨b2 b h, o2.row b h⟩
  · exact ⟨b3 b h, o3.row b h⟩
  · exact ⟨(r1 b h).1, op.row b h⟩
  · exact ⟨(r2 b h).1, oo.row b h⟩
/-- Its rows hold their marks. -/
def MK (w : World) (v : Value) (m : Mp) : Prop := ∃ v1 v2 v3 vp vo, v = .agg #[v1, v2, .int .i64 m.h.old, .int .i64 m.h.eden, .int .i64 m.h.surv, .bool m.h.flip, .int .i64 m.h.hash, v3, vp, .int .i64 m.pc, vo, .int .i64 m.st] ∧ IR w v1 (imarks 1 m.h.words.length) ∧ IR w v2 (imarks (1 + (m.h.words.length : Int)) m.h.roots.length) ∧ IR w v3 (imarks (1 + (m.h.words.length : Int) + m.h.roots.length) m.h.kept.length) ∧ CR w vp (cmarks (1 + (m.h.words.length : Int) + m.h.roots.length + m.h.kept.length) m.prog.length) ∧ IR w vo (imarks (1 + (m.h.words.length : Int) + m.h.roots.length + m.h.kept.length + 2 * m.prog.length) m.out.length)
theorem MK.later {w w' : World} {v : Value} {m : Mp} (h : MK w v m) (hb : Below w.heap.size w w') : MK w' v m := by
  obtain ⟨v1, v2, v3, vp, vo, e, a, b, c, d, f⟩ := h
  exact ⟨v1, v2, v3, vp, vo, e, a.later hb, b.later hb, c.later hb, d.later hb, f.later hb⟩

def kTot (m : Mp) : Int := (1 + (m.h.words.length : Int) + m.h.roots.length + m.h.kept.length + 2 * m.prog.length + m.out.length)
theorem OS.keepT {w w' : World} {t s n : Nat} {v : Value} {r1 r2 r3 : Option Nat} (h : Disk.OS w t s v n) (T : Thr w w' r1 r2 r3) (hr : ∀ b, Disk.rowOf v n = some b → some b ≠ r1 ∧ some b ≠ r2 ∧ some b ≠ r3) : Disk.OS w' t s v n := by
  obtain ⟨ao, cap, rfl, h⟩ := h
  refine ⟨ao, cap, rfl, ?_⟩
  by_cases h0 : n = 0
  · exact .inl h0
  · obtain ⟨b, N, f, rfl, hN, hrow⟩ := h.resolve_left h0
    have q := hr b (by unfold Disk.rowOf; rw [if_neg h0]; rfl)
    exact .inr ⟨b, N, f, rfl, hN, hrow.of_block (T.block b hrow.lt q.1 q.2.1 q.2.2)⟩
theorem apartC {w : World} {t s n mm : Nat} {v u : Value} (d : ∀ b, Disk.rowOf v n = some b → Disk.rowOf u mm ≠ some b) (hv : Disk.OS w t s v n) : n = 0 ∨ v.ownBlock ≠ Disk.rowOf u mm := apart' d hv
theorem inil {k : Int} {n mm : Nat} {v u : Value} (h : n = 0 ∨ v.ownBlock ≠ Disk.rowOf u mm) : imarks k n = [] ∨ v.ownBlock ≠ Disk.rowOf u mm := marks_nil h
theorem cnil {k : Int} {n mm : Nat} {v u : Value} (h : n = 0 ∨ v.ownBlock ≠ Disk.rowOf u mm) : cmarks k n = [] ∨ v.ownBlock ≠ Disk.rowOf u mm := h.elim (fun e => .inl (by rw [e]; rfl)) .inr

set_option maxRecDepth 100000 in
set_option maxHeartbeats 1600000 in
theorem markVm_any (B : Nat) (v : Value) (m : Mp) (w : World) (k : VN B w v m) (hs : smM m 1000000000) :
    Calls Tryz.prog 19 #[v, .int .i64 1] w fun e w' => e = .returned (.int .i64 (kTot m)) ∧ Only w w' (VRow v m) ∧ MK w' v m := by
  have kr := fun b h => k.row (b := b) h
  obtain ⟨v1, v2, v3, vp, vo, rfl, hh, ⟨rp, op⟩, ⟨ro, oo⟩, d1, d2⟩ := k.ex
  obtain ⟨⟨o1, o2, o3⟩, ⟨i1, i2, i3⟩, _, d12, d13, d23⟩ := hh.irs
  obtain ⟨s1, s2, s3, s4, s5⟩ := hs
  have hb0 := bel_one w (.cells #[v1, v2, .int .i64 m.h.old, .int .i64 m.h.eden, .int .i64 m.h.surv, .bool m.h.flip, .int .i64 m.h.hash, v3, vp, .int .i64 m.pc, vo, .int .i64 m.st] 30)
  have B0 : Bk (w.alloc (.cells #[v1, v2, .int .i64 m.h.old, .int .i64 m.h.eden, .int .i64 m.h.surv, .bool m.h.flip, .int .i64 m.h.hash, v3, vp, .int .i64 m.pc, vo, .int .i64 m.st] 30)) w.heap.size #[v1, v2, .int .i64 m.h.old, .int .i64 m.h.eden, .int .i64 m.h.surv, .bool m.h.flip, .int .i64 m.h.hash, v3, vp, .int .i64 m.pc, vo, .int .i64 m.st] 30 := Bk.new w _ _
  have x0 := B0.cell 0 (v1) rfl
  have x1 := B0.cell 1 (v2) rfl
  have x2 := B0.cell 2 (.int .i64 m.h.old) rfl
  have x3 := B0.cell 3 (.int .i64 m.h.eden) rfl
  have x4 := B0.cell 4 (.int .i64 m.h.surv) rfl
  have x5 := B0.cell 5 (.bool m.h.flip) rfl
  have x6 := B0.cell 6 (.int .i64 m.h.hash) rfl
  have x7 := B0.cell 7 (v3) rfl
  have x8 := B0.cell 8 (vp) rfl
  have x9 := B0.cell 9 (.int .i64 m.pc) rfl
  have x10 := B0.cell 10 (vo) rfl
  have x11 := B0.cell 11 (.int .i64 m.st) rfl
  have nb : ∀ b, VRow (.agg #[v1, v2, .int .i64 m.h.old, .int .i64 m.h.eden, .int .i64 m.h.surv, .bool m.h.flip, .int .i64 m.h.hash, v3, vp, .int .i64 m.pc, vo, .int .i64 m.st]) m b → b ≠ w.heap.size := fun b h e => by have := (kr b h).2; omega
  have n1 : some w.heap.size ≠ Disk.rowOf v1 m.h.words.length := fun e => nb _ ⟨_, _, _, _, _, rfl, .inl e.symm⟩ rfl
  have n2 : some w.heap.size ≠ Disk.rowOf v2 m.h.roots.length := fun e => nb _ ⟨_, _, _, _, _, rfl, .inr (.inl e.symm)⟩ rfl
  have n3 : some w.heap.size ≠ Disk.rowOf v3 m.h.kept.length := fun e => nb _ ⟨_, _, _, _, _, rfl, .inr (.inr (.inl e.symm))⟩ rfl
  have n4 : some w.heap.size ≠ Disk.rowOf vp m.prog.length := fun e => nb _ ⟨_, _, _, _, _, rfl, .inr (.inr (.inr (.inl e.symm)))⟩ rfl
  have q1 : ∀ b, Disk.rowOf v1 m.h.words.length = some b → VRow (.agg #[v1, v2, .int .i64 m.h.old, .int .i64 m.h.eden, .int .i64 m.h.surv, .bool m.h.flip, .int .i64 m.h.hash, v3, vp, .int .i64 m.pc, vo, .int .i64 m.st]) m b := fun b e => ⟨_, _, _, _, _, rfl, .inl e⟩
  have q2 : ∀ b, Disk.rowOf v2 m.h.roots.length = some b → VRow (.agg #[v1, v2, .int .i64 m.h.old, .int .i64 m.h.eden, .int .i64 m.h.surv, .bool m.h.flip, .int .i64 m.h.hash, v3, vp, .int .i64 m.pc, vo, .int .i64 m.st]) m b := fun b e => ⟨_, _, _, _, _, rfl, .inr (.inl e)⟩
  have q3 : ∀ b, Disk.rowOf v3 m.h.kept.length = some b → VRow (.agg #[v1, v2, .int .i64 m.h.old, .int .i64 m.h.eden, .int .i64 m.h.surv, .bool m.h.flip, .int .i64 m.h.hash, v3, vp, .int .i64 m.pc, vo, .int .i64 m.st]) m b := fun b e => ⟨_, _, _, _, _, rfl, .inr (.inr (.inl e))⟩
  have q4 : ∀ b, Disk.rowOf vp m.prog.length = some b → VRow (.agg #[v1, v2, .int .i64 m.h.old, .int .i64 m.h.eden, .int .i64 m.h.surv, .bool m.h.flip, .int .i64 m.h.hash, v3, vp, .int .i64 m.pc, vo, .int .i64 m.st]) m b := fun b e => ⟨_, _, _, _, _, rfl, .inr (.inr (.inr (.inl e)))⟩
  have q5 : ∀ b, Disk.rowOf vo m.out.length = some b → VRow (.agg #[v1, v2, .int .i64 m.h.old, .int .i64 m.h.eden, .int .i64 m.h.surv, .bool m.h.flip, .int .i64 m.h.hash, v3, vp, .int .i64 m.pc, vo, .int .i64 m.st]) m b := fun b e => ⟨_, _, _, _, _, rfl, .inr (.inr (.inr (.inr e)))⟩
  have MH := markHeap_any v1 v2 v3 m.h 1 _ (o1.later hb0) (o2.later hb0) (o3.later hb0) (i1.later hb0) (i2.later hb0) (i3.later hb0) d12 d13 d23 (by omega) (by omega) (by omega) (by omega) (by omega)
  have zp := CRs rp
  have zo := IRs ro
  unfold kTot
  generalize hRR : VRow (.agg #[v1, v2, .int .i64 m.h.old, .int .i64 m.h.eden, .int .i64 m.h.surv, .bool m.h.flip, .int .i64 m.h.hash, v3, vp, .int .i64 m.pc, vo, .int .i64 m.st]) m = RR at *
  go_enter Tryz.func19, Tryz.ntmps19
  go_wp2_with fail
  refine MH.mono ?_
  clear MH x0 x1 x2 x3 x4 x5 x6 x7 x8 x9 x10 x11 nb kr
  rintro e w1 ⟨rfl, T1, m1, m2, m3⟩
  have O1 : Only w w1 RR := (Only.of_below hb0).trans (Only.of_thr T1 q1 q2 q3)
  have B1 : Bk w1 w.heap.size #[v1, v2, .int .i64 m.h.old, .int .i64 m.h.eden, .int .i64 m.h.surv, .bool m.h.flip, .int .i64 m.h.hash, v3, vp, .int .i64 m.pc, vo, .int .i64 m.st] 30 := (T1.block _ B0.lt n1 n2 n3).trans B0
  have opx : Disk.OS w1 59 2 vp m.prog.length := by
    have p0 := op.later hb0
    exact OS.keepT p0 T1 (fun b e => ⟨fun f => (d1 b e).2.1 f.symm, fun f => (d1 b e).2.2.1 f.symm, fun f => (d1 b e).2.2.2.1 f.symm⟩)
  have oox : Disk.OS w1 2 1 vo m.out.length := by
    have p0 := oo.later hb0
    exact OS.keepT p0 T1 (fun b e => ⟨fun f => (d2 b e).2.1 f.symm, fun f => (d2 b e).2.2.1 f.symm, fun f => (d2 b e).2.2.2 f.symm⟩)
  have MC := markCodes_any vp m.prog.length (1 + (m.h.words.length : Int) + m.h.roots.length + m.h.kept.length) w1 opx (by obtain ⟨a, c, e, f⟩ := zp; exact ⟨a, c, e, f⟩) (by omega) (by omega)
  have x8 := B1.cell 8 vp rfl
  go_wp2_with fail
  refine MC.mono ?_
  clear MC x8
  rintro e w2 ⟨rfl, g2, m4⟩
  have O2 : Only w w2 RR := O1.trans (Only.of_grown g2 q4)
  have B2 := B1.off g2 n4
  have x10 := B2.cell 10 vo rfl
  have ooy := oox.grown g2 (apartC (fun b e f => (d1 b f).2.2.2.2 e) oo)
  have p1 := m1.grown g2 (inil (apartC (fun b e f => (d1 b f).2.1 e) o1))
  have p2 := m2.grown g2 (inil (apartC (fun b e f => (d1 b f).2.2.1 e) o2))
  have p3 := m3.grown g2 (inil (apartC (fun b e f => (d1 b f).2.2.2.1 e) o3))
  have MI := markInt64S_any vo m.out.length (1 + (m.h.words.length : Int) + m.h.roots.length + m.h.kept.length + 2 * m.prog.length) w2 ooy (by obtain ⟨a, c, e, f⟩ := zo; exact ⟨a, c, e, f⟩) (by omega) (by omega)
  clear B0 B1 m1 m2 m3 opx oox
  go_wp2_with fail
  refine MI.mono ?_
  clear MI x10
  rintro e w3 ⟨rfl, g3, m5⟩
  have O3 : Only w w3 RR := O2.trans (Only.of_grown g3 q5)
  have r1 := p1.grown g3 (inil (apartC (fun b e f => (d2 b f).2.1 e) o1))
  have r2 := p2.grown g3 (inil (apartC (fun b e f => (d2 b f).2.2.1 e) o2))
  have r3 := p3.grown g3 (inil (apartC (fun b e f => (d2 b f).2.2.2 e) o3))
  have r4 := m4.grown g3 (cnil (apartC (fun b e f => (d1 b e).2.2.2.2 f) op))
  go_wp2
  go_ret
  exact ⟨rfl, O3, ⟨_, _, _, _, _, rfl, r1, r2, r3, r4, m5⟩⟩

set_option maxRecDepth 100000 in
set_option maxHeartbeats 1600000 in
theorem heldVm_any (v : Value) (m : Mp) (w : World) (k : MK w v m) (hs : smM m 1000000000) :
    Calls Tryz.prog 20 #[v, .int .i64 1] w fun e w' => e = .returned (.int .i64 (kTot m)) ∧ Below w.heap.size w w' := by
  obtain ⟨v1, v2, v3, vp, vo, rfl, m1, m2, m3, m4, m5⟩ := k
  obtain ⟨s1, s2, s3, s4, s5⟩ := hs
  have hb0 := bel_one w (.cells #[v1, v2, .int .i64 m.h.old, .int .i64 m.h.eden, .int .i64 m.h.surv, .bool m.h.flip, .int .i64 m.h.hash, v3, vp, .int .i64 m.pc, vo, .int .i64 m.st] 30)
  have B0 : Bk (w.alloc (.cells #[v1, v2, .int .i64 m.h.old, .int .i64 m.h.eden, .int .i64 m.h.surv, .bool m.h.flip, .int .i64 m.h.hash, v3, vp, .int .i64 m.pc, vo, .int .i64 m.st] 30)) w.heap.size #[v1, v2, .int .i64 m.h.old, .int .i64 m.h.eden, .int .i64 m.h.surv, .bool m.h.flip, .int .i64 m.h.hash, v3, vp, .int .i64 m.pc, vo, .int .i64 m.st] 30 := Bk.new w _ _
  have x0 := B0.cell 0 (v1) rfl
  have x1 := B0.cell 1 (v2) rfl
  have x2 := B0.cell 2 (.int .i64 m.h.old) rfl
  have x3 := B0.cell 3 (.int .i64 m.h.eden) rfl
  have x4 := B0.cell 4 (.int .i64 m.h.surv) rfl
  have x5 := B0.cell 5 (.bool m.h.flip) rfl
  have x6 := B0.cell 6 (.int .i64 m.h.hash) rfl
  have x7 := B0.cell 7 (v3) rfl
  have x8 := B0.cell 8 (vp) rfl
  have x9 := B0.cell 9 (.int .i64 m.pc) rfl
  have x10 := B0.cell 10 (vo) rfl
  have x11 := B0.cell 11 (.int .i64 m.st) rfl
  have HH := heldHeap_any v1 v2 v3 m.h 1 _ (m1.later hb0) (m2.later hb0) (m3.later hb0) (by omega) (by omega) (by omega) (by omega) (by omega)
  unfold kTot
  go_enter Tryz.func20, Tryz.ntmps20
  go_wp2_with fail
  refine HH.mono ?_
  clear HH x0 x1 x2 x3 x4 x5 x6 x7 x8 x9 x10 x11
  rintro e w1 ⟨rfl, hb1⟩
  have bw1 := bel_after hb0 hb1
  have B1 := B0.later hb1
  have x8 := B1.cell 8 vp rfl
  have HC := heldCodes_any vp m.prog.length (1 + (m.h.words.length : Int) + m.h.roots.length + m.h.kept.length) w1 (m4.later bw1) (by omega) (by omega)
  go_wp2_with fail
  refine HC.mono ?_
  clear HC x8
  rintro e w2 ⟨rfl, hb2⟩
  have bw2 := bel_after bw1 hb2
  have B2 := B1.later hb2
  have x10 := B2.cell 10 vo rfl
  have HI := heldInt64S_any vo m.out.length (1 + (m.h.words.length : Int) + m.h.roots.length + m.h.kept.length + 2 * m.prog.length) w2 (m5.later bw2) (by omega) (by omega)
  go_wp2_with fail
  refine HI.mono ?_
  clear HI x10
  rintro e w3 ⟨rfl, hb3⟩
  go_wp2
  go_ret
  exact ⟨rfl, bel_after bw2 hb3⟩

end Go.Proofs.YtgacacbncefeaaaGreat

/- The law of NewVm. -/
namespace Go.Proofs.YtgacacbncefeaaaGreat
open Go.RowKit

theorem nvR_sm (pr : List Cd) (h : pr.length ≤ 1048576) : smM (nvR pr) 1000000000 := by
  obtain ⟨_, _, _, l1, l2, l3⟩ := nT_len
  unfold nvR
  split
  · exact ⟨by show nT4.words.length ≤ _; omega, by show nT4.roots.length ≤ _; omega, by show nT4.kept.length ≤ _; omega, by show pr.length ≤ _; omega, by show ([] : List Int).length ≤ _; simp⟩
  · exact ⟨by show ([] : List Int).length ≤ _; simp, by show ([] : List Int).length ≤ _; simp, by show ([] : List Int).length ≤ _; simp, by show ([] : List Cd).length ≤ _; simp, by show ([] : List Int).length ≤ _; simp⟩
theorem VN.keepR {B S : Nat} {w w' : World} {v : Value} {m : Mp} (k : VN B w v m) (hk : ∀ b, B ≤ b → b < S → w'.heap[b]? = w.heap[b]?) (hr : ∀ b, VRow v m b → b < S) : VN B w' v m := by
  have kr := fun b h => k.row (b := b) h
  obtain ⟨v1, v2, v3, vp, vo, rfl, hh, ⟨rp, op⟩, ⟨ro, oo⟩, d1, d2⟩ := k.ex
  obtain ⟨⟨o1, o2, o3⟩, ⟨i1, i2, i3⟩, bs, ds⟩ := hh.irs
  have q1 : ∀ b, Disk.rowOf v1 m.h.words.length = some b → B ≤ b ∧ b < S := fun b e => ⟨(kr b ⟨_, _, _, _, _, rfl, .inl e⟩).1, hr b ⟨_, _, _, _, _, rfl, .inl e⟩⟩
  have q2 : ∀ b, Disk.rowOf v2 m.h.roots.length = some b → B ≤ b ∧ b < S := fun b e => ⟨(kr b ⟨_, _, _, _, _, rfl, .inr (.inl e)⟩).1, hr b ⟨_, _, _, _, _, rfl, .inr (.inl e)⟩⟩
  have q3 : ∀ b, Disk.rowOf v3 m.h.kept.length = some b → B ≤ b ∧ b < S := fun b e => ⟨(kr b ⟨_, _, _, _, _, rfl, .inr (.inr (.inl e))⟩).1, hr b ⟨_, _, _, _, _, rfl, .inr (.inr (.inl e))⟩⟩
  have q4 : ∀ b, Disk.rowOf vp m.prog.length = some b → B ≤ b ∧ b < S := fun b e => ⟨(kr b ⟨_, _, _, _, _, rfl, .inr (.inr (.inr (.inl e)))⟩).1, hr b ⟨_, _, _, _, _, rfl, .inr (.inr (.inr (.inl e)))⟩⟩
  have q5 : ∀ b, Disk.rowOf vo m.out.length = some b → B ≤ b ∧ b < S := fun b e => ⟨(kr b ⟨_, _, _, _, _, rfl, .inr (.inr (.inr (.inr e)))⟩).1, hr b ⟨_, _, _, _, _, rfl, .inr (.inr (.inr (.inr e)))⟩⟩
  exact ⟨⟨v1, v2, v3, vp, vo, rfl, ⟨_, _, _, rfl, ⟨OS.keepC o1 hk q1, OS.keepC o2 hk q2, OS.keepC o3 hk q3⟩, ⟨i1.keepR hk q1, i2.keepR hk q2, i3.keepR hk q3⟩, bs, ds⟩, ⟨rp.keepR hk q4, OS.keepC op hk q4⟩, ⟨ro.keepR hk q5, OS.keepC oo hk q5⟩, d1, d2⟩⟩
theorem rowC {g n cap b : Nat} (h : Disk.rowOf (.slice (some ⟨g, 0, none⟩) n cap) n = some b) : b = g := rowof h

set_option maxRecDepth 100000 in
set_option maxHeartbeats 3200000 in
theorem lawNewVm_any (vp : Value) (pr : List Cd) (w : World) (ip : CR w vp pr) (hs : pr.length ≤ 1000000000000000) :
    Calls Tryz.prog 4 #[vp] w fun e w' => e = .returned (.bool true) ∧ Below w.heap.size w w' := by
  have SZ := fun W (hb : Below w.heap.size w W) => szCodeS_any vp pr 1048576 W (ip.later hb) hs (by omega) (by omega)
  go_enter Tryz.func4, Tryz.ntmps4
  go_wp2_with fail
  refine (SZ _ (Below.refl _ _)).mono ?_
  rintro e w1 ⟨⟨y, rfl, hy⟩, hb1⟩
  replace hy : Hid (0 ≤ y → y = 1048576 - pr.length ∧ (pr.length : Int) ≤ 1048576) := hy
  clear SZ
  by_cases hn : y < 0
  · clear hy
    go_wp2
    go_ret
    exact ⟨rfl, hb1⟩
  have sm := (hy.out (by omega)).2
  have sm9 : Hid (smM (nvR pr) 1000000000) := nvR_sm pr (by omega)
  have hl9 : Hid (pr.length ≤ 1100000) := (by omega : pr.length ≤ 1100000)
  have TC := fun W (hb : Below w.heap.size w W) => toCodes_any vp pr W (ip.later hb) (by omega)
  have SN := fun v W (h : CR W v pr) => specNewVm_any v pr W h (by omega)
  have IN := fun v W (h : CR W v pr) => implNewVm_any v pr W h (by omega)
  obtain ⟨M, hM⟩ : ∃ M, M = nvR pr := ⟨_, rfl⟩
  rw [← hM] at SN IN sm9
  have bb : (progB pr != progB pr) = false := by simp
  generalize progB pr = B at *
  clear hM hy sm hs ip
  go_wp2_with fail
  refine (TC _ hb1).mono ?_
  rintro e w2 ⟨⟨rfl, rc2⟩, hb2, -⟩
  have bw2 := bel_after hb1 hb2
  have C := SN _ w2 (rc2.cr (Nat.le_refl _))
  clear SN rc2
  go_wp2_with fail
  refine C.mono ?_
  clear C
  rintro e w3 ⟨⟨u, rfl, h3⟩, hb3⟩
  have bw3 := bel_after bw2 hb3
  have rw3 := fun b (h : VRow u M b) => (h3.row h).2
  obtain ⟨u1, u2, u3, up, uo, rfl, k1, k2, k3, kp, ko⟩ := h3.vr
  obtain ⟨a3, c3, rfl, -⟩ := IRs k1
  obtain ⟨b3, d3, rfl, -⟩ := IRs k2
  obtain ⟨e3, f3, rfl, -⟩ := IRs k3
  obtain ⟨p3, q3, rfl, -⟩ := CRs kp
  obtain ⟨o3, r3, rfl, -⟩ := IRs ko
  clear k1 k2 k3 kp ko
  have al := bel_one w3 (.cells #[.slice a3 M.h.words.length c3, .slice b3 M.h.roots.length d3, .int .i64 M.h.old, .int .i64 M.h.eden, .int .i64 M.h.surv, .bool M.h.flip, .int .i64 M.h.hash, .slice e3 M.h.kept.length f3, .slice p3 M.prog.length q3, .int .i64 M.pc, .slice o3 M.out.length r3, .int .i64 M.st] 30)
  have X4 : Bk (w3.alloc (.cells #[.slice a3 M.h.words.length c3, .slice b3 M.h.roots.length d3, .int .i64 M.h.old, .int .i64 M.h.eden, .int .i64 M.h.surv, .bool M.h.flip, .int .i64 M.h.hash, .slice e3 M.h.kept.length f3, .slice p3 M.prog.length q3, .int .i64 M.pc, .slice o3 M.out.length r3, .int .i64 M.st] 30)) w3.heap.size #[.slice a3 M.h.words.length c3, .slice b3 M.h.roots.length d3, .int .i64 M.h.old, .int .i64 M.h.eden, .int .i64 M.h.surv, .bool M.h.flip, .int .i64 M.h.hash, .slice e3 M.h.kept.length f3, .slice p3 M.prog.length q3, .int .i64 M.pc, .slice o3 M.out.length r3, .int .i64 M.st] 30 := Bk.new w3 _ _
  have h4 := h3.later al
  have bw4 := bel_after bw3 al
  obtain ⟨w4, e4⟩ : ∃ x, x = w3.alloc (.cells #[.slice a3 M.h.words.length c3, .slice b3 M.h.roots.length d3, .int .i64 M.h.old, .int .i64 M.h.eden, .int .i64 M.h.surv, .bool M.h.flip, .int .i64 M.h.hash, .slice e3 M.h.kept.length f3, .slice p3 M.prog.length q3, .int .i64 M.pc, .slice o3 M.out.length r3, .int .i64 M.st] 30) := ⟨_, rfl⟩
  have lt34 : w3.heap.size < w4.heap.size := by rw [e4]; simp
  have T5 := TC _ bw4
  rw [← e4] at X4 h4 bw4
  clear h3 al
  go_wp2_with fail
  refine T5.mono ?_
  clear T5
  rw [← e4]
  clear e4
  rintro e w5 ⟨⟨rfl, rc5⟩, hb5, lt5⟩
  have bw5 := bel_after bw4 hb5
  have X5 := X4.later hb5
  have h5 := h4.later hb5
  obtain ⟨gx, egx⟩ : ∃ x, x = w4.heap.size := ⟨_, rfl⟩
  rw [← egx] at rc5 lt5 lt34 ⊢
  have C := IN _ w5 (rc5.cr (Nat.le_refl _))
  clear X4 h4 hb5
  clear egx
  go_wp2_with fail
  refine C.mono ?_
  clear C
  rintro e w6 ⟨⟨u, rfl, h6⟩, hb6⟩
  have bw6 := bel_after bw5 hb6
  have X6 := X5.later hb6
  have h36 := h5.later hb6
  have rc6 := rc5.later hb6
  have rw6 := fun b (h : VRow u M b) => h6.row h
  have l56 := hb6.size
  obtain ⟨u1, u2, u3, up, uo, rfl, k1, k2, k3, kp, ko⟩ := h6.vr
  obtain ⟨a7, c7, rfl, -⟩ := IRs k1
  obtain ⟨b7, d7, rfl, -⟩ := IRs k2
  obtain ⟨e7, f7, rfl, -⟩ := IRs k3
  obtain ⟨p7, q7, rfl, -⟩ := CRs kp
  obtain ⟨o7, r7, rfl, -⟩ := IRs ko
  clear k1 k2 k3 kp ko
  have al := bel_one w6 (.cells #[.slice a7 M.h.words.length c7, .slice b7 M.h.roots.length d7, .int .i64 M.h.old, .int .i64 M.h.eden, .int .i64 M.h.surv, .bool M.h.flip, .int .i64 M.h.hash, .slice e7 M.h.kept.length f7, .slice p7 M.prog.length q7, .int .i64 M.pc, .slice o7 M.out.length r7, .int .i64 M.st] 30)
  have Y7 : Bk (w6.alloc (.cells #[.slice a7 M.h.words.length c7, .slice b7 M.h.roots.length d7, .int .i64 M.h.old, .int .i64 M.h.eden, .int .i64 M.h.surv, .bool M.h.flip, .int .i64 M.h.hash, .slice e7 M.h.kept.length f7, .slice p7 M.prog.length q7, .int .i64 M.pc, .slice o7 M.out.length r7, .int .i64 M.st] 30)) w6.heap.size #[.slice a7 M.h.words.length c7, .slice b7 M.h.roots.length d7, .int .i64 M.h.old, .int .i64 M.h.eden, .int .i64 M.h.surv, .bool M.h.flip, .int .i64 M.h.hash, .slice e7 M.h.kept.length f7, .slice p7 M.prog.length q7, .int .i64 M.pc, .slice o7 M.out.length r7, .int .i64 M.st] 30 := Bk.new w6 _ _
  have X7 := X6.later al
  have h37 := h36.later al
  have h7 := h6.later al
  have rc7 := rc6.later al
  have bw7 := bel_after bw6 al
  have sz7 : (w6.alloc (.cells #[.slice a7 M.h.words.length c7, .slice b7 M.h.roots.length d7, .int .i64 M.h.old, .int .i64 M.h.eden, .int .i64 M.h.surv, .bool M.h.flip, .int .i64 M.h.hash, .slice e7 M.h.kept.length f7, .slice p7 M.prog.length q7, .int .i64 M.pc, .slice o7 M.out.length r7, .int .i64 M.st] 30)).heap.size = w6.heap.size + 1 := by simp
  have EQ := eqVm_any _ _ M _ h7.vr h37.vr sm9.out
  have x0 := X7.cell 0 (.slice a3 M.h.words.length c3) rfl
  have x1 := X7.cell 1 (.slice b3 M.h.roots.length d3) rfl
  have x2 := X7.cell 2 (.int .i64 M.h.old) rfl
  have x3 := X7.cell 3 (.int .i64 M.h.eden) rfl
  have x4 := X7.cell 4 (.int .i64 M.h.surv) rfl
  have x5 := X7.cell 5 (.bool M.h.flip) rfl
  have x6 := X7.cell 6 (.int .i64 M.h.hash) rfl
  have x7 := X7.cell 7 (.slice e3 M.h.kept.length f3) rfl
  have x8 := X7.cell 8 (.slice p3 M.prog.length q3) rfl
  have x9 := X7.cell 9 (.int .i64 M.pc) rfl
  have x10 := X7.cell 10 (.slice o3 M.out.length r3) rfl
  have x11 := X7.cell 11 (.int .i64 M.st) rfl
  have y0 := Y7.cell 0 (.slice a7 M.h.words.length c7) rfl
  have y1 := Y7.cell 1 (.slice b7 M.h.roots.length d7) rfl
  have y2 := Y7.cell 2 (.int .i64 M.h.old) rfl
  have y3 := Y7.cell 3 (.int .i64 M.h.eden) rfl
  have y4 := Y7.cell 4 (.int .i64 M.h.surv) rfl
  have y5 := Y7.cell 5 (.bool M.h.flip) rfl
  have y6 := Y7.cell 6 (.int .i64 M.h.hash) rfl
  have y7 := Y7.cell 7 (.slice e7 M.h.kept.length f7) rfl
  have y8 := Y7.cell 8 (.slice p7 M.prog.length q7) rfl
  have y9 := Y7.cell 9 (.int .i64 M.pc) rfl
  have y10 := Y7.cell 10 (.slice o7 M.out.length r7) rfl
  have y11 := Y7.cell 11 (.int .i64 M.st) rfl
  clear X5 X6 h5 h36 h6 rc5 rc6 hb6
  go_wp2_with fail
  refine EQ.mono ?_
  clear EQ x0 y0 x1 y1 x2 y2 x3 y3 x4 y4 x5 y5 x6 y6 x7 y7 x8 y8 x9 y9 x10 y10 x11 y11
  rintro e w8 ⟨rfl, hb8⟩
  have bw8 := bel_after bw7 hb8
  have X8 := X7.later hb8
  have Y8 := Y7.later hb8
  have h38 := h37.later hb8
  have h8 := h7.later hb8
  have rc8 := rc7.later hb8
  have l78 : w6.heap.size + 1 ≤ w8.heap.size := by have := hb8.size; omega
  clear X7 Y7 h37 h7 rc7 hb8 sz7
  have T9 := TC _ bw8
  go_wp2_with fail
  refine T9.mono ?_
  clear T9
  rintro e w9 ⟨⟨rfl, rc9⟩, hb9, -⟩
  have bw9 := bel_after bw8 hb9
  have rc89 := rc8.later hb9
  have EC := eqCodes_any (.slice (some ⟨gx, 0, none⟩) pr.length pr.length) (.slice (some ⟨w8.heap.size, 0, none⟩) pr.length pr.length) pr pr w9 (rc89.cr (Nat.le_refl _)) (rc9.cr (Nat.le_refl _)) (by have := hl9.out; omega) (by have := hl9.out; omega)
  rw [decide_eq_true rfl] at EC
  go_wp2_with fail
  refine EC.mono ?_
  clear EC
  rintro e w10 ⟨rfl, hb10⟩
  have b8a := bel_after hb9 hb10
  have bw10 := bel_after bw8 b8a
  have X10 := X8.later b8a
  have Y10 := Y8.later b8a
  have h3a := h38.later b8a
  have ha := h8.later b8a
  have rca := rc8.later b8a
  have l8a := b8a.size
  clear X8 Y8 h38 h8 rc8 rc9 rc89 hb9 hb10 b8a
  have MC := markCodes_any (.slice (some ⟨gx, 0, none⟩) pr.length pr.length) pr.length 1 w10 rca.os ⟨_, _, rfl, Nat.le_refl _⟩ (by omega) (by have := hl9.out; omega)
  have kd : decide ((1 + 2 * (pr.length : Int)) < 0) = false := decide_eq_false (by omega)
  go_wp2_with fail
  refine MC.mono ?_
  clear MC
  rintro e w11 ⟨rfl, g11, -⟩
  have gr : ∀ b, b ≠ gx → some b ≠ Disk.rowOf (.slice (some ⟨gx, 0, none⟩) pr.length pr.length) pr.length := fun b h e => h (rowof e.symm)
  have X11 := X10.off g11 (gr _ (by omega))
  have Y11 := Y10.off g11 (gr _ (by omega))
  have bw11 : Below w.heap.size w w11 := Below.grown bw10 g11 bw10.size (fun k hk => by have := rowof hk; have := bw3.size; omega)
  have h3b : VN w2.heap.size w11 (.agg #[.slice a3 M.h.words.length c3, .slice b3 M.h.roots.length d3, .int .i64 M.h.old, .int .i64 M.h.eden, .int .i64 M.h.surv, .bool M.h.flip, .int .i64 M.h.hash, .slice e3 M.h.kept.length f3, .slice p3 M.prog.length q3, .int .i64 M.pc, .slice o3 M.out.length r3, .int .i64 M.st]) M := h3a.keepR (S := w3.heap.size) (fun b h1 h2 => g11.block b (by omega) (gr b (by omega))) rw3
  have hb : VN w5.heap.size w11 (.agg #[.slice a7 M.h.words.length c7, .slice b7 M.h.roots.length d7, .int .i64 M.h.old, .int .i64 M.h.eden, .int .i64 M.h.surv, .bool M.h.flip, .int .i64 M.h.hash, .slice e7 M.h.kept.length f7, .slice p7 M.prog.length q7, .int .i64 M.pc, .slice o7 M.out.length r7, .int .i64 M.st]) M := ha.keepR (S := w6.heap.size) (fun b h1 h2 => g11.block b (by omega) (gr b (by omega))) (fun b h => (rw6 b h).2)
  have l11 := g11.size
  clear X10 Y10 h3a ha rca g11
  have EQ := eqVm_any _ _ M w11 hb.vr h3b.vr sm9.out
  have x0 := X11.cell 0 (.slice a3 M.h.words.length c3) rfl
  have x1 := X11.cell 1 (.slice b3 M.h.roots.length d3) rfl
  have x2 := X11.cell 2 (.int .i64 M.h.old) rfl
  have x3 := X11.cell 3 (.int .i64 M.h.eden) rfl
  have x4 := X11.cell 4 (.int .i64 M.h.surv) rfl
  have x5 := X11.cell 5 (.bool M.h.flip) rfl
  have x6 := X11.cell 6 (.int .i64 M.h.hash) rfl
  have x7 := X11.cell 7 (.slice e3 M.h.kept.length f3) rfl
  have x8 := X11.cell 8 (.slice p3 M.prog.length q3) rfl
  have x9 := X11.cell 9 (.int .i64 M.pc) rfl
  have x10 := X11.cell 10 (.slice o3 M.out.length r3) rfl
  have x11 := X11.cell 11 (.int .i64 M.st) rfl
  have y0 := Y11.cell 0 (.slice a7 M.h.words.length c7) rfl
  have y1 := Y11.cell 1 (.slice b7 M.h.roots.length d7) rfl
  have y2 := Y11.cell 2 (.int .i64 M.h.old) rfl
  have y3 := Y11.cell 3 (.int .i64 M.h.eden) rfl
  have y4 := Y11.cell 4 (.int .i64 M.h.surv) rfl
  have y5 := Y11.cell 5 (.bool M.h.flip) rfl
  have y6 := Y11.cell 6 (.int .i64 M.h.hash) rfl
  have y7 := Y11.cell 7 (.slice e7 M.h.kept.length f7) rfl
  have y8 := Y11.cell 8 (.slice p7 M.prog.length q7) rfl
  have y9 := Y11.cell 9 (.int .i64 M.pc) rfl
  have y10 := Y11.cell 10 (.slice o7 M.out.length r7) rfl
  have y11 := Y11.cell 11 (.int .i64 M.st) rfl
  go_wp2_with fail
  refine EQ.mono ?_
  clear EQ x0 y0 x1 y1 x2 y2 x3 y3 x4 y4 x5 y5 x6 y6 x7 y7 x8 y8 x9 y9 x10 y10 x11 y11
  rintro e w12 ⟨rfl, hb12⟩
  have bw12 := bel_after bw11 hb12
  have X12 := X11.later hb12
  have Y12 := Y11.later hb12
  have h3c := h3b.later hb12
  have hc := hb.later hb12
  have l12 := hb12.size
  clear X11 Y11 h3b hb hb12
  have MV := markVm_any _ _ M w12 hc sm9.out
  have y0 := Y12.cell 0 (.slice a7 M.h.words.length c7) rfl
  have y1 := Y12.cell 1 (.slice b7 M.h.roots.length d7) rfl
  have y2 := Y12.cell 2 (.int .i64 M.h.old) rfl
  have y3 := Y12.cell 3 (.int .i64 M.h.eden) rfl
  have y4 := Y12.cell 4 (.int .i64 M.h.surv) rfl
  have y5 := Y12.cell 5 (.bool M.h.flip) rfl
  have y6 := Y12.cell 6 (.int .i64 M.h.hash) rfl
  have y7 := Y12.cell 7 (.slice e7 M.h.kept.length f7) rfl
  have y8 := Y12.cell 8 (.slice p7 M.prog.length q7) rfl
  have y9 := Y12.cell 9 (.int .i64 M.pc) rfl
  have y10 := Y12.cell 10 (.slice o7 M.out.length r7) rfl
  have y11 := Y12.cell 11 (.int .i64 M.st) rfl
  go_wp2_with fail
  refine MV.mono ?_
  clear MV y0 y1 y2 y3 y4 y5 y6 y7 y8 y9 y10 y11
  rintro e w13 ⟨rfl, O13, mk13⟩
  have hk13 : ∀ b, b < w12.heap.size → (b < w5.heap.size ∨ w6.heap.size ≤ b) → w13.heap[b]? = w12.heap[b]? := fun b h1 h2 => O13.block b h1 (fun e => by have := rw6 b e; omega)
  have X13 : Bk w13 w3.heap.size #[.slice a3 M.h.words.length c3, .slice b3 M.h.roots.length d3, .int .i64 M.h.old, .int .i64 M.h.eden, .int .i64 M.h.surv, .bool M.h.flip, .int .i64 M.h.hash, .slice e3 M.h.kept.length f3, .slice p3 M.prog.length q3, .int .i64 M.pc, .slice o3 M.out.length r3, .int .i64 M.st] 30 := (hk13 _ X12.lt (.inl (by omega))).trans X12
  have Y13 : Bk w13 w6.heap.size #[.slice a7 M.h.words.length c7, .slice b7 M.h.roots.length d7, .int .i64 M.h.old, .int .i64 M.h.eden, .int .i64 M.h.surv, .bool M.h.flip, .int .i64 M.h.hash, .slice e7 M.h.kept.length f7, .slice p7 M.prog.length q7, .int .i64 M.pc, .slice o7 M.out.length r7, .int .i64 M.st] 30 := (hk13 _ Y12.lt (.inr (Nat.le_refl _))).trans Y12
  have h3d : VN w2.heap.size w13 (.agg #[.slice a3 M.h.words.length c3, .slice b3 M.h.roots.length d3, .int .i64 M.h.old, .int .i64 M.h.eden, .int .i64 M.h.surv, .bool M.h.flip, .int .i64 M.h.hash, .slice e3 M.h.kept.length f3, .slice p3 M.prog.length q3, .int .i64 M.pc, .slice o3 M.out.length r3, .int .i64 M.st]) M := h3c.keepR (S := w3.heap.size) (fun b h1 h2 => hk13 b (by omega) (.inl (by omega))) rw3
  have bw13 : Below w.heap.size w w13 := bw12.trans (O13.below bw12.size (fun b e => by have := rw6 b e; have := bw5.size; omega))
  have l13 := O13.size
  clear X12 Y12 h3c hc O13 hk13
  have HV := heldVm_any _ M w13 mk13 sm9.out
  have kp : 0 < kTot M := by unfold kTot; omega
  have mm : (kTot M != kTot M) = false := by simp
  have md : decide (kTot M < 0) = false := decide_eq_false (by omega)
  have y0 := Y13.cell 0 (.slice a7 M.h.words.length c7) rfl
  have y1 := Y13.cell 1 (.slice b7 M.h.roots.length d7) rfl
  have y2 := Y13.cell 2 (.int .i64 M.h.old) rfl
  have y3 := Y13.cell 3 (.int .i64 M.h.eden) rfl
  have y4 := Y13.cell 4 (.int .i64 M.h.surv) rfl
  have y5 := Y13.cell 5 (.bool M.h.flip) rfl
  have y6 := Y13.cell 6 (.int .i64 M.h.hash) rfl
  have y7 := Y13.cell 7 (.slice e7 M.h.kept.length f7) rfl
  have y8 := Y13.cell 8 (.slice p7 M.prog.length q7) rfl
  have y9 := Y13.cell 9 (.int .i64 M.pc) rfl
  have y10 := Y13.cell 10 (.slice o7 M.out.length r7) rfl
  have y11 := Y13.cell 11 (.int .i64 M.st) rfl
  go_wp2_with fail
  refine HV.mono ?_
  clear HV y0 y1 y2 y3 y4 y5 y6 y7 y8 y9 y10 y11
  rintro e w14 ⟨rfl, hb14⟩
  have bw14 := bel_after bw13 hb14
  have X14 := X13.later hb14
  have Y14 := Y13.later hb14
  have h3e := h3d.later hb14
  have mk14 := mk13.later hb14
  clear X13 Y13 h3d mk13 hb14
  have T15 := TC _ bw14
  go_wp2_with fail
  refine T15.mono ?_
  clear T15 TC
  rintro e w15 ⟨⟨rfl, rc15⟩, hb15, -⟩
  have bw15 := bel_after bw14 hb15
  have X15 := X14.later hb15
  have Y15 := Y14.later hb15
  have h3f := h3e.later hb15
  have mk15 := mk14.later hb15
  have C := IN _ w15 (rc15.cr (Nat.le_refl _))
  clear X14 Y14 h3e mk14 hb15 IN rc15
  go_wp2_with fail
  refine C.mono ?_
  clear C
  rintro e w16 ⟨⟨u, rfl, h16⟩, hb16⟩
  have bw16 := bel_after bw15 hb16
  have X16 := X15.later hb16
  have Y16 := Y15.later hb16
  have h3g := h3f.later hb16
  have mk16 := mk15.later hb16
  obtain ⟨u1, u2, u3, up, uo, rfl, k1, k2, k3, kp, ko⟩ := h16.vr
  obtain ⟨a15, c15, rfl, -⟩ := IRs k1
  obtain ⟨b15, d15, rfl, -⟩ := IRs k2
  obtain ⟨e15, f15, rfl, -⟩ := IRs k3
  obtain ⟨p15, q15, rfl, -⟩ := CRs kp
  obtain ⟨o15, r15, rfl, -⟩ := IRs ko
  clear k1 k2 k3 kp ko
  have al := bel_one w16 (.cells #[.slice a15 M.h.words.length c15, .slice b15 M.h.roots.length d15, .int .i64 M.h.old, .int .i64 M.h.eden, .int .i64 M.h.surv, .bool M.h.flip, .int .i64 M.h.hash, .slice e15 M.h.kept.length f15, .slice p15 M.prog.length q15, .int .i64 M.pc, .slice o15 M.out.length r15, .int .i64 M.st] 30)
  have Z17 : Bk (w16.alloc (.cells #[.slice a15 M.h.words.length c15, .slice b15 M.h.roots.length d15, .int .i64 M.h.old, .int .i64 M.h.eden, .int .i64 M.h.surv, .bool M.h.flip, .int .i64 M.h.hash, .slice e15 M.h.kept.length f15, .slice p15 M.prog.length q15, .int .i64 M.pc, .slice o15 M.out.length r15, .int .i64 M.st] 30)) w16.heap.size #[.slice a15 M.h.words.length c15, .slice b15 M.h.roots.length d15, .int .i64 M.h.old, .int .i64 M.h.eden, .int .i64 M.h.surv, .bool M.h.flip, .int .i64 M.h.hash, .slice e15 M.h.kept.length f15, .slice p15 M.prog.length q15, .int .i64 M.pc, .slice o15 M.out.length r15, .int .i64 M.st] 30 := Bk.new w16 _ _
  have X17 := X16.later al
  have Y17 := Y16.later al
  have h3h := h3g.later al
  have mk17 := mk16.later al
  have h17 := h16.later al
  have bw17 := bel_after bw16 al
  have EQ := eqVm_any _ _ M _ h17.vr h3h.vr sm9.out
  have x0 := X17.cell 0 (.slice a3 M.h.words.length c3) rfl
  have x1 := X17.cell 1 (.slice b3 M.h.roots.length d3) rfl
  have x2 := X17.cell 2 (.int .i64 M.h.old) rfl
  have x3 := X17.cell 3 (.int .i64 M.h.eden) rfl
  have x4 := X17.cell 4 (.int .i64 M.h.surv) rfl
  have x5 := X17.cell 5 (.bool M.h.flip) rfl
  have x6 := X17.cell 6 (.int .i64 M.h.hash) rfl
  have x7 := X17.cell 7 (.slice e3 M.h.kept.length f3) rfl
  have x8 := X17.cell 8 (.slice p3 M.prog.length q3) rfl
  have x9 := X17.cell 9 (.int .i64 M.pc) rfl
  have x10 := X17.cell 10 (.slice o3 M.out.length r3) rfl
  have x11 := X17.cell 11 (.int .i64 M.st) rfl
  have y0 := Z17.cell 0 (.slice a15 M.h.words.length c15) rfl
  have y1 := Z17.cell 1 (.slice b15 M.h.roots.length d15) rfl
  have y2 := Z17.cell 2 (.int .i64 M.h.old) rfl
  have y3 := Z17.cell 3 (.int .i64 M.h.eden) rfl
  have y4 := Z17.cell 4 (.int .i64 M.h.surv) rfl
  have y5 := Z17.cell 5 (.bool M.h.flip) rfl
  have y6 := Z17.cell 6 (.int .i64 M.h.hash) rfl
  have y7 := Z17.cell 7 (.slice e15 M.h.kept.length f15) rfl
  have y8 := Z17.cell 8 (.slice p15 M.prog.length q15) rfl
  have y9 := Z17.cell 9 (.int .i64 M.pc) rfl
  have y10 := Z17.cell 10 (.slice o15 M.out.length r15) rfl
  have y11 := Z17.cell 11 (.int .i64 M.st) rfl
  clear X15 Y15 h3f mk15 X16 Y16 h3g mk16 h16 hb16
  go_wp2_with fail
  refine EQ.mono ?_
  clear EQ x0 y0 x1 y1 x2 y2 x3 y3 x4 y4 x5 y5 x6 y6 x7 y7 x8 y8 x9 y9 x10 y10 x11 y11
  rintro e w18 ⟨rfl, hb18⟩
  have bw18 := bel_after bw17 hb18
  have Y18 := Y17.later hb18
  have mk18 := mk17.later hb18
  have HV := heldVm_any _ M w18 mk18 sm9.out
  have y0 := Y18.cell 0 (.slice a7 M.h.words.length c7) rfl
  have y1 := Y18.cell 1 (.slice b7 M.h.roots.length d7) rfl
  have y2 := Y18.cell 2 (.int .i64 M.h.old) rfl
  have y3 := Y18.cell 3 (.int .i64 M.h.eden) rfl
  have y4 := Y18.cell 4 (.int .i64 M.h.surv) rfl
  have y5 := Y18.cell 5 (.bool M.h.flip) rfl
  have y6 := Y18.cell 6 (.int .i64 M.h.hash) rfl
  have y7 := Y18.cell 7 (.slice e7 M.h.kept.length f7) rfl
  have y8 := Y18.cell 8 (.slice p7 M.prog.length q7) rfl
  have y9 := Y18.cell 9 (.int .i64 M.pc) rfl
  have y10 := Y18.cell 10 (.slice o7 M.out.length r7) rfl
  have y11 := Y18.cell 11 (.int .i64 M.st) rfl
  clear X17 Y17 Z17 h3h mk17 h17
  go_wp2_with fail
  refine HV.mono ?_
  clear HV y0 y1 y2 y3 y4 y5 y6 y7 y8 y9 y10 y11
  rintro e w19 ⟨rfl, hb19⟩
  have bw19 := bel_after bw18 hb19
  clear mk18 Y18
  go_wp2
  go_ret
  exact ⟨rfl, bw19⟩

end Go.Proofs.YtgacacbncefeaaaGreat

/- A heap that came in as an argument. -/
namespace Go.Proofs.YtgacacbncefeaaaGreat
open Go.ChangeShapes Go.WideShapes Go.ChangeAt Go.RowKit Go.Joins

theorem Tryz.cells2 : Tryz.prog.cellsOf 2 = 1 := by kernel_rfl
theorem Tryz.bytes2 : Tryz.prog.bytesOf 2 = 8 := by kernel_rfl
theorem Tryz.cellsHp : Tryz.prog.cellsOf 43 = 8 := by kernel_rfl
theorem own : ownKnob Tryz.prog.godebug = none := by kernel_rfl
theorem laidOut : laidOutB Tryz.prog = true := by kernel_rfl
theorem reach_eq : reachBytes = 140737488351232 := rfl
theorem add_eq (b o i : Nat) : (⟨b, o, none⟩ : Addr).add i = ⟨b, o + i, none⟩ := by
  unfold Addr.add
  by_cases h : i = 0
  · simp [h]
  · simp [h]
theorem spotless {w : World} {a : Addr} {v : Value} (h : w.cell? (a.add 0) = some v) : ∃ b o, a = ⟨b, o, none⟩ := by
  obtain ⟨b, o, s⟩ := a
  have : s = none := by simpa [Addr.add] using World.cell?_spot h
  exact ⟨b, o, by rw [this]⟩
theorem array8 {α : Type} {cs : Array α} (h : cs.size = 8) : ∃ c0 c1 c2 c3 c4 c5 c6 c7, cs = #[c0, c1, c2, c3, c4, c5, c6, c7] := by
  obtain ⟨l⟩ := cs
  match l, h with
  | [c0, c1, c2, c3, c4, c5, c6, c7], _ => exact ⟨c0, c1, c2, c3, c4, c5, c6, c7, rfl⟩
theorem list8 {α : Type} {cs : List α} (h : cs.length = 8) : ∃ c0 c1 c2 c3 c4 c5 c6 c7, cs = [c0, c1, c2, c3, c4, c5, c6, c7] := by
  match cs, h with
  | [c0, c1, c2, c3, c4, c5, c6, c7], _ => exact ⟨c0, c1, c2, c3, c4, c5, c6, c7, rfl⟩

theorem open_nums {H : Type} {enc : TypeId × Value → H} {W : World} {n : Nat} {c : Value} {y : DataW H × List MemPlace} (h : DataW.trod enc Tryz.prog W 0 (fun _ => true) true n 26 [c] = some y)
    (hw : ∀ x, x ∈ DataW.weights Tryz.prog 26 y.1 → x ≤ 140737488351232) : ∃ l, IR W c l ∧ l.length ≤ 100000000000000 := by
  rcases open_ints Tryz.underlying26 Tryz.underlying2 Tryz.cells2 h with ⟨hcs, hx⟩ | ⟨a, len, cap, zs, hcs, _, hl, hm, hz, hx, hcell, hwz⟩
  · obtain rfl : c = .slice none 0 0 := by simpa using hcs
    exact ⟨[], ⟨none, 0, rfl, Nat.le_refl _, fun i hi => by simp at hi⟩, by simp⟩
  · obtain rfl : c = .slice (some a) len cap := by simpa using hcs
    simp only [if_true] at hz
    have e : (zs.take len).length = len := by rw [List.length_take]; omega
    have hlen : len ≤ 100000000000000 := by
      have := hw (((lits .i64 (zs.take len) : List (DataW H)).length + (lits .i64 (zs.drop len) : List (DataW H)).length) * Tryz.prog.bytesOf 2) (by
        rw [hx]
        simp [DataW.weights, Tryz.underlying26])
      rw [Tryz.bytes2] at this
      have q : (lits .i64 (zs.take len) : List (DataW H)).length = len := by simpa [lits] using e
      rw [q] at this
      omega
    refine ⟨zs.take len, ⟨some a, cap, by rw [e], by rw [e]; exact hl, fun i hi => ?_⟩, by rw [e]; exact hlen⟩
    have hi' : i < len := by omega
    obtain ⟨b, o, rfl⟩ := spotless (hcell 0 (by omega))
    have hci := hcell i (by omega)
    rw [add_eq] at hci
    refine ⟨b, o, rfl, ?_⟩
    rw [hci]
    simp [List.getD_eq_getElem?_getD, hi']

set_option maxRecDepth 100000 in
set_option maxHeartbeats 1600000 in
theorem open_heap {H : Type} {enc : TypeId × Value → H} {W : World} {b0 : Nat} {v : Value} {d : DataW H} {p : List MemPlace} (hv : Value.okWide Tryz.prog W .any b0 43 v)
    (h : DataW.Trod enc Tryz.prog W 0 (fun _ => true) true 43 v d p) (hsz : ∀ x ∈ DataW.weights Tryz.prog 43 d, x ≤ 140737488351232) :
    ∃ (v1 v2 v3 : Value) (hp : Hp), v = .agg #[v1, v2, .int .i64 hp.old, .int .i64 hp.eden, .int .i64 hp.surv, .bool hp.flip, .int .i64 hp.hash, v3] ∧ IR W v1 hp.words ∧ IR W v2 hp.roots ∧ IR W v3 hp.kept ∧ hp.words.length ≤ 1000000000000000 ∧ hp.roots.length ≤ 1000000000000000 ∧ hp.kept.length ≤ 1000000000000000 := by
  obtain ⟨cs, rfl, hcs⟩ := okWide_struct Tryz.underlying43 hv
  obtain ⟨c0, c1, c2, c3, c4, c5, c6, c7, rfl⟩ := array8 (hcs.trans Tryz.cellsHp)
  obtain ⟨fuel, hf⟩ := h
  obtain ⟨xs, n, _, hx, hl, hlen, hfl⟩ := DataW.trod_struct Tryz.underlying43 hf
  obtain ⟨y0, y1, y2, y3, y4, y5, y6, y7, rfl⟩ := list8 hlen
  have g0 := hfl 0 _ rfl
  have g1 := hfl 1 _ rfl
  have g2 := hfl 2 _ rfl
  have g3 := hfl 3 _ rfl
  have g4 := hfl 4 _ rfl
  have g5 := hfl 5 _ rfl
  have g6 := hfl 6 _ rfl
  have g7 := hfl 7 _ rfl
  clear hfl hlen hl
  simp only [Prod.mk.injEq, List.map_cons, List.map_nil] at hx
  obtain ⟨rfl, _⟩ := hx
  have cI : Tryz.prog.cellsOf 26 = 1 := by kernel_rfl
  have c4' : Tryz.prog.cellsOf 4 = 1 := by kernel_rfl
  simp [Value.cells, cI, c4', Tryz.cells2] at g0 g1 g2 g3 g4 g5 g6 g7
  obtain ⟨z2, e2, _⟩ := DataW.trod_int Tryz.underlying2 g2
  obtain ⟨z3, e3, _⟩ := DataW.trod_int Tryz.underlying2 g3
  obtain ⟨z4, e4, _⟩ := DataW.trod_int Tryz.underlying2 g4
  obtain ⟨z5, e5, _⟩ := DataW.trod_bool Tryz.underlying4 g5
  obtain ⟨z6, e6, _⟩ := DataW.trod_int Tryz.underlying2 g6
  simp only [List.cons.injEq, and_true] at e2 e3 e4 e5 e6
  subst e2 e3 e4 e5 e6
  obtain ⟨l1, r1, b1⟩ := open_nums g0 (fun x hx => hsz x (by simp [DataW.weights, DataW.weightsEach, Tryz.underlying43, hx]))
  obtain ⟨l2, r2, b2⟩ := open_nums g1 (fun x hx => hsz x (by simp [DataW.weights, DataW.weightsEach, Tryz.underlying43, hx]))
  obtain ⟨l3, r3, b3⟩ := open_nums g7 (fun x hx => hsz x (by simp [DataW.weights, DataW.weightsEach, Tryz.underlying43, hx]))
  exact ⟨c0, c1, c7, ⟨l1, l2, z2, z3, z4, z5, z6, l3⟩, rfl, r1, r2, r3, by show l1.length ≤ _; omega, by show l2.length ≤ _; omega, by show l3.length ≤ _; omega⟩

end Go.Proofs.YtgacacbncefeaaaGreat

/- A machine that came in as an argument. -/
namespace Go.Proofs.YtgacacbncefeaaaGreat
open Go.ChangeShapes Go.WideShapes Go.ChangeAt Go.RowKit Go.Joins

theorem Tryz.kcellsVm : Tryz.prog.cellsOf 45 = 12 := by kernel_rfl
theorem Tryz.kcellsI : Tryz.prog.cellsOf 26 = 1 := by kernel_rfl
theorem Tryz.kcellsC : Tryz.prog.cellsOf 80 = 2 := by kernel_rfl
theorem Tryz.kcellsCs : Tryz.prog.cellsOf 36 = 1 := by kernel_rfl
theorem Tryz.kbytesC : Tryz.prog.bytesOf 80 = 16 := by kernel_rfl
theorem Tryz.kcells4 : Tryz.prog.cellsOf 4 = 1 := by kernel_rfl
theorem array12 {α : Type} {cs : Array α} (h : cs.size = 12) : ∃ c0 c1 c2 c3 c4 c5 c6 c7 c8 c9 c10 c11, cs = #[c0, c1, c2, c3, c4, c5, c6, c7, c8, c9, c10, c11] := by
  obtain ⟨l⟩ := cs
  match l, h with
  | [c0, c1, c2, c3, c4, c5, c6, c7, c8, c9, c10, c11], _ => exact ⟨c0, c1, c2, c3, c4, c5, c6, c7, c8, c9, c10, c11, rfl⟩
theorem list2K {α : Type} {cs : List α} (h : cs.length = 2) : ∃ c0 c1, cs = [c0, c1] := by
  match cs, h with
  | [c0, c1], _ => exact ⟨c0, c1, rfl⟩
theorem list5K {α : Type} {cs : List α} (h : cs.length = 5) : ∃ c0 c1 c2 c3 c4, cs = [c0, c1, c2, c3, c4] := by
  match cs, h with
  | [c0, c1, c2, c3, c4], _ => exact ⟨c0, c1, c2, c3, c4, rfl⟩
theorem weights_allK {H : Type} {P : Program} {e : TypeId} {x : Nat} : ∀ (ds : List (DataW H)) (d : DataW H), d ∈ ds → x ∈ DataW.weights P e d → x ∈ DataW.weightsAll P e ds
  | [], _, h, _ => by simp at h
  | c :: r, d, h, hx => by
    simp only [DataW.weightsAll, List.mem_append]
    rcases List.mem_cons.1 h with rfl | h
    · exact .inl hx
    · exact .inr (weights_allK r d h hx)

def CdAt (W : World) (a : Addr) (p : Cd) : Prop := W.cell? (a.add 0) = some (.int .i64 p.1) ∧ W.cell? (a.add 1) = some (.int .i64 p.2)
theorem open_codeK {H : Type} {enc : TypeId × Value → H} {W : World} {n : Nat} {a : Addr} {cs : List Value} {y : DataW H × List MemPlace} (hc : W.cells? 0 a 2 = some cs) (h : DataW.trod enc Tryz.prog W 0 (fun _ => true) true n 80 cs = some y) : ∃ p, CdAt W a p := by
  obtain ⟨_, hlen, hcell⟩ := World.cells?_some hc
  obtain ⟨xs, k, _, hx, _, hxl, hfl⟩ := DataW.trod_struct Tryz.underlying80 h
  obtain ⟨y0, y1, rfl⟩ := list2K hxl
  obtain ⟨v0, v1, rfl⟩ := list2K hlen
  have g0 := hfl 0 _ rfl
  have g1 := hfl 1 _ rfl
  clear hfl hxl
  have e0 := hcell 0 (by omega)
  have e1 := hcell 1 (by omega)
  simp [Tryz.cells2] at g0 g1 e0 e1
  obtain ⟨z0, q0, _, w0⟩ := DataW.trod_int Tryz.underlying2 g0
  obtain ⟨z1, q1, _, w1⟩ := DataW.trod_int Tryz.underlying2 g1
  simp only [List.cons.injEq, and_true] at q0 q1
  subst q0 q1
  exact ⟨(z0, z1), e0, e1⟩

set_option maxRecDepth 100000 in
set_option maxHeartbeats 1600000 in
theorem open_codes {H : Type} {enc : TypeId × Value → H} {W : World} {n : Nat} {c : Value} {y : DataW H × List MemPlace} (h : DataW.trod enc Tryz.prog W 0 (fun _ => true) true n 36 [c] = some y)
    (hw : ∀ x, x ∈ DataW.weights Tryz.prog 36 y.1 → x ≤ 140737488351232) : ∃ l, CR W c l ∧ l.length ≤ 100000000000000 := by
  rcases Deep.open_slice Tryz.underlying36 h with ⟨hcs, hx⟩ | ⟨a, len, cap, m, k, D, Pl, hcs, _, hl, hm, hmm, hx, hc⟩
  · obtain rfl : c = .slice none 0 0 := by simpa using hcs
    exact ⟨[], ⟨none, 0, rfl, Nat.le_refl _, fun i hi => by simp at hi⟩, by simp⟩
  · obtain rfl : c = .slice (some a) len cap := by simpa using hcs
    have hmc : m = cap := by simpa using hmm
    subst hmc
    rw [hx] at hw
    rw [Tryz.kcellsC] at hc
    have hlen : len ≤ 100000000000000 := by
      have := hw ((((List.range len).map D).length + ((List.range (m - len)).map fun j => D (len + j)).length) * Tryz.prog.bytesOf 80) (by
        simp [DataW.weights, Tryz.underlying36])
      rw [Tryz.kbytesC] at this
      simp at this
      omega
    have hh : ∀ i, i < len → ∃ x : Cd, CdAt W (a.add (i * 2)) x := fun i hi => by
      obtain ⟨cs, h1, h2⟩ := hc i (by omega)
      exact open_codeK h1 h2
    obtain ⟨f, hf⟩ : ∃ f : Nat → Cd, ∀ i, i < len → CdAt W (a.add (i * 2)) (f i) := ⟨fun i => if hi : i < len then Classical.choose (hh i hi) else cd0, fun i hi => by simp only [dif_pos hi]; exact Classical.choose_spec (hh i hi)⟩
    have e : ((List.range len).map f).length = len := by simp
    refine ⟨(List.range len).map f, ⟨some a, m, by rw [e], by rw [e]; exact hl, fun i hi => ?_⟩, by rw [e]; exact hlen⟩
    rw [e] at hi
    have h0 := (hf 0 (by omega)).1
    rw [Nat.zero_mul] at h0
    obtain ⟨b, o, rfl⟩ := spotless (a := a) (by simpa [Addr.add] using h0)
    obtain ⟨c0, c1⟩ := hf i hi
    rw [add_eq, add_eq] at c0 c1
    have eg : ((List.range len).map f).getD i cd0 = f i := by simp [hi]
    exact ⟨b, o, rfl, by rw [eg]; simpa using c0, by rw [eg]; exact c1⟩

set_option maxRecDepth 100000 in
set_option maxHeartbeats 1600000 in
theorem open_heapK {H : Type} {enc : TypeId × Value → H} {W : World} {n : Nat} {c0 c1 c2 c3 c4 c5 c6 c7 : Value} {y : DataW H × List MemPlace} (h : DataW.trod enc Tryz.prog W 0 (fun _ => true) true n 43 [c0, c1, c2, c3, c4, c5, c6, c7] = some y)
    (hsz : ∀ x, x ∈ DataW.weights Tryz.prog 43 y.1 → x ≤ 140737488351232) :
    ∃ hp : Hp, (c2 = .int .i64 hp.old ∧ c3 = .int .i64 hp.eden ∧ c4 = .int .i64 hp.surv ∧ c5 = .bool hp.flip ∧ c6 = .int .i64 hp.hash) ∧ IR W c0 hp.words ∧ IR W c1 hp.roots ∧ IR W c7 hp.kept ∧ hp.words.length ≤ 1000000000000000 ∧ hp.roots.length ≤ 1000000000000000 ∧ hp.kept.length ≤ 1000000000000000 := by
  obtain ⟨xs, k, _, hx, hl, hlen, hfl⟩ := DataW.trod_struct Tryz.underlying43 h
  obtain ⟨y0, y1, y2, y3, y4, y5, y6, y7, rfl⟩ := list8 hlen
  have g0 := hfl 0 _ rfl
  have g1 := hfl 1 _ rfl
  have g2 := hfl 2 _ rfl
  have g3 := hfl 3 _ rfl
  have g4 := hfl 4 _ rfl
  have g5 := hfl 5 _ rfl
  have g6 := hfl 6 _ rfl
  have g7 := hfl 7 _ rfl
  clear hfl hlen hl
  obtain ⟨yd, yp⟩ := y
  simp only [Prod.mk.injEq, List.map_cons, List.map_nil] at hx
  obtain ⟨rfl, _⟩ := hx
  simp [Tryz.kcellsI, Tryz.kcells4, Tryz.cells2] at g0 g1 g2 g3 g4 g5 g6 g7
  obtain ⟨z2, e2, _⟩ := DataW.trod_int Tryz.underlying2 g2
  obtain ⟨z3, e3, _⟩ := DataW.trod_int Tryz.underlying2 g3
  obtain ⟨z4, e4, _⟩ := DataW.trod_int Tryz.underlying2 g4
  obtain ⟨z5, e5, _⟩ := DataW.trod_bool Tryz.underlying4 g5
  obtain ⟨z6, e6, _⟩ := DataW.trod_int Tryz.underlying2 g6
  simp only [List.cons.injEq, and_true] at e2 e3 e4 e5 e6
  subst e2 e3 e4 e5 e6
  obtain ⟨l1, r1, b1⟩ := open_nums g0 (fun x hx => hsz x (by simp [DataW.weights, DataW.weightsEach, Tryz.underlying43, hx]))
  obtain ⟨l2, r2, b2⟩ := open_nums g1 (fun x hx => hsz x (by simp [DataW.weights, DataW.weightsEach, Tryz.underlying43, hx]))
  obtain ⟨l3, r3, b3⟩ := open_nums g7 (fun x hx => hsz x (by simp [DataW.weights, DataW.weightsEach, Tryz.underlying43, hx]))
  exact ⟨⟨l1, l2, z2, z3, z4, z5, z6, l3⟩, ⟨rfl, rfl, rfl, rfl, rfl⟩, r1, r2, r3, by show l1.length ≤ _; omega, by show l2.length ≤ _; omega, by show l3.length ≤ _; omega⟩

set_option maxRecDepth 100000 in
set_option maxHeartbeats 1600000 in
theorem open_vm {H : Type} {enc : TypeId × Value → H} {W : World} {b0 : Nat} {v : Value} {d : DataW H} {p : List MemPlace} (hv : Value.okWide Tryz.prog W .any b0 45 v)
    (h : DataW.Trod enc Tryz.prog W 0 (fun _ => true) true 45 v d p) (hsz : ∀ x ∈ DataW.weights Tryz.prog 45 d, x ≤ 140737488351232) :
    ∃ (v1 v2 v3 vp vo : Value) (m : Mp), v = .agg #[v1, v2, .int .i64 m.h.old, .int .i64 m.h.eden, .int .i64 m.h.surv, .bool m.h.flip, .int .i64 m.h.hash, v3, vp, .int .i64 m.pc, vo, .int .i64 m.st] ∧ IR W v1 m.h.words ∧ IR W v2 m.h.roots ∧ IR W v3 m.h.kept ∧ CR W vp m.prog ∧ IR W vo m.out ∧ smM m 1000000000000000 := by
  obtain ⟨cs, rfl, hcs⟩ := okWide_struct Tryz.underlying45 hv
  obtain ⟨c0, c1, c2, c3, c4, c5, c6, c7, c8, c9, c10, c11, rfl⟩ := array12 (hcs.trans Tryz.kcellsVm)
  obtain ⟨fuel, hf⟩ := h
  obtain ⟨xs, n, _, hx, hl, hlen, hfl⟩ := DataW.trod_struct Tryz.underlying45 hf
  obtain ⟨y0, y1, y2, y3, y4, rfl⟩ := list5K hlen
  have g0 := hfl 0 _ rfl
  have g1 := hfl 1 _ rfl
  have g2 := hfl 2 _ rfl
  have g3 := hfl 3 _ rfl
  have g4 := hfl 4 _ rfl
  clear hfl hlen hl
  simp only [Prod.mk.injEq, List.map_cons, List.map_nil] at hx
  obtain ⟨rfl, _⟩ := hx
  simp [Value.cells, Tryz.kcellsI, Tryz.kcellsCs, Tryz.cells2, Tryz.cellsHp] at g0 g1 g2 g3 g4
  obtain ⟨z2, e2, _⟩ := DataW.trod_int Tryz.underlying2 g2
  obtain ⟨z4, e4, _⟩ := DataW.trod_int Tryz.underlying2 g4
  simp only [List.cons.injEq, and_true] at e2 e4
  subst e2 e4
  obtain ⟨hp, ⟨rfl, rfl, rfl, rfl, rfl⟩, r1, r2, r3, b1, b2, b3⟩ := open_heapK g0 (fun x hx => hsz x (by simp [DataW.weights, DataW.weightsEach, Tryz.underlying45, hx]))
  obtain ⟨lp, rp, bp⟩ := open_codes g1 (fun x hx => hsz x (by simp [DataW.weights, DataW.weightsEach, Tryz.underlying45, hx]))
  obtain ⟨lo, ro, bo⟩ := open_nums g3 (fun x hx => hsz x (by simp [DataW.weights, DataW.weightsEach, Tryz.underlying45, hx]))
  exact ⟨c0, c1, c7, c8, c10, ⟨hp, lp, z2, lo, z4⟩, rfl, r1, r2, r3, rp, ro, b1, b2, b3, by show lp.length ≤ _; omega, by show lo.length ≤ _; omega⟩

end Go.Proofs.YtgacacbncefeaaaGreat
