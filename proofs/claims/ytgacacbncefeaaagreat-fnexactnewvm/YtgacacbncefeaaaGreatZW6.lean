import Derived.Test.YtgacacbncefeaaaGreatZW5
import Derived.Test.YtgacacbncefeaaaGreatZW3
import Derived.Test.YtgacacbncefeaaaGreatZW1
import Derived.Test.YtgacacbncefeaaaGreatZW4
import Derived.Test.YtgacacbncefeaaaGreatZMFit
import Derived.Test.YtgacacbncefeaaaGreatZW2
import Derived.Test.YtgacacbncefeaaaGreatZQBox
import Derived.Test.YtgacacbncefeaaaGreatZMIAdd
/- szVm, toVm, eqVm of the laws. -/
namespace Go.Proofs.YtgacacbncefeaaaGreat
open Go.RowKit

/-- A machine's value reads as this. -/
def VR (w : World) (v : Value) (m : Mp) : Prop := ∃ v1 v2 v3 vp vo, v = .agg #[v1, v2, .int .i64 m.h.old, .int .i64 m.h.eden, .int .i64 m.h.surv, .bool m.h.flip, .int .i64 m.h.hash, v3, vp, .int .i64 m.pc, vo, .int .i64 m.st] ∧ IR w v1 m.h.words ∧ IR w v2 m.h.roots ∧ IR w v3 m.h.kept ∧ CR w vp m.prog ∧ IR w vo m.out
theorem VR.later {w w' : World} {v : Value} {m : Mp} (h : VR w v m) (hb : Below w.heap.size w w') : VR w' v m := by
  obtain ⟨v1, v2, v3, vp, vo, e, a, b, c, d, f⟩ := h
  exact ⟨v1, v2, v3, vp, vo, e, a.later hb, b.later hb, c.later hb, d.later hb, f.later hb⟩
/-- A machine whose rows are its own, apart, made since B. -/
structure VN (B : Nat) (w : World) (v : Value) (m : Mp) : Prop where
  ex : ∃ v1 v2 v3 vp vo, v = .agg #[v1, v2, .int .i64 m.h.old, .int .i64 m.h.eden, .int .i64 m.h.surv, .bool m.h.flip, .int .i64 m.h.hash, v3, vp, .int .i64 m.pc, vo, .int .i64 m.st] ∧ HN B w (.agg #[v1, v2, .int .i64 m.h.old, .int .i64 m.h.eden, .int .i64 m.h.surv, .bool m.h.flip, .int .i64 m.h.hash, v3]) m.h ∧ (CR w vp m.prog ∧ Disk.OS w 59 2 vp m.prog.length) ∧ (IR w vo m.out ∧ Disk.OS w 2 1 vo m.out.length) ∧
    (∀ b, Disk.rowOf vp m.prog.length = some b → B ≤ b ∧ Disk.rowOf v1 m.h.words.length ≠ some b ∧ Disk.rowOf v2 m.h.roots.length ≠ some b ∧ Disk.rowOf v3 m.h.kept.length ≠ some b ∧ Disk.rowOf vo m.out.length ≠ some b) ∧
    (∀ b, Disk.rowOf vo m.out.length = some b → B ≤ b ∧ Disk.rowOf v1 m.h.words.length ≠ some b ∧ Disk.rowOf v2 m.h.roots.length ≠ some b ∧ Disk.rowOf v3 m.h.kept.length ≠ some b)
theorem HN.irs {B : Nat} {w : World} {v1 v2 v3 : Value} {h : Hp} (k : HN B w (.agg #[v1, v2, .int .i64 h.old, .int .i64 h.eden, .int .i64 h.surv, .bool h.flip, .int .i64 h.hash, v3]) h) : (Disk.OS w 2 1 v1 h.words.length ∧ Disk.OS w 2 1 v2 h.roots.length ∧ Disk.OS w 2 1 v3 h.kept.length) ∧ (IR w v1 h.words ∧ IR w v2 h.roots ∧ IR w v3 h.kept) ∧
    ((∀ b, Disk.rowOf v1 h.words.length = some b → B ≤ b) ∧ (∀ b, Disk.rowOf v2 h.roots.length = some b → B ≤ b) ∧ (∀ b, Disk.rowOf v3 h.kept.length = some b → B ≤ b)) ∧
    (∀ b, Disk.rowOf v1 h.words.length = some b → Disk.rowOf v2 h.roots.length ≠ some b) ∧ (∀ b, Disk.rowOf v1 h.words.length = some b → Disk.rowOf v3 h.kept.length ≠ some b) ∧ (∀ b, Disk.rowOf v2 h.roots.length = some b → Disk.rowOf v3 h.kept.length ≠ some b) := by
  obtain ⟨u1, u2, u3, e, r⟩ := k.ex
  injection e with e
  simp only [Array.mk.injEq, List.cons.injEq, and_true, true_and] at e
  obtain ⟨rfl, rfl, rfl⟩ := e
  exact r
theorem HN.down {B C : Nat} {w : World} {v : Value} {h : Hp} (k : HN B w v h) (hC : C ≤ B) : HN C w v h := by
  obtain ⟨u1, u2, u3, e, a, b, ⟨c1, c2, c3⟩, d⟩ := k.ex
  exact ⟨u1, u2, u3, e, a, b, ⟨fun x hx => Nat.le_trans hC (c1 x hx), fun x hx => Nat.le_trans hC (c2 x hx), fun x hx => Nat.le_trans hC (c3 x hx)⟩, d⟩
theorem VN.vr {B : Nat} {w : World} {v : Value} {m : Mp} (k : VN B w v m) : VR w v m := by
  obtain ⟨v1, v2, v3, vp, vo, e, hh, ⟨hp, _⟩, ⟨ho, _⟩, _⟩ := k.ex
  obtain ⟨_, ⟨a, b, c⟩, _⟩ := hh.irs
  exact ⟨v1, v2, v3, vp, vo, e, a, b, c, hp, ho⟩
theorem VN.later {B : Nat} {w w' : World} {v : Value} {m : Mp} (k : VN B w v m) (hb : Below w.heap.size w w') : VN B w' v m := by
  obtain ⟨v1, v2, v3, vp, vo, e, hh, ⟨hp, hp2⟩, ⟨ho, ho2⟩, r⟩ := k.ex
  exact ⟨v1, v2, v3, vp, vo, e, hh.later hb, ⟨hp.later hb, hp2.later hb⟩, ⟨ho.later hb, ho2.later hb⟩, r⟩

theorem szHeapY_any (v1 v2 v3 : Value) (h : Hp) (w : World) (i1 : IR w v1 h.words) (i2 : IR w v2 h.roots) (i3 : IR w v3 h.kept) (h1 : h.words.length ≤ 1000000000000000) (h2 : h.roots.length ≤ 1000000000000000) (h3 : h.kept.length ≤ 1000000000000000) :
    Calls Tryz.prog 52 #[.agg #[v1, v2, .int .i64 h.old, .int .i64 h.eden, .int .i64 h.surv, .bool h.flip, .int .i64 h.hash, v3], .int .i64 1048576] w fun e w' => (∃ y : Int, e = .returned (.int .i64 y) ∧ Hid (0 ≤ y → y ≤ 1048576 ∧ h.words.length ≤ 1048576 ∧ h.roots.length ≤ 1048576 ∧ h.kept.length ≤ 1048576)) ∧ Below w.heap.size w w' := by
  have hb0 := bel_one w (.cells #[v1, v2, .int .i64 h.old, .int .i64 h.eden, .int .i64 h.surv, .bool h.flip, .int .i64 h.hash, v3] 43)
  have S1 := fun x => szInt64S_any v1 h.words x _ (i1.later hb0) h1
  have S2 := fun x => szInt64S_any v2 h.roots x _ (i2.later hb0) h2
  have S3 := fun x => szInt64S_any v3 h.kept x _ (i3.later hb0) h3
  clear i1 i2 i3
  go_enter Tryz.func52, Tryz.ntmps52
  go_wp2_with fail
  refine (S1 _ (by omega) (by omega)).mono ?_
  rintro e wq ⟨⟨y, rfl, q1⟩, hq⟩
  obtain rfl := hq.symm
  by_cases hy : y < 0
  · go_wp2
    go_ret
    exact ⟨⟨-1, rfl, (fun h => by omega)⟩, hb0⟩
  obtain ⟨p1, p2⟩ := q1.out (by omega)
  go_wp2_with fail
  refine (S2 _ (by omega) (by omega)).mono ?_
  rintro e wq ⟨⟨y2, rfl, q2⟩, hq⟩
  obtain rfl := hq.symm
  by_cases hy2 : y2 < 0
  · go_wp2
    go_ret
    exact ⟨⟨-1, rfl, (fun h => by omega)⟩, hb0⟩
  obtain ⟨p3, p4⟩ := q2.out (by omega)
  go_wp2_with fail
  refine (S3 _ (by omega) (by omega)).mono ?_
  rintro e wq ⟨⟨y3, rfl, q3⟩, hq⟩
  obtain rfl := hq.symm
  by_cases hy3 : y3 < 0
  · go_wp2
    go_ret
    exact ⟨⟨-1, rfl, (fun h => by omega)⟩, hb0⟩
  obtain ⟨p5, p6⟩ := q3.out (by omega)
  go_wp2
  go_ret
  exact ⟨⟨y3, rfl, (fun _ => ⟨by omega, by omega, by omega, by omega⟩)⟩, hb0⟩

def smM (m : Mp) (n : Nat) : Prop := m.h.words.length ≤ n ∧ m.h.roots.length ≤ n ∧ m.h.kept.length ≤ n ∧ m.prog.length ≤ n ∧ m.out.length ≤ n
set_option maxHeartbeats 800000 in
theorem szVm_any (v1 v2 v3 vp vo : Value) (m : Mp) (w : World) (i1 : IR w v1 m.h.words) (i2 : IR w v2 m.h.roots) (i3 : IR w v3 m.h.kept) (ip : CR w vp m.prog) (io : IR w vo m.out) (hs : smM m 1000000000000000) :
    Calls Tryz.prog 21 #[.agg #[v1, v2, .int .i64 m.h.old, .int .i64 m.h.eden, .int .i64 m.h.surv, .bool m.h.flip, .int .i64 m.h.hash, v3, vp, .int .i64 m.pc, vo, .int .i64 m.st], .int .i64 1048576] w fun e w' => (∃ y : Int, e = .returned (.int .i64 y) ∧ Hid (0 ≤ y → smM m 1048576)) ∧ Below w.heap.size w w' := by
  obtain ⟨s1, s2, s3, s4, s5⟩ := hs
  have hb0 := bel_one w (.cells #[v1, v2, .int .i64 m.h.old, .int .i64 m.h.eden, .int .i64 m.h.surv, .bool m.h.flip, .int .i64 m.h.hash, v3, vp, .int .i64 m.pc, vo, .int .i64 m.st] 45)
  have B0 : Bk (w.alloc (.cells #[v1, v2, .int .i64 m.h.old, .int .i64 m.h.eden, .int .i64 m.h.surv, .bool m.h.flip, .int .i64 m.h.hash, v3, vp, .int .i64 m.pc, vo, .int .i64 m.st] 45)) w.heap.size #[v1, v2, .int .i64 m.h.old, .int .i64 m.h.eden, .int .i64 m.h.surv, .bool m.h.flip, .int .i64 m.h.hash, v3, vp, .int .i64 m.pc, vo, .int .i64 m.st] 45 := Bk.new w _ _
  have SH := szHeapY_any v1 v2 v3 m.h _ (i1.later hb0) (i2.later hb0) (i3.later hb0) s1 s2 s3
  have x0 := B0.cell 0 (v1) rfl
  have x1 := B0.cell 1 (v2) rfl
  have x2 := B0.cell 2 (.int .i64 m.h.old) rfl
  have x3 := B0.cell 3 (.int .i64 m.h.eden) rfl
  have x4 := B0.cell 4 (.int .i64 m.h.surv) rfl
  have x5 := B0.cell 5 (.bool m.h.flip) rfl
  have x6 := B0.cell 6 (.int .i64 m.h.hash) rfl
  have x7 := B0.cell 7 (v3) rfl
  have x8 := B0.cell 8 (vp) rfl
  have x9 := B0.cell 9 (.int .i64 m.pc) rfl
  have x10 := B0.cell 10 (vo) rfl
  have x11 := B0.cell 11 (.int .i64 m.st) rfl
  unfold smM
  go_enter Tryz.func21, Tryz.ntmps21
  go_wp2_with fail
  refine SH.mono ?_
  rintro e w1 ⟨⟨y, rfl, q1⟩, hb1⟩
  have bw1 := bel_after hb0 hb1
  have B1 := B0.later hb1
  have x8 := B1.cell 8 vp rfl
  have x10 := B1.cell 10 vo rfl
  clear x0 x1 x2 x3 x4 x5 x6 x7 x9 x11 SH
  by_cases hy : y < 0
  · go_wp2
    go_ret
    exact ⟨⟨-1, rfl, (fun h => by omega)⟩, bw1⟩
  obtain ⟨p1, p2⟩ := q1.out (by omega)
  have SC := fun x a b => szCodeS_any vp m.prog x w1 (ip.later bw1) s4 a b
  go_wp2_with fail
  refine (SC _ (by omega) (by omega)).mono ?_
  rintro e w2 ⟨⟨y2, rfl, q2⟩, hb2⟩
  replace q2 : Hid (0 ≤ y2 → y2 = y - m.prog.length ∧ (m.prog.length : Int) ≤ y) := q2
  have bw2 := bel_after bw1 hb2
  have B2 := B1.later hb2
  have x10 := B2.cell 10 vo rfl
  clear SC x8
  by_cases hy2 : y2 < 0
  · go_wp2
    go_ret
    exact ⟨⟨-1, rfl, (fun h => by omega)⟩, bw2⟩
  obtain ⟨p3, p4⟩ := q2.out (by omega)
  have SI := fun x a b => szInt64S_any vo m.out x w2 (io.later bw2) s5 a b
  go_wp2_with fail
  refine (SI _ (by omega) (by omega)).mono ?_
  rintro e wq ⟨⟨y3, rfl, q3⟩, hq⟩
  obtain rfl := hq.symm
  by_cases hy3 : y3 < 0
  · go_wp2
    go_ret
    exact ⟨⟨-1, rfl, (fun h => by omega)⟩, bw2⟩
  obtain ⟨p5, p6⟩ := q3.out (by omega)
  clear SI
  go_wp2
  go_ret
  exact ⟨⟨y3, rfl, (fun _ => ⟨p2.1, p2.2.1, p2.2.2, by omega, by omega⟩)⟩, bw2⟩

set_option maxRecDepth 100000 in
set_option maxHeartbeats 1600000 in
theorem toVm_any (v1 v2 v3 vp vo : Value) (m : Mp) (w : World) (i1 : IR w v1 m.h.words) (i2 : IR w v2 m.h.roots) (i3 : IR w v3 m.h.kept) (ip : CR w vp m.prog) (io : IR w vo m.out) (hs : smM m 10000000) :
    Calls Tryz.prog 23 #[.agg #[v1, v2, .int .i64 m.h.old, .int .i64 m.h.eden, .int .i64 m.h.surv, .bool m.h.flip, .int .i64 m.h.hash, v3, vp, .int .i64 m.pc, vo, .int .i64 m.st]] w fun e w' => (∃ v, e = .returned v ∧ VN w.heap.size w' v m) ∧ Below w.heap.size w w' := by
  obtain ⟨s1, s2, s3, s4, s5⟩ := hs
  have hb0 : Below w.heap.size w (((w.alloc (.cells #[v1, v2, .int .i64 m.h.old, .int .i64 m.h.eden, .int .i64 m.h.surv, .bool m.h.flip, .int .i64 m.h.hash, v3, vp, .int .i64 m.pc, vo, .int .i64 m.st] 45)).alloc (.cells #[.slice none 0 0, .slice none 0 0, .int .i64 0, .int .i64 0, .int .i64 0, .bool false, .int .i64 0, .slice none 0 0, .slice none 0 0, .int .i64 0, .slice none 0 0, .int .i64 0] 30)).alloc (.cells #[.slice none 0 0, .slice none 0 0, .int .i64 0, .int .i64 0, .int .i64 0, .bool false, .int .i64 0, .slice none 0 0, .slice none 0 0, .int .i64 0, .slice none 0 0, .int .i64 0] 30)) := bel_after (bel_after (bel_one _ _) (bel_one _ _)) (bel_one _ _)
  have B0 : Bk (((w.alloc (.cells #[v1, v2, .int .i64 m.h.old, .int .i64 m.h.eden, .int .i64 m.h.surv, .bool m.h.flip, .int .i64 m.h.hash, v3, vp, .int .i64 m.pc, vo, .int .i64 m.st] 45)).alloc (.cells #[.slice none 0 0, .slice none 0 0, .int .i64 0, .int .i64 0, .int .i64 0, .bool false, .int .i64 0, .slice none 0 0, .slice none 0 0, .int .i64 0, .slice none 0 0, .int .i64 0] 30)).alloc (.cells #[.slice none 0 0, .slice none 0 0, .int .i64 0, .int .i64 0, .int .i64 0, .bool false, .int .i64 0, .slice none 0 0, .slice none 0 0, .int .i64 0, .slice none 0 0, .int .i64 0] 30)) w.heap.size #[v1, v2, .int .i64 m.h.old, .int .i64 m.h.eden, .int .i64 m.h.surv, .bool m.h.flip, .int .i64 m.h.hash, v3, vp, .int .i64 m.pc, vo, .int .i64 m.st] 45 := ((Bk.new w #[v1, v2, .int .i64 m.h.old, .int .i64 m.h.eden, .int .i64 m.h.surv, .bool m.h.flip, .int .i64 m.h.hash, v3, vp, .int .i64 m.pc, vo, .int .i64 m.st] 45).alloc _).alloc _
  have R0 : Bk (((w.alloc (.cells #[v1, v2, .int .i64 m.h.old, .int .i64 m.h.eden, .int .i64 m.h.surv, .bool m.h.flip, .int .i64 m.h.hash, v3, vp, .int .i64 m.pc, vo, .int .i64 m.st] 45)).alloc (.cells #[.slice none 0 0, .slice none 0 0, .int .i64 0, .int .i64 0, .int .i64 0, .bool false, .int .i64 0, .slice none 0 0, .slice none 0 0, .int .i64 0, .slice none 0 0, .int .i64 0] 30)).alloc (.cells #[.slice none 0 0, .slice none 0 0, .int .i64 0, .int .i64 0, .int .i64 0, .bool false, .int .i64 0, .slice none 0 0, .slice none 0 0, .int .i64 0, .slice none 0 0, .int .i64 0] 30)) (w.heap.size + 1) #[.slice none 0 0, .slice none 0 0, .int .i64 0, .int .i64 0, .int .i64 0, .bool false, .int .i64 0, .slice none 0 0, .slice none 0 0, .int .i64 0, .slice none 0 0, .int .i64 0] 30 := by
    have q := (Bk.new (w.alloc (.cells #[v1, v2, .int .i64 m.h.old, .int .i64 m.h.eden, .int .i64 m.h.surv, .bool m.h.flip, .int .i64 m.h.hash, v3, vp, .int .i64 m.pc, vo, .int .i64 m.st] 45)) #[.slice none 0 0, .slice none 0 0, .int .i64 0, .int .i64 0, .int .i64 0, .bool false, .int .i64 0, .slice none 0 0, .slice none 0 0, .int .i64 0, .slice none 0 0, .int .i64 0] 30).alloc (.cells #[.slice none 0 0, .slice none 0 0, .int .i64 0, .int .i64 0, .int .i64 0, .bool false, .int .i64 0, .slice none 0 0, .slice none 0 0, .int .i64 0, .slice none 0 0, .int .i64 0] 30)
    rw [World.size_alloc] at q
    exact q
  have O0 : Bk (((w.alloc (.cells #[v1, v2, .int .i64 m.h.old, .int .i64 m.h.eden, .int .i64 m.h.surv, .bool m.h.flip, .int .i64 m.h.hash, v3, vp, .int .i64 m.pc, vo, .int .i64 m.st] 45)).alloc (.cells #[.slice none 0 0, .slice none 0 0, .int .i64 0, .int .i64 0, .int .i64 0, .bool false, .int .i64 0, .slice none 0 0, .slice none 0 0, .int .i64 0, .slice none 0 0, .int .i64 0] 30)).alloc (.cells #[.slice none 0 0, .slice none 0 0, .int .i64 0, .int .i64 0, .int .i64 0, .bool false, .int .i64 0, .slice none 0 0, .slice none 0 0, .int .i64 0, .slice none 0 0, .int .i64 0] 30)) (w.heap.size + 1 + 1) #[.slice none 0 0, .slice none 0 0, .int .i64 0, .int .i64 0, .int .i64 0, .bool false, .int .i64 0, .slice none 0 0, .slice none 0 0, .int .i64 0, .slice none 0 0, .int .i64 0] 30 := by
    have q := Bk.new ((w.alloc (.cells #[v1, v2, .int .i64 m.h.old, .int .i64 m.h.eden, .int .i64 m.h.surv, .bool m.h.flip, .int .i64 m.h.hash, v3, vp, .int .i64 m.pc, vo, .int .i64 m.st] 45)).alloc (.cells #[.slice none 0 0, .slice none 0 0, .int .i64 0, .int .i64 0, .int .i64 0, .bool false, .int .i64 0, .slice none 0 0, .slice none 0 0, .int .i64 0, .slice none 0 0, .int .i64 0] 30)) #[.slice none 0 0, .slice none 0 0, .int .i64 0, .int .i64 0, .int .i64 0, .bool false, .int .i64 0, .slice none 0 0, .slice none 0 0, .int .i64 0, .slice none 0 0, .int .i64 0] 30
    rw [World.size_alloc, World.size_alloc] at q
    exact q
  have TOH := toHeap_any v1 v2 v3 m.h _ (i1.later hb0) (i2.later hb0) (i3.later hb0) (by omega) (by omega) (by omega)
  have x0 := B0.cell 0 (v1) rfl
  have x1 := B0.cell 1 (v2) rfl
  have x2 := B0.cell 2 (.int .i64 m.h.old) rfl
  have x3 := B0.cell 3 (.int .i64 m.h.eden) rfl
  have x4 := B0.cell 4 (.int .i64 m.h.surv) rfl
  have x5 := B0.cell 5 (.bool m.h.flip) rfl
  have x6 := B0.cell 6 (.int .i64 m.h.hash) rfl
  have x7 := B0.cell 7 (v3) rfl
  have x8 := B0.cell 8 (vp) rfl
  have x9 := B0.cell 9 (.int .i64 m.pc) rfl
  have x10 := B0.cell 10 (vo) rfl
  have x11 := B0.cell 11 (.int .i64 m.st) rfl
  have ltO := O0.lt
  go_enter Tryz.func23, Tryz.ntmps23
  go_wp2_with fail
  refine TOH.mono ?_
  clear x0 x1 x2 x3 x4 x5 x6 x7 x8 x9 x10 x11 TOH
  rintro e w1 ⟨⟨ph, rfl, hph⟩, hb1⟩
  have bw1 := bel_after hb0 hb1
  have B1 := B0.later hb1
  have R1 := R0.later hb1
  have O1 := O0.later hb1
  have lo1 : w.heap.size + 3 ≤ (((w.alloc (.cells #[v1, v2, .int .i64 m.h.old, .int .i64 m.h.eden, .int .i64 m.h.surv, .bool m.h.flip, .int .i64 m.h.hash, v3, vp, .int .i64 m.pc, vo, .int .i64 m.st] 45)).alloc (.cells #[.slice none 0 0, .slice none 0 0, .int .i64 0, .int .i64 0, .int .i64 0, .bool false, .int .i64 0, .slice none 0 0, .slice none 0 0, .int .i64 0, .slice none 0 0, .int .i64 0] 30)).alloc (.cells #[.slice none 0 0, .slice none 0 0, .int .i64 0, .int .i64 0, .int .i64 0, .bool false, .int .i64 0, .slice none 0 0, .slice none 0 0, .int .i64 0, .slice none 0 0, .int .i64 0] 30)).heap.size := by simp
  have le1 := hb1.size
  obtain ⟨p1, p2, p3, rfl, HNs⟩ := hph.ex
  clear B0 R0 O0 i1 i2 i3 HNs
  obtain ⟨po1, pc1, rfl, -⟩ := IRs hph.irs.2.1.1
  obtain ⟨po2, pc2, rfl, -⟩ := IRs hph.irs.2.1.2.1
  obtain ⟨po3, pc3, rfl, -⟩ := IRs hph.irs.2.1.2.2
  obtain ⟨p1, ep1⟩ : ∃ x, x = Value.slice po1 m.h.words.length pc1 := ⟨_, rfl⟩
  obtain ⟨p2, ep2⟩ : ∃ x, x = Value.slice po2 m.h.roots.length pc2 := ⟨_, rfl⟩
  obtain ⟨p3, ep3⟩ : ∃ x, x = Value.slice po3 m.h.kept.length pc3 := ⟨_, rfl⟩
  have OKH : (#[p1, p2, .int .i64 m.h.old, .int .i64 m.h.eden, .int .i64 m.h.surv, .bool m.h.flip, .int .i64 m.h.hash, p3] : Array Value).all (·.oneCell') = true := by rw [ep1, ep2, ep3]; simp [Value.oneCell']
  have OKV : ∀ gp go co, (#[p1, p2, .int .i64 m.h.old, .int .i64 m.h.eden, .int .i64 m.h.surv, .bool m.h.flip, .int .i64 m.h.hash, p3, .slice (some ⟨gp, 0, none⟩) m.prog.length m.prog.length, .int .i64 m.pc, .slice (some ⟨go, 0, none⟩) m.out.length co, .int .i64 m.st] : Array Value).all (·.oneCell') = true := fun gp go co => by rw [ep1, ep2, ep3]; simp [Value.oneCell']
  rw [← ep1, ← ep2, ← ep3] at hph ⊢
  clear ep1 ep2 ep3
  obtain ⟨w2, run2, O2, g2, z2⟩ := O1.part 28 0 #[p1, p2, .int .i64 m.h.old, .int .i64 m.h.eden, .int .i64 m.h.surv, .bool m.h.flip, .int .i64 m.h.hash, p3] #[p1, p2, .int .i64 m.h.old, .int .i64 m.h.eden, .int .i64 m.h.surv, .bool m.h.flip, .int .i64 m.h.hash, p3, .slice none 0 0, .int .i64 0, .slice none 0 0, .int .i64 0] (by simp) (by kernel_rfl) OKH rfl
  have B2 := B1.off g2 (by intro e; injection e with e; omega)
  have R2 := R1.off g2 (by intro e; injection e with e; omega)
  have bw2 : Below w.heap.size w w2 := Below.grown bw1 g2 bw1.size (fun q hq => by cases hq; omega)
  have hph2 : HN (w.heap.size + 3) w2 (.agg #[p1, p2, .int .i64 m.h.old, .int .i64 m.h.eden, .int .i64 m.h.surv, .bool m.h.flip, .int .i64 m.h.hash, p3]) m.h := by
    exact (hph.keep (w' := w2) (fun b h1 h2 => g2.block b h2 (by intro e; injection e with e; omega))).down lo1
  have lo2 : ∀ b, (Disk.rowOf p1 m.h.words.length = some b ∨ Disk.rowOf p2 m.h.roots.length = some b ∨ Disk.rowOf p3 m.h.kept.length = some b) → b < w2.heap.size := fun b hb => by
    obtain ⟨⟨o1, o2, o3⟩, _⟩ := hph2.irs
    rcases hb with hb | hb | hb
    · exact o1.row b hb
    · exact o2.row b hb
    · exact o3.row b hb
  have TOC := toCodes_any vp m.prog w2 (ip.later bw2) (by omega)
  have x8 := B2.cell 8 vp rfl
  clear hph B1 R1 O1 hb1
  go_wp2_with (refine wp_storeK run2 rfl _ _ rfl rfl rfl rfl ?_)
  refine TOC.mono ?_
  clear TOC x8
  rintro e w3 ⟨⟨rfl, rc3⟩, hb3, lt3⟩
  obtain ⟨gp, egp⟩ : ∃ x, x = w2.heap.size := ⟨_, rfl⟩
  rw [← egp] at rc3 lt3 ⊢
  have B3 := B2.later hb3
  have R3 := R2.later hb3
  have O3 := O2.later hb3
  have bw3 := bel_after bw2 hb3
  have hph3 := hph2.later hb3
  have HL3 : ∀ W, (∀ b, w.heap.size + 3 ≤ b → b < w3.heap.size → W.heap[b]? = w3.heap[b]?) → HN (w.heap.size + 3) W (.agg #[p1, p2, .int .i64 m.h.old, .int .i64 m.h.eden, .int .i64 m.h.surv, .bool m.h.flip, .int .i64 m.h.hash, p3]) m.h := fun W hk => hph3.keep hk
  have hgp : w.heap.size + 3 ≤ gp := by omega
  have lo2p : ∀ b, (Disk.rowOf p1 m.h.words.length = some b ∨ Disk.rowOf p2 m.h.roots.length = some b ∨ Disk.rowOf p3 m.h.kept.length = some b) → b < gp := fun b hb => by have := lo2 b hb; omega
  clear egp z2 lo2
  have cO3 := O3.cell 8 (.slice none 0 0) rfl
  have fO3 := O3.frozen 8
  have O4 := O3.setc 8 (.slice (some ⟨gp, 0, none⟩) m.prog.length m.prog.length) #[p1, p2, .int .i64 m.h.old, .int .i64 m.h.eden, .int .i64 m.h.surv, .bool m.h.flip, .int .i64 m.h.hash, p3, .slice (some ⟨gp, 0, none⟩) m.prog.length m.prog.length, .int .i64 0, .slice none 0 0, .int .i64 0] rfl
  have g4 := Disk.grown_set w3 (w.heap.size + 1 + 1) 8 (.slice (some ⟨gp, 0, none⟩) m.prog.length m.prog.length)
  have B4 := B3.off g4 (by intro e; injection e with e; omega)
  have R4 := R3.off g4 (by intro e; injection e with e; omega)
  have bw4 : Below w.heap.size w (w3.setCell ⟨w.heap.size + 1 + 1, 8, none⟩ (.slice (some ⟨gp, 0, none⟩) m.prog.length m.prog.length)) := Below.grown bw3 g4 bw3.size (fun q hq => by cases hq; omega)
  have hph4 : HN (w.heap.size + 3) (w3.setCell ⟨w.heap.size + 1 + 1, 8, none⟩ (.slice (some ⟨gp, 0, none⟩) m.prog.length m.prog.length)) (.agg #[p1, p2, .int .i64 m.h.old, .int .i64 m.h.eden, .int .i64 m.h.surv, .bool m.h.flip, .int .i64 m.h.hash, p3]) m.h := HL3 _ (fun b h1 h2 => g4.block b h2 (by intro e; injection e with e; omega))
  have rc4 := rc3.block (g4.block gp rc3.lt (by intro e; injection e with e; omega))
  have cB4 := B4.cell 9 (.int .i64 m.pc) rfl
  have cO4 := O4.cell 9 (.int .i64 0) rfl
  have fO4 := O4.frozen 9
  have O5 := O4.setc 9 (.int .i64 m.pc) #[p1, p2, .int .i64 m.h.old, .int .i64 m.h.eden, .int .i64 m.h.surv, .bool m.h.flip, .int .i64 m.h.hash, p3, .slice (some ⟨gp, 0, none⟩) m.prog.length m.prog.length, .int .i64 m.pc, .slice none 0 0, .int .i64 0] rfl
  have g5 := Disk.grown_set (w3.setCell ⟨w.heap.size + 1 + 1, 8, none⟩ (.slice (some ⟨gp, 0, none⟩) m.prog.length m.prog.length)) (w.heap.size + 1 + 1) 9 (.int .i64 m.pc)
  have sz4 : (w3.setCell ⟨w.heap.size + 1 + 1, 8, none⟩ (.slice (some ⟨gp, 0, none⟩) m.prog.length m.prog.length)).heap.size = w3.heap.size := by simp
  obtain ⟨w5, e5⟩ : ∃ x, x = (w3.setCell ⟨w.heap.size + 1 + 1, 8, none⟩ (.slice (some ⟨gp, 0, none⟩) m.prog.length m.prog.length)).setCell ⟨w.heap.size + 1 + 1, 9, none⟩ (.int .i64 m.pc) := ⟨_, rfl⟩
  rw [← e5] at g5 O5
  have sz5 : w5.heap.size = w3.heap.size := by rw [e5]; simp
  have B5 := B4.off g5 (by intro e; injection e with e; omega)
  have R5 := R4.off g5 (by intro e; injection e with e; omega)
  have bw5 : Below w.heap.size w w5 := Below.grown bw4 g5 bw4.size (fun q hq => by cases hq; omega)
  have g45 := Disk.grown_trans g4 g5
  have hph5 : HN (w.heap.size + 3) w5 (.agg #[p1, p2, .int .i64 m.h.old, .int .i64 m.h.eden, .int .i64 m.h.surv, .bool m.h.flip, .int .i64 m.h.hash, p3]) m.h := HL3 _ (fun b h1 h2 => g45.block b h2 (by intro e; injection e with e; omega))
  have rc5 := rc4.block (g5.block gp rc4.lt (by intro e; injection e with e; omega))
  have TOI := toInts_any vo m.out w5 (io.later bw5) (by omega)
  have x10 := B5.cell 10 vo rfl
  rw [e5] at TOI x10
  clear O4 B4 R4 bw4 hph4 rc4 g4 g5 g45 hph3 rc3
  go_wp2_with fail
  refine TOI.mono ?_
  clear TOI x10 cO3 fO3 cB4 cO4 fO4
  rw [← e5]
  clear e5
  rintro e w6 ⟨⟨co, rfl, io6, os6⟩, hb6, lt6⟩
  obtain ⟨go, ego⟩ : ∃ x, x = w5.heap.size := ⟨_, rfl⟩
  rw [← ego] at io6 os6 lt6 ⊢
  have B6 := B5.later hb6
  have R6 := R5.later hb6
  have O6 := O5.later hb6
  have bw6 := bel_after bw5 hb6
  have hph6 := hph5.later hb6
  have rc6 := rc5.later hb6
  have lgg : gp < go := by omega
  have lo6 : ∀ b, (Disk.rowOf p1 m.h.words.length = some b ∨ Disk.rowOf p2 m.h.roots.length = some b ∨ Disk.rowOf p3 m.h.kept.length = some b) → b < gp := fun b hb => by have := lo2p b hb; omega
  clear lo2p ego
  have cO6 := O6.cell 10 (.slice none 0 0) rfl
  have fO6 := O6.frozen 10
  have O7 := O6.setc 10 (.slice (some ⟨go, 0, none⟩) m.out.length co) #[p1, p2, .int .i64 m.h.old, .int .i64 m.h.eden, .int .i64 m.h.surv, .bool m.h.flip, .int .i64 m.h.hash, p3, .slice (some ⟨gp, 0, none⟩) m.prog.length m.prog.length, .int .i64 m.pc, .slice (some ⟨go, 0, none⟩) m.out.length co, .int .i64 0] rfl
  have g7 := Disk.grown_set w6 (w.heap.size + 1 + 1) 10 (.slice (some ⟨go, 0, none⟩) m.out.length co)
  have B7 := B6.off g7 (by intro e; injection e with e; omega)
  have cB7 := B7.cell 11 (.int .i64 m.st) rfl
  have cO7 := O7.cell 11 (.int .i64 0) rfl
  have fO7 := O7.frozen 11
  have O8 := O7.setc 11 (.int .i64 m.st) #[p1, p2, .int .i64 m.h.old, .int .i64 m.h.eden, .int .i64 m.h.surv, .bool m.h.flip, .int .i64 m.h.hash, p3, .slice (some ⟨gp, 0, none⟩) m.prog.length m.prog.length, .int .i64 m.pc, .slice (some ⟨go, 0, none⟩) m.out.length co, .int .i64 m.st] rfl
  have g8 := Disk.grown_set (w6.setCell ⟨w.heap.size + 1 + 1, 10, none⟩ (.slice (some ⟨go, 0, none⟩) m.out.length co)) (w.heap.size + 1 + 1) 11 (.int .i64 m.st)
  have g78 := Disk.grown_trans g7 g8
  obtain ⟨w8, e8⟩ : ∃ x, x = (w6.setCell ⟨w.heap.size + 1 + 1, 10, none⟩ (.slice (some ⟨go, 0, none⟩) m.out.length co)).setCell ⟨w.heap.size + 1 + 1, 11, none⟩ (.int .i64 m.st) := ⟨_, rfl⟩
  have sz8 : w8.heap.size = w6.heap.size := by rw [e8]; simp
  rw [← e8] at g78 O8
  have R8 := R6.off g78 (by intro e; injection e with e; omega)
  have bw8 : Below w.heap.size w w8 := Below.grown bw6 g78 bw6.size (fun q hq => by cases hq; omega)
  obtain ⟨w9, run9, R9, g9, z9⟩ := R8.store 30 #[p1, p2, .int .i64 m.h.old, .int .i64 m.h.eden, .int .i64 m.h.surv, .bool m.h.flip, .int .i64 m.h.hash, p3, .slice (some ⟨gp, 0, none⟩) m.prog.length m.prog.length, .int .i64 m.pc, .slice (some ⟨go, 0, none⟩) m.out.length co, .int .i64 m.st] (by simp) (by kernel_rfl) (OKV gp go co)
  have HG : ∀ b, b < w6.heap.size → b ≠ w.heap.size + 1 → b ≠ w.heap.size + 1 + 1 → w9.heap[b]? = w6.heap[b]? := fun b h1 h2 h3 => (g9.block b (by omega) (by intro e; cases e; exact h2 rfl)).trans (g78.block b h1 (by intro e; cases e; exact h3 rfl))
  have hph9 : HN (w.heap.size + 3) w9 (.agg #[p1, p2, .int .i64 m.h.old, .int .i64 m.h.eden, .int .i64 m.h.surv, .bool m.h.flip, .int .i64 m.h.hash, p3]) m.h := hph6.keep (fun b h1 h2 => HG b h2 (by omega) (by omega))
  have rc9 := rc6.block (HG gp rc6.lt (by omega) (by omega))
  have io9 := io6.keepR (B := go) (S := go + 1) (fun b h1 h2 => HG b (by omega) (by omega) (by omega)) (fun b hb => by have := rowof hb; omega)
  have os9 := OS.keepC os6 (B := go) (S := go + 1) (fun b h1 h2 => HG b (by omega) (by omega) (by omega)) (fun b hb => by have := rowof hb; omega)
  have bw9 : Below w.heap.size w w9 := Below.grown bw8 g9 bw8.size (fun q hq => by cases hq; omega)
  have k := fun i v h => O8.cell i v h
  have k0 := k 0 (p1) rfl
  have k1 := k 1 (p2) rfl
  have k2 := k 2 (.int .i64 m.h.old) rfl
  have k3 := k 3 (.int .i64 m.h.eden) rfl
  have k4 := k 4 (.int .i64 m.h.surv) rfl
  have k5 := k 5 (.bool m.h.flip) rfl
  have k6 := k 6 (.int .i64 m.h.hash) rfl
  have k7 := k 7 (p3) rfl
  have k8 := k 8 (.slice (some ⟨gp, 0, none⟩) m.prog.length m.prog.length) rfl
  have k9 := k 9 (.int .i64 m.pc) rfl
  have k10 := k 10 (.slice (some ⟨go, 0, none⟩) m.out.length co) rfl
  have k11 := k 11 (.int .i64 m.st) rfl
  rw [e8] at k0 k1 k2 k3 k4 k5 k6 k7 k8 k9 k10 k11
  rw [e8] at run9
  have VNK : VN w.heap.size w9 (.agg #[p1, p2, .int .i64 m.h.old, .int .i64 m.h.eden, .int .i64 m.h.surv, .bool m.h.flip, .int .i64 m.h.hash, p3, .slice (some ⟨gp, 0, none⟩) m.prog.length m.prog.length, .int .i64 m.pc, .slice (some ⟨go, 0, none⟩) m.out.length co, .int .i64 m.st]) m := by
    refine ⟨⟨p1, p2, p3, _, _, rfl, hph9.down (by omega), ⟨rc9.cr (Nat.le_refl _), rc9.os⟩, ⟨io9, os9⟩, fun b hb => ?_, fun b hb => ?_⟩⟩
    · obtain rfl := rowof hb
      exact ⟨by omega, fun e => by have := lo6 _ (.inl e); omega, fun e => by have := lo6 _ (.inr (.inl e)); omega, fun e => by have := lo6 _ (.inr (.inr e)); omega, fun e => by have := rowof e; omega⟩
    · obtain rfl := rowof hb
      exact ⟨by omega, fun e => by have := lo6 _ (.inl e); omega, fun e => by have := lo6 _ (.inr (.inl e)); omega, fun e => by have := lo6 _ (.inr (.inr e)); omega⟩
  clear O7 B7 R8 bw8 O8 k g7 g8 g78 HG hph9 rc9 io9 os9
  go_wp2_with (refine wp_storeK run9 rfl _ _ rfl rfl rfl rfl ?_)
  have r0 := R9.cell 0 (p1) rfl
  have r1 := R9.cell 1 (p2) rfl
  have r2 := R9.cell 2 (.int .i64 m.h.old) rfl
  have r3 := R9.cell 3 (.int .i64 m.h.eden) rfl
  have r4 := R9.cell 4 (.int .i64 m.h.surv) rfl
  have r5 := R9.cell 5 (.bool m.h.flip) rfl
  have r6 := R9.cell 6 (.int .i64 m.h.hash) rfl
  have r7 := R9.cell 7 (p3) rfl
  have r8 := R9.cell 8 (.slice (some ⟨gp, 0, none⟩) m.prog.length m.prog.length) rfl
  have r9 := R9.cell 9 (.int .i64 m.pc) rfl
  have r10 := R9.cell 10 (.slice (some ⟨go, 0, none⟩) m.out.length co) rfl
  have r11 := R9.cell 11 (.int .i64 m.st) rfl
  exact bodyPost_ret (v := .agg #[p1, p2, .int .i64 m.h.old, .int .i64 m.h.eden, .int .i64 m.h.surv, .bool m.h.flip, .int .i64 m.h.hash, p3, .slice (some ⟨gp, 0, none⟩) m.prog.length m.prog.length, .int .i64 m.pc, .slice (some ⟨go, 0, none⟩) m.out.length co, .int .i64 m.st]) (by simp [results, Tryz.results23, go_sem, r0, r1, r2, r3, r4, r5, r6, r7, r8, r9, r10, r11]) rfl ⟨⟨_, rfl, VNK⟩, bw9⟩

end Go.Proofs.YtgacacbncefeaaaGreat

/- One of two operations of a region comes up. -/
namespace Go.Proofs.YtgacacbncefeaaaGreat
open Go.RowKit

section
variable {P : Program} {md : Region.Mode} {ops : Array Oper} {Q : Exit → Act → World → Prop} {R : Act → World → Prop} {S : World → Prop} {z : Nat}
/-- One of two operations comes up. -/
theorem z_or {i j fuel : Nat} {listed : Array Bool} {a : Act} {w : World} (hr : Region.ready md ops listed = [i, j])
    (h1 : wpOp P ops Q i (fun a' w' => (i = z ∨ S w') ∧ Disk.wpAnyZ P md ops Q z S fuel (listed.setIfInBounds i true) a' w') a w)
    (h2 : wpOp P ops Q j (fun a' w' => (j = z ∨ S w') ∧ Disk.wpAnyZ P md ops Q z S fuel (listed.setIfInBounds j true) a' w') a w) : Disk.wpAnyZ P md ops Q z S (fuel + 1) listed a w := by
  refine ⟨fun h0 => (by rw [hr] at h0; cases h0), fun k hk => ?_⟩
  rw [hr] at hk
  simp at hk
  rcases hk with rfl | rfl
  · exact h1
  · exact h2
theorem o_run (i d : Nat) {oi : Oper} {v : Value} {fuel : Nat} {listed : Array Bool} {T : Array Value} {D : List Deferred} {w w' : World} (hi : ops[i]? = some oi) (hd : oi.dst = some d)
    (hw : Region.wanted oi (yielded ops T) = true) (hy : (execOp (Act.eval ⟨T, D⟩) oi).run P w = .ok (.value v) w') (hS : i = z ∨ S w')
    (h : Disk.wpAnyZ P md ops (Disk.Ends R) z S fuel (listed.setIfInBounds i true) ⟨T.setIfInBounds d v, D⟩ w') : wpOp P ops (Disk.Ends R) i (fun a' w' => (i = z ∨ S w') ∧ Disk.wpAnyZ P md ops (Disk.Ends R) z S fuel (listed.setIfInBounds i true) a' w') ⟨T, D⟩ w := by
  refine Disk.wpOp_of hi hw ?_
  unfold Oper.wp
  rw [hy]
  refine ⟨hS, ?_⟩
  rw [hd]
  exact h
theorem o_call (i d : Nat) {oi : Oper} {f : FuncId} {args : Array Value} {fuel : Nat} {listed : Array Bool} {T : Array Value} {D : List Deferred} {w w0 : World} (hi : ops[i]? = some oi) (hd : oi.dst = some d)
    (hw : Region.wanted oi (yielded ops T) = true) (hy : (execOp (Act.eval ⟨T, D⟩) oi).run P w = .ok (.enter f args) w0)
    (h : Calls P f args w0 fun e w' => ∃ v, e = .returned v ∧ (i = z ∨ S w') ∧ Disk.wpAnyZ P md ops (Disk.Ends R) z S fuel (listed.setIfInBounds i true) ⟨T.setIfInBounds d v, D⟩ w') : wpOp P ops (Disk.Ends R) i (fun a' w' => (i = z ∨ S w') ∧ Disk.wpAnyZ P md ops (Disk.Ends R) z S fuel (listed.setIfInBounds i true) a' w') ⟨T, D⟩ w := by
  refine Disk.wpOp_of hi hw ?_
  unfold Oper.wp
  rw [hy]
  refine h.mono ?_
  rintro e w' ⟨v, rfl, hS, h⟩
  refine ⟨hS, ?_⟩
  rw [hd]
  exact h
end

end Go.Proofs.YtgacacbncefeaaaGreat

/- machineOf, VmOk, Result of the program. -/
namespace Go.Proofs.YtgacacbncefeaaaGreat
open Go.RowKit

theorem RC.of_cells {w : World} {g : Nat} {l : List Cd} {cs : Array Value} (hg : w.heap[g]? = some (.cells cs 59 (0, 0))) (hs : cs.size = l.length * 2) (hc : ∀ c, c < l.length * 2 → cs[c]? = some (kcell l c)) : RC w g l :=
  ⟨cs, hg, hs, fun c h => hc c h⟩
theorem kcells_get (l : List Cd) (c : Nat) (h : c < l.length * 2) : ((List.range (l.length * 2)).map (kcell l))[c]? = some (kcell l c) := by simp [h]

/-- copy of Codes into a new row as long. -/
theorem copy_codes {ops : Array Oper} {rest : List Oper} {o : Oper} {a : Act} {Q : Exit → Act → World → Prop} (w : World) (hgd : o.guard = none) (d s : Operand)
    (ho : o.op = .call { callee := .builtin .copy, args := #[d, s], argTypes := #[24, 24] })
    (l : List Cd) (g : Nat) (cur : Array Value) (hg : w.heap[g]? = some (.cells cur 59 (0, 0))) (hcur : cur.size = l.length * 2) (dCap : Nat) (hd : a.eval d = .slice (some ⟨g, 0, none⟩) l.length dCap)
    (sp : Option Addr) (sCap : Nat) (hs : a.eval s = .slice sp l.length sCap) (hsv : CR w (.slice sp l.length sCap) l)
    (h : ∀ w', RC w' g l → w.grownBy w' (some g) → wpList Tryz.prog ops Q rest (a.put o.dst (goInt l.length)) w') : wpList Tryz.prog ops Q (o :: rest) a w := by
  have hsz : (Tryz.prog.info? 59).map (·.size) = some 2 := by kernel_rfl
  obtain ⟨x, cp, e1, _, hc⟩ := hsv
  simp only [Value.slice.injEq, true_and] at e1
  obtain ⟨rfl, rfl⟩ := e1
  by_cases h0 : l.length = 0
  · have hrun := run_copy_none2 (P := Tryz.prog) w 24 24 o.type 59 (some ⟨g, 0, none⟩) sp l.length dCap sCap Tryz.underCK hsz h0
    refine wpList_plain hgd fun K hK => ?_
    unfold Oper.wp
    rw [h0] at hs hd hrun
    simp [execOp, ho, resolve, invoke, builtin, hd, hs, hrun, Result.andThen]
    refine hK _ _ ?_
    have q := h w (RC.of_cells hg hcur (fun c hcx => absurd hcx (by omega))) ⟨rfl, rfl, rfl, Nat.le_refl _, fun _ _ _ => rfl⟩
    rw [h0] at q
    exact q
  · obtain ⟨b, q, rfl, _, _⟩ := hc 0 (by omega)
    have hrun := run_copy_row2 (P := Tryz.prog) w 24 24 o.type 59 g 0 l.length dCap ⟨b, q, none⟩ l.length sCap cur 59 ((List.range (l.length * 2)).map (kcell l)) Tryz.underCK hsz hg (by simp) (fun j v hj => by
      have hj2 : j < l.length * 2 := by
        rcases Nat.lt_or_ge j (l.length * 2) with k | k
        · exact k
        · rw [List.getElem?_eq_none (by simp; omega)] at hj; cases hj
      rw [kcells_get l j hj2] at hj
      simp only [Option.some.injEq] at hj
      subst hj
      obtain ⟨b', q', e2, hx, hy⟩ := hc (j / 2) (by omega)
      simp only [Option.some.injEq, Addr.mk.injEq, and_true] at e2
      obtain ⟨rfl, rfl⟩ := e2
      have ad : (⟨b, q, none⟩ : Addr).add j = ⟨b, q + j, none⟩ := by
        unfold Addr.add
        split
        · subst j; rfl
        · rfl
      rw [ad]
      unfold kcell
      split
      · rw [← hx, show q + j / 2 * 2 = q + j from by omega]
      · rw [← hy, show q + j / 2 * 2 + 1 = q + j from by omega]) (by simp [hcur]) (fun v hv => by
      obtain ⟨z, _, rfl⟩ := List.mem_map.1 hv
      rfl)
    refine wpList_plain hgd fun K hK => ?_
    rw [show l.length.min l.length = l.length from Nat.min_self _] at hrun
    unfold Oper.wp
    simp [execOp, ho, resolve, invoke, builtin, hd, hs, hrun, Result.andThen]
    refine hK _ _ (h _ (RC.of_cells (setRow_heap w g cur _ _ _ hg) ?_ ?_) (grown_setRow w g _))
    · simp [hcur]
    · intro c hcx
      simp [hcur, hcx]

set_option maxHeartbeats 800000 in
theorem copyCodes_any (v : Value) (l : List Cd) (w : World) (hv : CR w v l) (h1 : l.length ≤ 1000000000000) :
    Calls Tryz.prog 38 #[v] w fun x w' => (x = .returned (.slice (some ⟨w.heap.size, 0, none⟩) l.length l.length) ∧ RC w' w.heap.size l ∧ w.heap.size < w'.heap.size) ∧ Below w.heap.size w w' := by
  obtain ⟨ao, cap, rfl, hle, hc⟩ := id hv
  have hmk := makeC l.length h1
  have hb0 := bel_one w (.cells (madeCells #[.int .i64 0, .int .i64 0] (l.length * 2)) 59)
  have hv0 := hv.later hb0
  have hg : (w.alloc (.cells (madeCells #[.int .i64 0, .int .i64 0] (l.length * 2)) 59)).heap[w.heap.size]? = some (.cells (madeCells #[.int .i64 0, .int .i64 0] (l.length * 2)) 59 (0, 0)) := Bk.new w _ _
  have hsz : (madeCells #[.int .i64 0, .int .i64 0] (l.length * 2)).size = l.length * 2 := size_madeCells _ _
  clear hv hc
  go_enter Tryz.func38, Tryz.ntmps38
  go_wp2_with (refine copy_codes _ rfl _ _ rfl l w.heap.size _ hg hsz l.length rfl ao cap rfl hv0 ?_; intro w1 R1 g1)
  have hb1 : Below w.heap.size w w1 := Below.grown hb0 g1 (by simp) (fun k hk => by cases hk; exact Nat.le_refl _)
  have lt := R1.lt
  go_ret
  exact ⟨⟨rfl, R1, lt⟩, hb1⟩

/-- What machineOf answers. -/
def MkM (h : Hp) (pr : List Cd) (pc : Int) (ot : List Int) (st : Int) (B : Nat) (e : Ending) (w' : World) : Prop :=
  (okM h pr pc ot st = true ∧ ∃ g1 g2 g3 P O oa oc, e = .returned (.tuple #[.agg #[.slice (some ⟨g1, 0, none⟩) h.words.length h.words.length, .slice oa (obC h).length oc, .slice (some ⟨g2, 0, none⟩) h.roots.length h.roots.length, .int .i64 h.old, .int .i64 h.eden, .int .i64 h.surv, .bool h.flip, .int .i64 h.hash, .slice (some ⟨g3, 0, none⟩) h.kept.length h.kept.length, .slice (some ⟨P, 0, none⟩) pr.length pr.length, .int .i64 pc, .slice (some ⟨O, 0, none⟩) ot.length ot.length, .int .i64 st], .bool (partsB h)]) ∧ RI w' O ot ot.length ∧ B ≤ O) ∨
  (okM h pr pc ot st = false ∧ e = .returned (.tuple #[.agg #[.slice none 0 0, .slice none 0 0, .slice none 0 0, .int .i64 0, .int .i64 0, .int .i64 0, .bool false, .int .i64 0, .slice none 0 0, .slice none 0 0, .int .i64 0, .slice none 0 0, .int .i64 0], .bool false]))

set_option maxRecDepth 100000 in
set_option maxHeartbeats 6400000 in
theorem machineOf_any (v1 v2 v3 vp vo : Value) (h : Hp) (pr : List Cd) (pc : Int) (ot : List Int) (st : Int) (w : World) (i1 : IR w v1 h.words) (i2 : IR w v2 h.roots) (i3 : IR w v3 h.kept) (ip : CR w vp pr) (io0 : IR w vo ot)
    (hwo : h.words.length ≤ 1000000000) (hro : h.roots.length ≤ 1000000000) (hke : h.kept.length ≤ 1000000000) (hp2 : pr.length ≤ 1000000000) (ho2 : ot.length ≤ 1000000000) :
    Calls Tryz.prog 44 #[.agg #[v1, v2, .int .i64 h.old, .int .i64 h.eden, .int .i64 h.surv, .bool h.flip, .int .i64 h.hash, v3, vp, .int .i64 pc, vo, .int .i64 st]] w fun e w' => MkM h pr pc ot st w.heap.size e w' ∧ Below w.heap.size w w' := by
  obtain ⟨a1, c1, rfl, -⟩ := IRs i1
  obtain ⟨a2, c2, rfl, -⟩ := IRs i2
  obtain ⟨a3, c3, rfl, -⟩ := IRs i3
  obtain ⟨ap, cp, rfl, -⟩ := CRs ip
  obtain ⟨ao, co, rfl, -⟩ := IRs io0
  have hb0 : Below w.heap.size w ((w.alloc (.cells #[.slice a1 h.words.length c1, .slice a2 h.roots.length c2, .int .i64 h.old, .int .i64 h.eden, .int .i64 h.surv, .bool h.flip, .int .i64 h.hash, .slice a3 h.kept.length c3, .slice ap pr.length cp, .int .i64 pc, .slice ao ot.length co, .int .i64 st] 30)).alloc (.cells #[.slice none 0 0, .slice none 0 0, .slice none 0 0, .int .i64 0, .int .i64 0, .int .i64 0, .bool false, .int .i64 0, .slice none 0 0, .slice none 0 0, .int .i64 0, .slice none 0 0, .int .i64 0] 74)) := bel_after (bel_one _ _) (bel_one _ _)
  obtain ⟨f, R0⟩ : ∃ f, ((w.alloc (.cells #[.slice a1 h.words.length c1, .slice a2 h.roots.length c2, .int .i64 h.old, .int .i64 h.eden, .int .i64 h.surv, .bool h.flip, .int .i64 h.hash, .slice a3 h.kept.length c3, .slice ap pr.length cp, .int .i64 pc, .slice ao ot.length co, .int .i64 st] 30)).alloc (.cells #[.slice none 0 0, .slice none 0 0, .slice none 0 0, .int .i64 0, .int .i64 0, .int .i64 0, .bool false, .int .i64 0, .slice none 0 0, .slice none 0 0, .int .i64 0, .slice none 0 0, .int .i64 0] 74)).rowIs (w.heap.size + 1) 74 13 f := by
    have q := row_any (w.alloc (.cells #[.slice a1 h.words.length c1, .slice a2 h.roots.length c2, .int .i64 h.old, .int .i64 h.eden, .int .i64 h.surv, .bool h.flip, .int .i64 h.hash, .slice a3 h.kept.length c3, .slice ap pr.length cp, .int .i64 pc, .slice ao ot.length co, .int .i64 st] 30)) #[.slice none 0 0, .slice none 0 0, .slice none 0 0, .int .i64 0, .int .i64 0, .int .i64 0, .bool false, .int .i64 0, .slice none 0 0, .slice none 0 0, .int .i64 0, .slice none 0 0, .int .i64 0] 74
    rw [World.size_alloc] at q
    exact ⟨_, q⟩
  have X0 : ((w.alloc (.cells #[.slice a1 h.words.length c1, .slice a2 h.roots.length c2, .int .i64 h.old, .int .i64 h.eden, .int .i64 h.surv, .bool h.flip, .int .i64 h.hash, .slice a3 h.kept.length c3, .slice ap pr.length cp, .int .i64 pc, .slice ao ot.length co, .int .i64 st] 30)).alloc (.cells #[.slice none 0 0, .slice none 0 0, .slice none 0 0, .int .i64 0, .int .i64 0, .int .i64 0, .bool false, .int .i64 0, .slice none 0 0, .slice none 0 0, .int .i64 0, .slice none 0 0, .int .i64 0] 74)).rowIs w.heap.size 30 12 (fun i => (#[.slice a1 h.words.length c1, .slice a2 h.roots.length c2, .int .i64 h.old, .int .i64 h.eden, .int .i64 h.surv, .bool h.flip, .int .i64 h.hash, .slice a3 h.kept.length c3, .slice ap pr.length cp, .int .i64 pc, .slice ao ot.length co, .int .i64 st])[i]?.getD undef) := (row_any w #[.slice a1 h.words.length c1, .slice a2 h.roots.length c2, .int .i64 h.old, .int .i64 h.eden, .int .i64 h.surv, .bool h.flip, .int .i64 h.hash, .slice a3 h.kept.length c3, .slice ap pr.length cp, .int .i64 pc, .slice ao ot.length co, .int .i64 st] 30).of_block ((bel_one _ _).block _ (by simp))
  have HVH : HR ((w.alloc (.cells #[.slice a1 h.words.length c1, .slice a2 h.roots.length c2, .int .i64 h.old, .int .i64 h.eden, .int .i64 h.surv, .bool h.flip, .int .i64 h.hash, .slice a3 h.kept.length c3, .slice ap pr.length cp, .int .i64 pc, .slice ao ot.length co, .int .i64 st] 30)).alloc (.cells #[.slice none 0 0, .slice none 0 0, .slice none 0 0, .int .i64 0, .int .i64 0, .int .i64 0, .bool false, .int .i64 0, .slice none 0 0, .slice none 0 0, .int .i64 0, .slice none 0 0, .int .i64 0] 74)) (.agg #[.slice a1 h.words.length c1, .slice a2 h.roots.length c2, .int .i64 h.old, .int .i64 h.eden, .int .i64 h.surv, .bool h.flip, .int .i64 h.hash, .slice a3 h.kept.length c3]) h := ⟨_, _, _, rfl, i1.later hb0, i2.later hb0, i3.later hb0⟩
  have C := draftOf_c2 _ h _ HVH (by omega) (by omega) (by omega)
  have HPR : ∀ W, Below w.heap.size w W → CR W (.slice ap pr.length cp) pr := fun W hb => ip.later hb
  have HOT : ∀ W, Below w.heap.size w W → IR W (.slice ao ot.length co) ot := fun W hb => io0.later hb
  clear i1 i2 i3 ip io0 HVH
  have x0 : (((w.alloc (.cells #[.slice a1 h.words.length c1, .slice a2 h.roots.length c2, .int .i64 h.old, .int .i64 h.eden, .int .i64 h.surv, .bool h.flip, .int .i64 h.hash, .slice a3 h.kept.length c3, .slice ap pr.length cp, .int .i64 pc, .slice ao ot.length co, .int .i64 st] 30)).alloc (.cells #[.slice none 0 0, .slice none 0 0, .slice none 0 0, .int .i64 0, .int .i64 0, .int .i64 0, .bool false, .int .i64 0, .slice none 0 0, .slice none 0 0, .int .i64 0, .slice none 0 0, .int .i64 0] 74))).cell? ⟨w.heap.size, 0, none⟩ = some (.slice a1 h.words.length c1) := X0.cell (i := 0) (by omega)
  have x1 : (((w.alloc (.cells #[.slice a1 h.words.length c1, .slice a2 h.roots.length c2, .int .i64 h.old, .int .i64 h.eden, .int .i64 h.surv, .bool h.flip, .int .i64 h.hash, .slice a3 h.kept.length c3, .slice ap pr.length cp, .int .i64 pc, .slice ao ot.length co, .int .i64 st] 30)).alloc (.cells #[.slice none 0 0, .slice none 0 0, .slice none 0 0, .int .i64 0, .int .i64 0, .int .i64 0, .bool false, .int .i64 0, .slice none 0 0, .slice none 0 0, .int .i64 0, .slice none 0 0, .int .i64 0] 74))).cell? ⟨w.heap.size, 1, none⟩ = some (.slice a2 h.roots.length c2) := X0.cell (i := 1) (by omega)
  have x2 : (((w.alloc (.cells #[.slice a1 h.words.length c1, .slice a2 h.roots.length c2, .int .i64 h.old, .int .i64 h.eden, .int .i64 h.surv, .bool h.flip, .int .i64 h.hash, .slice a3 h.kept.length c3, .slice ap pr.length cp, .int .i64 pc, .slice ao ot.length co, .int .i64 st] 30)).alloc (.cells #[.slice none 0 0, .slice none 0 0, .slice none 0 0, .int .i64 0, .int .i64 0, .int .i64 0, .bool false, .int .i64 0, .slice none 0 0, .slice none 0 0, .int .i64 0, .slice none 0 0, .int .i64 0] 74))).cell? ⟨w.heap.size, 2, none⟩ = some (.int .i64 h.old) := X0.cell (i := 2) (by omega)
  have x3 : (((w.alloc (.cells #[.slice a1 h.words.length c1, .slice a2 h.roots.length c2, .int .i64 h.old, .int .i64 h.eden, .int .i64 h.surv, .bool h.flip, .int .i64 h.hash, .slice a3 h.kept.length c3, .slice ap pr.length cp, .int .i64 pc, .slice ao ot.length co, .int .i64 st] 30)).alloc (.cells #[.slice none 0 0, .slice none 0 0, .slice none 0 0, .int .i64 0, .int .i64 0, .int .i64 0, .bool false, .int .i64 0, .slice none 0 0, .slice none 0 0, .int .i64 0, .slice none 0 0, .int .i64 0] 74))).cell? ⟨w.heap.size, 3, none⟩ = some (.int .i64 h.eden) := X0.cell (i := 3) (by omega)
  have x4 : (((w.alloc (.cells #[.slice a1 h.words.length c1, .slice a2 h.roots.length c2, .int .i64 h.old, .int .i64 h.eden, .int .i64 h.surv, .bool h.flip, .int .i64 h.hash, .slice a3 h.kept.length c3, .slice ap pr.length cp, .int .i64 pc, .slice ao ot.length co, .int .i64 st] 30)).alloc (.cells #[.slice none 0 0, .slice none 0 0, .slice none 0 0, .int .i64 0, .int .i64 0, .int .i64 0, .bool false, .int .i64 0, .slice none 0 0, .slice none 0 0, .int .i64 0, .slice none 0 0, .int .i64 0] 74))).cell? ⟨w.heap.size, 4, none⟩ = some (.int .i64 h.surv) := X0.cell (i := 4) (by omega)
  have x5 : (((w.alloc (.cells #[.slice a1 h.words.length c1, .slice a2 h.roots.length c2, .int .i64 h.old, .int .i64 h.eden, .int .i64 h.surv, .bool h.flip, .int .i64 h.hash, .slice a3 h.kept.length c3, .slice ap pr.length cp, .int .i64 pc, .slice ao ot.length co, .int .i64 st] 30)).alloc (.cells #[.slice none 0 0, .slice none 0 0, .slice none 0 0, .int .i64 0, .int .i64 0, .int .i64 0, .bool false, .int .i64 0, .slice none 0 0, .slice none 0 0, .int .i64 0, .slice none 0 0, .int .i64 0] 74))).cell? ⟨w.heap.size, 5, none⟩ = some (.bool h.flip) := X0.cell (i := 5) (by omega)
  have x6 : (((w.alloc (.cells #[.slice a1 h.words.length c1, .slice a2 h.roots.length c2, .int .i64 h.old, .int .i64 h.eden, .int .i64 h.surv, .bool h.flip, .int .i64 h.hash, .slice a3 h.kept.length c3, .slice ap pr.length cp, .int .i64 pc, .slice ao ot.length co, .int .i64 st] 30)).alloc (.cells #[.slice none 0 0, .slice none 0 0, .slice none 0 0, .int .i64 0, .int .i64 0, .int .i64 0, .bool false, .int .i64 0, .slice none 0 0, .slice none 0 0, .int .i64 0, .slice none 0 0, .int .i64 0] 74))).cell? ⟨w.heap.size, 6, none⟩ = some (.int .i64 h.hash) := X0.cell (i := 6) (by omega)
  have x7 : (((w.alloc (.cells #[.slice a1 h.words.length c1, .slice a2 h.roots.length c2, .int .i64 h.old, .int .i64 h.eden, .int .i64 h.surv, .bool h.flip, .int .i64 h.hash, .slice a3 h.kept.length c3, .slice ap pr.length cp, .int .i64 pc, .slice ao ot.length co, .int .i64 st] 30)).alloc (.cells #[.slice none 0 0, .slice none 0 0, .slice none 0 0, .int .i64 0, .int .i64 0, .int .i64 0, .bool false, .int .i64 0, .slice none 0 0, .slice none 0 0, .int .i64 0, .slice none 0 0, .int .i64 0] 74))).cell? ⟨w.heap.size, 7, none⟩ = some (.slice a3 h.kept.length c3) := X0.cell (i := 7) (by omega)
  have x8 : (((w.alloc (.cells #[.slice a1 h.words.length c1, .slice a2 h.roots.length c2, .int .i64 h.old, .int .i64 h.eden, .int .i64 h.surv, .bool h.flip, .int .i64 h.hash, .slice a3 h.kept.length c3, .slice ap pr.length cp, .int .i64 pc, .slice ao ot.length co, .int .i64 st] 30)).alloc (.cells #[.slice none 0 0, .slice none 0 0, .slice none 0 0, .int .i64 0, .int .i64 0, .int .i64 0, .bool false, .int .i64 0, .slice none 0 0, .slice none 0 0, .int .i64 0, .slice none 0 0, .int .i64 0] 74))).cell? ⟨w.heap.size, 8, none⟩ = some (.slice ap pr.length cp) := X0.cell (i := 8) (by omega)
  have x9 : (((w.alloc (.cells #[.slice a1 h.words.length c1, .slice a2 h.roots.length c2, .int .i64 h.old, .int .i64 h.eden, .int .i64 h.surv, .bool h.flip, .int .i64 h.hash, .slice a3 h.kept.length c3, .slice ap pr.length cp, .int .i64 pc, .slice ao ot.length co, .int .i64 st] 30)).alloc (.cells #[.slice none 0 0, .slice none 0 0, .slice none 0 0, .int .i64 0, .int .i64 0, .int .i64 0, .bool false, .int .i64 0, .slice none 0 0, .slice none 0 0, .int .i64 0, .slice none 0 0, .int .i64 0] 74))).cell? ⟨w.heap.size, 9, none⟩ = some (.int .i64 pc) := X0.cell (i := 9) (by omega)
  have x10 : (((w.alloc (.cells #[.slice a1 h.words.length c1, .slice a2 h.roots.length c2, .int .i64 h.old, .int .i64 h.eden, .int .i64 h.surv, .bool h.flip, .int .i64 h.hash, .slice a3 h.kept.length c3, .slice ap pr.length cp, .int .i64 pc, .slice ao ot.length co, .int .i64 st] 30)).alloc (.cells #[.slice none 0 0, .slice none 0 0, .slice none 0 0, .int .i64 0, .int .i64 0, .int .i64 0, .bool false, .int .i64 0, .slice none 0 0, .slice none 0 0, .int .i64 0, .slice none 0 0, .int .i64 0] 74))).cell? ⟨w.heap.size, 10, none⟩ = some (.slice ao ot.length co) := X0.cell (i := 10) (by omega)
  have x11 : (((w.alloc (.cells #[.slice a1 h.words.length c1, .slice a2 h.roots.length c2, .int .i64 h.old, .int .i64 h.eden, .int .i64 h.surv, .bool h.flip, .int .i64 h.hash, .slice a3 h.kept.length c3, .slice ap pr.length cp, .int .i64 pc, .slice ao ot.length co, .int .i64 st] 30)).alloc (.cells #[.slice none 0 0, .slice none 0 0, .slice none 0 0, .int .i64 0, .int .i64 0, .int .i64 0, .bool false, .int .i64 0, .slice none 0 0, .slice none 0 0, .int .i64 0, .slice none 0 0, .int .i64 0] 74))).cell? ⟨w.heap.size, 11, none⟩ = some (.int .i64 st) := X0.cell (i := 11) (by omega)
  have ltX : w.heap.size < ((w.alloc (.cells #[.slice a1 h.words.length c1, .slice a2 h.roots.length c2, .int .i64 h.old, .int .i64 h.eden, .int .i64 h.surv, .bool h.flip, .int .i64 h.hash, .slice a3 h.kept.length c3, .slice ap pr.length cp, .int .i64 pc, .slice ao ot.length co, .int .i64 st] 30)).alloc (.cells #[.slice none 0 0, .slice none 0 0, .slice none 0 0, .int .i64 0, .int .i64 0, .int .i64 0, .bool false, .int .i64 0, .slice none 0 0, .slice none 0 0, .int .i64 0, .slice none 0 0, .int .i64 0] 74)).heap.size := X0.lt
  go_enter Tryz.func44, Tryz.ntmps44
  go_wp2_with fail
  refine C.mono ?_
  clear x0 x1 x2 x3 x4 x5 x6 x7 x8 x9 x10 x11 C ltX
  rintro e w1 ⟨dr, hb1⟩
  have hbw1 := bel_after hb0 hb1
  have R1 := R0.of_block (hb1.block _ R0.lt)
  have X1 := X0.of_block (hb1.block _ X0.lt)
  clear R0 X0
  rcases dr with ⟨hk, g1, g2, g3, oa, oc, rfl, ⟨q1, q2, q3⟩, ⟨l0, l1, l2⟩, io, farO, -⟩ | ⟨hk, rfl⟩
  case inr =>
    have OKF : okM h pr pc ot st = false := by unfold okM; rw [hk]; rfl
    have al := bel_one w1 (.cells #[.slice none 0 0, .slice none 0 0, .slice none 0 0, .int .i64 0, .int .i64 0, .int .i64 0, .bool false, .int .i64 0, .slice none 0 0] 72)
    have hbA := bel_after hbw1 al
    have R2 := R1.of_block (al.block _ R1.lt)
    clear R1 X1
    have OKZ : (#[.slice none 0 0, .slice none 0 0, .slice none 0 0, .int .i64 0, .int .i64 0, .int .i64 0, .bool false, .int .i64 0, .slice none 0 0, .slice none 0 0, .int .i64 0, .slice none 0 0, .int .i64 0] : Array Value).all (·.oneCell') = true := by simp [Value.oneCell']
    go_wp2_with ((with_reducible refine store_box _ ?_ (.tmp 2) (.tmp 41) 74 ?_ 74 (w.heap.size + 1) 13 #[.slice none 0 0, .slice none 0 0, .slice none 0 0, .int .i64 0, .int .i64 0, .int .i64 0, .bool false, .int .i64 0, .slice none 0 0, .slice none 0 0, .int .i64 0, .slice none 0 0, .int .i64 0] f ?_ ?_ R2 ?_ ?_ OKZ ?_); rfl; rfl; rfl; rfl; rfl; kernel_rfl; intro wA KA GA; have r0 : wA.cell? ⟨w.heap.size + 1, 0, none⟩ = some (.slice none 0 0) := KA.cell (i := 0) (by omega); have r1 : wA.cell? ⟨w.heap.size + 1, 1, none⟩ = some (.slice none 0 0) := KA.cell (i := 1) (by omega); have r2 : wA.cell? ⟨w.heap.size + 1, 2, none⟩ = some (.slice none 0 0) := KA.cell (i := 2) (by omega); have r3 : wA.cell? ⟨w.heap.size + 1, 3, none⟩ = some (.int .i64 0) := KA.cell (i := 3) (by omega); have r4 : wA.cell? ⟨w.heap.size + 1, 4, none⟩ = some (.int .i64 0) := KA.cell (i := 4) (by omega); have r5 : wA.cell? ⟨w.heap.size + 1, 5, none⟩ = some (.int .i64 0) := KA.cell (i := 5) (by omega); have r6 : wA.cell? ⟨w.heap.size + 1, 6, none⟩ = some (.bool false) := KA.cell (i := 6) (by omega); have r7 : wA.cell? ⟨w.heap.size + 1, 7, none⟩ = some (.int .i64 0) := KA.cell (i := 7) (by omega); have r8 : wA.cell? ⟨w.heap.size + 1, 8, none⟩ = some (.slice none 0 0) := KA.cell (i := 8) (by omega); have r9 : wA.cell? ⟨w.heap.size + 1, 9, none⟩ = some (.slice none 0 0) := KA.cell (i := 9) (by omega); have r10 : wA.cell? ⟨w.heap.size + 1, 10, none⟩ = some (.int .i64 0) := KA.cell (i := 10) (by omega); have r11 : wA.cell? ⟨w.heap.size + 1, 11, none⟩ = some (.slice none 0 0) := KA.cell (i := 11) (by omega); have r12 : wA.cell? ⟨w.heap.size + 1, 12, none⟩ = some (.int .i64 0) := KA.cell (i := 12) (by omega))
    have BA : Below w.heap.size w wA := Below.grown hbA GA hbA.size (fun q hq => by cases hq; omega)
    exact bodyPost_ret (v := .tuple #[.agg #[.slice none 0 0, .slice none 0 0, .slice none 0 0, .int .i64 0, .int .i64 0, .int .i64 0, .bool false, .int .i64 0, .slice none 0 0, .slice none 0 0, .int .i64 0, .slice none 0 0, .int .i64 0], .bool false]) (by simp [results, Tryz.results44, go_sem, r0, r1, r2, r3, r4, r5, r6, r7, r8, r9, r10, r11, r12]) rfl ⟨.inr ⟨OKF, rfl⟩, BA⟩
  have al := bel_one w1 (.cells #[.slice (some ⟨g1, 0, none⟩) h.words.length h.words.length, .slice oa (obC h).length oc, .slice (some ⟨g2, 0, none⟩) h.roots.length h.roots.length, .int .i64 h.old, .int .i64 h.eden, .int .i64 h.surv, .bool h.flip, .int .i64 h.hash, .slice (some ⟨g3, 0, none⟩) h.kept.length h.kept.length] 72)
  have hbA := bel_after hbw1 al
  have R2 := R1.of_block (al.block _ R1.lt)
  have X2 := X1.of_block (al.block _ X1.lt)
  have D2 : (w1.alloc (.cells #[.slice (some ⟨g1, 0, none⟩) h.words.length h.words.length, .slice oa (obC h).length oc, .slice (some ⟨g2, 0, none⟩) h.roots.length h.roots.length, .int .i64 h.old, .int .i64 h.eden, .int .i64 h.surv, .bool h.flip, .int .i64 h.hash, .slice (some ⟨g3, 0, none⟩) h.kept.length h.kept.length] 72)).rowIs w1.heap.size 72 9 (fun i => (#[.slice (some ⟨g1, 0, none⟩) h.words.length h.words.length, .slice oa (obC h).length oc, .slice (some ⟨g2, 0, none⟩) h.roots.length h.roots.length, .int .i64 h.old, .int .i64 h.eden, .int .i64 h.surv, .bool h.flip, .int .i64 h.hash, .slice (some ⟨g3, 0, none⟩) h.kept.length h.kept.length])[i]?.getD undef) := row_any w1 #[.slice (some ⟨g1, 0, none⟩) h.words.length h.words.length, .slice oa (obC h).length oc, .slice (some ⟨g2, 0, none⟩) h.roots.length h.roots.length, .int .i64 h.old, .int .i64 h.eden, .int .i64 h.surv, .bool h.flip, .int .i64 h.hash, .slice (some ⟨g3, 0, none⟩) h.kept.length h.kept.length] 72
  have P1 := q1.later al
  have P2 := q2.later al
  have io2 := io.later al
  have kl : h.roots.length ≤ 20 := (ok_len hk).2.2.2.2.2
  have HL : Hid (h.words.length = 3200) := (ok_len hk).1
  obtain ⟨w2, e2⟩ : ∃ x, x = w1.alloc (.cells #[.slice (some ⟨g1, 0, none⟩) h.words.length h.words.length, .slice oa (obC h).length oc, .slice (some ⟨g2, 0, none⟩) h.roots.length h.roots.length, .int .i64 h.old, .int .i64 h.eden, .int .i64 h.surv, .bool h.flip, .int .i64 h.hash, .slice (some ⟨g3, 0, none⟩) h.kept.length h.kept.length] 72) := ⟨_, rfl⟩
  obtain ⟨Dd, eD⟩ : ∃ x, x = w1.heap.size := ⟨_, rfl⟩
  have ltD : Dd < w2.heap.size := by rw [e2, eD]; simp
  have l0' : w.heap.size + 2 ≤ g1 := by simpa using l0
  rw [← e2, ← eD] at D2
  rw [← e2] at R2 X2 P1 P2 io2 hbA
  clear q1 q2 q3 io R1 X1 al hb1 hbw1
  have VX : ∀ W, Below w2.heap.size w2 W → (W.cell? ⟨w.heap.size, 8, none⟩ = some (.slice ap pr.length cp) ∧ W.cell? ⟨w.heap.size, 9, none⟩ = some (.int .i64 pc) ∧ W.cell? ⟨w.heap.size, 10, none⟩ = some (.slice ao ot.length co) ∧ W.cell? ⟨w.heap.size, 11, none⟩ = some (.int .i64 st)) := fun W hb => ⟨cell_later hb (X2.cell (i := 8) (by omega)), cell_later hb (X2.cell (i := 9) (by omega)), cell_later hb (X2.cell (i := 10) (by omega)), cell_later hb (X2.cell (i := 11) (by omega))⟩
  have DX : ∀ W, Below w2.heap.size w2 W → (W.cell? ⟨Dd, 0, none⟩ = some (.slice (some ⟨g1, 0, none⟩) h.words.length h.words.length) ∧ W.cell? ⟨Dd, 1, none⟩ = some (.slice oa (obC h).length oc) ∧ W.cell? ⟨Dd, 2, none⟩ = some (.slice (some ⟨g2, 0, none⟩) h.roots.length h.roots.length) ∧ W.cell? ⟨Dd, 3, none⟩ = some (.int .i64 h.old) ∧ W.cell? ⟨Dd, 4, none⟩ = some (.int .i64 h.eden) ∧ W.cell? ⟨Dd, 5, none⟩ = some (.int .i64 h.surv) ∧ W.cell? ⟨Dd, 6, none⟩ = some (.bool h.flip) ∧ W.cell? ⟨Dd, 7, none⟩ = some (.int .i64 h.hash) ∧ W.cell? ⟨Dd, 8, none⟩ = some (.slice (some ⟨g3, 0, none⟩) h.kept.length h.kept.length)) := fun W hb => ⟨cell_later hb (D2.cell (i := 0) (by omega)), cell_later hb (D2.cell (i := 1) (by omega)), cell_later hb (D2.cell (i := 2) (by omega)), cell_later hb (D2.cell (i := 3) (by omega)), cell_later hb (D2.cell (i := 4) (by omega)), cell_later hb (D2.cell (i := 5) (by omega)), cell_later hb (D2.cell (i := 6) (by omega)), cell_later hb (D2.cell (i := 7) (by omega)), cell_later hb (D2.cell (i := 8) (by omega))⟩
  obtain ⟨x8, x9, x10, x11⟩ := VX w2 (Below.refl _ _)
  have CT0 := isProgram_any _ pr w2 (HPR _ hbA) hp2
  rw [e2] at x8 x9 x10 x11 CT0
  subst eD
  go_wp2_with fail
  refine CT0.mono ?_
  rw [← e2]
  rw [← e2] at x8 x9 x10 x11
  rintro e w3 ⟨rfl, hbx⟩
  have hbA1 : Below w.heap.size w w3 := bel_after hbA hbx
  have bz1 : Below w2.heap.size w2 w3 := hbx
  obtain ⟨x8, x9, x10, x11⟩ := VX w3 bz1
  clear hbx CT0
  cases PRG : progB pr
  case false =>
    have OKF : okM h pr pc ot st = false := by unfold okM; simp [PRG]
    have R9 := R2.of_block (bz1.block _ R2.lt)
    clear VX DX
    have OKZ : (#[.slice none 0 0, .slice none 0 0, .slice none 0 0, .int .i64 0, .int .i64 0, .int .i64 0, .bool false, .int .i64 0, .slice none 0 0, .slice none 0 0, .int .i64 0, .slice none 0 0, .int .i64 0] : Array Value).all (·.oneCell') = true := by simp [Value.oneCell']
    go_wp2_with ((with_reducible refine store_box _ ?_ (.tmp 2) (.tmp 41) 74 ?_ 74 (w.heap.size + 1) 13 #[.slice none 0 0, .slice none 0 0, .slice none 0 0, .int .i64 0, .int .i64 0, .int .i64 0, .bool false, .int .i64 0, .slice none 0 0, .slice none 0 0, .int .i64 0, .slice none 0 0, .int .i64 0] f ?_ ?_ R9 ?_ ?_ OKZ ?_); rfl; rfl; rfl; rfl; rfl; kernel_rfl; intro wA KA GA; have r0 : wA.cell? ⟨w.heap.size + 1, 0, none⟩ = some (.slice none 0 0) := KA.cell (i := 0) (by omega); have r1 : wA.cell? ⟨w.heap.size + 1, 1, none⟩ = some (.slice none 0 0) := KA.cell (i := 1) (by omega); have r2 : wA.cell? ⟨w.heap.size + 1, 2, none⟩ = some (.slice none 0 0) := KA.cell (i := 2) (by omega); have r3 : wA.cell? ⟨w.heap.size + 1, 3, none⟩ = some (.int .i64 0) := KA.cell (i := 3) (by omega); have r4 : wA.cell? ⟨w.heap.size + 1, 4, none⟩ = some (.int .i64 0) := KA.cell (i := 4) (by omega); have r5 : wA.cell? ⟨w.heap.size + 1, 5, none⟩ = some (.int .i64 0) := KA.cell (i := 5) (by omega); have r6 : wA.cell? ⟨w.heap.size + 1, 6, none⟩ = some (.bool false) := KA.cell (i := 6) (by omega); have r7 : wA.cell? ⟨w.heap.size + 1, 7, none⟩ = some (.int .i64 0) := KA.cell (i := 7) (by omega); have r8 : wA.cell? ⟨w.heap.size + 1, 8, none⟩ = some (.slice none 0 0) := KA.cell (i := 8) (by omega); have r9 : wA.cell? ⟨w.heap.size + 1, 9, none⟩ = some (.slice none 0 0) := KA.cell (i := 9) (by omega); have r10 : wA.cell? ⟨w.heap.size + 1, 10, none⟩ = some (.int .i64 0) := KA.cell (i := 10) (by omega); have r11 : wA.cell? ⟨w.heap.size + 1, 11, none⟩ = some (.slice none 0 0) := KA.cell (i := 11) (by omega); have r12 : wA.cell? ⟨w.heap.size + 1, 12, none⟩ = some (.int .i64 0) := KA.cell (i := 12) (by omega))
    have BA : Below w.heap.size w wA := Below.grown hbA1 GA hbA1.size (fun q hq => by cases hq; omega)
    exact bodyPost_ret (v := .tuple #[.agg #[.slice none 0 0, .slice none 0 0, .slice none 0 0, .int .i64 0, .int .i64 0, .int .i64 0, .bool false, .int .i64 0, .slice none 0 0, .slice none 0 0, .int .i64 0, .slice none 0 0, .int .i64 0], .bool false]) (by simp [results, Tryz.results44, go_sem, r0, r1, r2, r3, r4, r5, r6, r7, r8, r9, r10, r11, r12]) rfl ⟨.inr ⟨OKF, rfl⟩, BA⟩
  have CT1 := isPlace_any _ pr pc w3 (HPR _ hbA1) hp2
  go_wp2_with fail
  refine CT1.mono ?_
  rintro e w4 ⟨rfl, hbx⟩
  have hbA2 : Below w.heap.size w w4 := bel_after hbA1 hbx
  have bz2 : Below w2.heap.size w2 w4 := bel_after bz1 hbx
  obtain ⟨x8, x9, x10, x11⟩ := VX w4 bz2
  clear hbx CT1
  cases PLC : placeB pr.length pc
  case false =>
    have OKF : okM h pr pc ot st = false := by unfold okM; simp [PRG, PLC]
    have R9 := R2.of_block (bz2.block _ R2.lt)
    clear VX DX
    have OKZ : (#[.slice none 0 0, .slice none 0 0, .slice none 0 0, .int .i64 0, .int .i64 0, .int .i64 0, .bool false, .int .i64 0, .slice none 0 0, .slice none 0 0, .int .i64 0, .slice none 0 0, .int .i64 0] : Array Value).all (·.oneCell') = true := by simp [Value.oneCell']
    go_wp2_with ((with_reducible refine store_box _ ?_ (.tmp 2) (.tmp 41) 74 ?_ 74 (w.heap.size + 1) 13 #[.slice none 0 0, .slice none 0 0, .slice none 0 0, .int .i64 0, .int .i64 0, .int .i64 0, .bool false, .int .i64 0, .slice none 0 0, .slice none 0 0, .int .i64 0, .slice none 0 0, .int .i64 0] f ?_ ?_ R9 ?_ ?_ OKZ ?_); rfl; rfl; rfl; rfl; rfl; kernel_rfl; intro wA KA GA; have r0 : wA.cell? ⟨w.heap.size + 1, 0, none⟩ = some (.slice none 0 0) := KA.cell (i := 0) (by omega); have r1 : wA.cell? ⟨w.heap.size + 1, 1, none⟩ = some (.slice none 0 0) := KA.cell (i := 1) (by omega); have r2 : wA.cell? ⟨w.heap.size + 1, 2, none⟩ = some (.slice none 0 0) := KA.cell (i := 2) (by omega); have r3 : wA.cell? ⟨w.heap.size + 1, 3, none⟩ = some (.int .i64 0) := KA.cell (i := 3) (by omega); have r4 : wA.cell? ⟨w.heap.size + 1, 4, none⟩ = some (.int .i64 0) := KA.cell (i := 4) (by omega); have r5 : wA.cell? ⟨w.heap.size + 1, 5, none⟩ = some (.int .i64 0) := KA.cell (i := 5) (by omega); have r6 : wA.cell? ⟨w.heap.size + 1, 6, none⟩ = some (.bool false) := KA.cell (i := 6) (by omega); have r7 : wA.cell? ⟨w.heap.size + 1, 7, none⟩ = some (.int .i64 0) := KA.cell (i := 7) (by omega); have r8 : wA.cell? ⟨w.heap.size + 1, 8, none⟩ = some (.slice none 0 0) := KA.cell (i := 8) (by omega); have r9 : wA.cell? ⟨w.heap.size + 1, 9, none⟩ = some (.slice none 0 0) := KA.cell (i := 9) (by omega); have r10 : wA.cell? ⟨w.heap.size + 1, 10, none⟩ = some (.int .i64 0) := KA.cell (i := 10) (by omega); have r11 : wA.cell? ⟨w.heap.size + 1, 11, none⟩ = some (.slice none 0 0) := KA.cell (i := 11) (by omega); have r12 : wA.cell? ⟨w.heap.size + 1, 12, none⟩ = some (.int .i64 0) := KA.cell (i := 12) (by omega))
    have BA : Below w.heap.size w wA := Below.grown hbA2 GA hbA2.size (fun q hq => by cases hq; omega)
    exact bodyPost_ret (v := .tuple #[.agg #[.slice none 0 0, .slice none 0 0, .slice none 0 0, .int .i64 0, .int .i64 0, .int .i64 0, .bool false, .int .i64 0, .slice none 0 0, .slice none 0 0, .int .i64 0, .slice none 0 0, .int .i64 0], .bool false]) (by simp [results, Tryz.results44, go_sem, r0, r1, r2, r3, r4, r5, r6, r7, r8, r9, r10, r11, r12]) rfl ⟨.inr ⟨OKF, rfl⟩, BA⟩
  have CT2 := isOut_any _ ot w4 (HOT _ hbA2) ho2
  go_wp2_with fail
  refine CT2.mono ?_
  rintro e w5 ⟨rfl, hbx⟩
  have hbA3 : Below w.heap.size w w5 := bel_after hbA2 hbx
  have bz3 : Below w2.heap.size w2 w5 := bel_after bz2 hbx
  obtain ⟨x8, x9, x10, x11⟩ := VX w5 bz3
  clear hbx CT2
  cases OUT : outB ot
  case false =>
    have OKF : okM h pr pc ot st = false := by unfold okM; simp [PRG, PLC, OUT]
    have R9 := R2.of_block (bz3.block _ R2.lt)
    clear VX DX
    have OKZ : (#[.slice none 0 0, .slice none 0 0, .slice none 0 0, .int .i64 0, .int .i64 0, .int .i64 0, .bool false, .int .i64 0, .slice none 0 0, .slice none 0 0, .int .i64 0, .slice none 0 0, .int .i64 0] : Array Value).all (·.oneCell') = true := by simp [Value.oneCell']
    go_wp2_with ((with_reducible refine store_box _ ?_ (.tmp 2) (.tmp 41) 74 ?_ 74 (w.heap.size + 1) 13 #[.slice none 0 0, .slice none 0 0, .slice none 0 0, .int .i64 0, .int .i64 0, .int .i64 0, .bool false, .int .i64 0, .slice none 0 0, .slice none 0 0, .int .i64 0, .slice none 0 0, .int .i64 0] f ?_ ?_ R9 ?_ ?_ OKZ ?_); rfl; rfl; rfl; rfl; rfl; kernel_rfl; intro wA KA GA; have r0 : wA.cell? ⟨w.heap.size + 1, 0, none⟩ = some (.slice none 0 0) := KA.cell (i := 0) (by omega); have r1 : wA.cell? ⟨w.heap.size + 1, 1, none⟩ = some (.slice none 0 0) := KA.cell (i := 1) (by omega); have r2 : wA.cell? ⟨w.heap.size + 1, 2, none⟩ = some (.slice none 0 0) := KA.cell (i := 2) (by omega); have r3 : wA.cell? ⟨w.heap.size + 1, 3, none⟩ = some (.int .i64 0) := KA.cell (i := 3) (by omega); have r4 : wA.cell? ⟨w.heap.size + 1, 4, none⟩ = some (.int .i64 0) := KA.cell (i := 4) (by omega); have r5 : wA.cell? ⟨w.heap.size + 1, 5, none⟩ = some (.int .i64 0) := KA.cell (i := 5) (by omega); have r6 : wA.cell? ⟨w.heap.size + 1, 6, none⟩ = some (.bool false) := KA.cell (i := 6) (by omega); have r7 : wA.cell? ⟨w.heap.size + 1, 7, none⟩ = some (.int .i64 0) := KA.cell (i := 7) (by omega); have r8 : wA.cell? ⟨w.heap.size + 1, 8, none⟩ = some (.slice none 0 0) := KA.cell (i := 8) (by omega); have r9 : wA.cell? ⟨w.heap.size + 1, 9, none⟩ = some (.slice none 0 0) := KA.cell (i := 9) (by omega); have r10 : wA.cell? ⟨w.heap.size + 1, 10, none⟩ = some (.int .i64 0) := KA.cell (i := 10) (by omega); have r11 : wA.cell? ⟨w.heap.size + 1, 11, none⟩ = some (.slice none 0 0) := KA.cell (i := 11) (by omega); have r12 : wA.cell? ⟨w.heap.size + 1, 12, none⟩ = some (.int .i64 0) := KA.cell (i := 12) (by omega))
    have BA : Below w.heap.size w wA := Below.grown hbA3 GA hbA3.size (fun q hq => by cases hq; omega)
    exact bodyPost_ret (v := .tuple #[.agg #[.slice none 0 0, .slice none 0 0, .slice none 0 0, .int .i64 0, .int .i64 0, .int .i64 0, .bool false, .int .i64 0, .slice none 0 0, .slice none 0 0, .int .i64 0, .slice none 0 0, .int .i64 0], .bool false]) (by simp [results, Tryz.results44, go_sem, r0, r1, r2, r3, r4, r5, r6, r7, r8, r9, r10, r11, r12]) rfl ⟨.inr ⟨OKF, rfl⟩, BA⟩
  have CT3 := isState_any st w5
  go_wp2_with fail
  refine CT3.mono ?_
  rintro e w6 ⟨rfl, hbx⟩
  have hbA4 : Below w.heap.size w w6 := bel_after hbA3 hbx
  have bz4 : Below w2.heap.size w2 w6 := bel_after bz3 hbx
  obtain ⟨x8, x9, x10, x11⟩ := VX w6 bz4
  clear hbx CT3
  cases STA : stateB st
  case false =>
    have OKF : okM h pr pc ot st = false := by unfold okM; simp [PRG, PLC, OUT, STA]
    have R9 := R2.of_block (bz4.block _ R2.lt)
    clear VX DX
    have OKZ : (#[.slice none 0 0, .slice none 0 0, .slice none 0 0, .int .i64 0, .int .i64 0, .int .i64 0, .bool false, .int .i64 0, .slice none 0 0, .slice none 0 0, .int .i64 0, .slice none 0 0, .int .i64 0] : Array Value).all (·.oneCell') = true := by simp [Value.oneCell']
    go_wp2_with ((with_reducible refine store_box _ ?_ (.tmp 2) (.tmp 41) 74 ?_ 74 (w.heap.size + 1) 13 #[.slice none 0 0, .slice none 0 0, .slice none 0 0, .int .i64 0, .int .i64 0, .int .i64 0, .bool false, .int .i64 0, .slice none 0 0, .slice none 0 0, .int .i64 0, .slice none 0 0, .int .i64 0] f ?_ ?_ R9 ?_ ?_ OKZ ?_); rfl; rfl; rfl; rfl; rfl; kernel_rfl; intro wA KA GA; have r0 : wA.cell? ⟨w.heap.size + 1, 0, none⟩ = some (.slice none 0 0) := KA.cell (i := 0) (by omega); have r1 : wA.cell? ⟨w.heap.size + 1, 1, none⟩ = some (.slice none 0 0) := KA.cell (i := 1) (by omega); have r2 : wA.cell? ⟨w.heap.size + 1, 2, none⟩ = some (.slice none 0 0) := KA.cell (i := 2) (by omega); have r3 : wA.cell? ⟨w.heap.size + 1, 3, none⟩ = some (.int .i64 0) := KA.cell (i := 3) (by omega); have r4 : wA.cell? ⟨w.heap.size + 1, 4, none⟩ = some (.int .i64 0) := KA.cell (i := 4) (by omega); have r5 : wA.cell? ⟨w.heap.size + 1, 5, none⟩ = some (.int .i64 0) := KA.cell (i := 5) (by omega); have r6 : wA.cell? ⟨w.heap.size + 1, 6, none⟩ = some (.bool false) := KA.cell (i := 6) (by omega); have r7 : wA.cell? ⟨w.heap.size + 1, 7, none⟩ = some (.int .i64 0) := KA.cell (i := 7) (by omega); have r8 : wA.cell? ⟨w.heap.size + 1, 8, none⟩ = some (.slice none 0 0) := KA.cell (i := 8) (by omega); have r9 : wA.cell? ⟨w.heap.size + 1, 9, none⟩ = some (.slice none 0 0) := KA.cell (i := 9) (by omega); have r10 : wA.cell? ⟨w.heap.size + 1, 10, none⟩ = some (.int .i64 0) := KA.cell (i := 10) (by omega); have r11 : wA.cell? ⟨w.heap.size + 1, 11, none⟩ = some (.slice none 0 0) := KA.cell (i := 11) (by omega); have r12 : wA.cell? ⟨w.heap.size + 1, 12, none⟩ = some (.int .i64 0) := KA.cell (i := 12) (by omega))
    have BA : Below w.heap.size w wA := Below.grown hbA4 GA hbA4.size (fun q hq => by cases hq; omega)
    exact bodyPost_ret (v := .tuple #[.agg #[.slice none 0 0, .slice none 0 0, .slice none 0 0, .int .i64 0, .int .i64 0, .int .i64 0, .bool false, .int .i64 0, .slice none 0 0, .slice none 0 0, .int .i64 0, .slice none 0 0, .int .i64 0], .bool false]) (by simp [results, Tryz.results44, go_sem, r0, r1, r2, r3, r4, r5, r6, r7, r8, r9, r10, r11, r12]) rfl ⟨.inr ⟨OKF, rfl⟩, BA⟩
  have OKF : Hid (okM h pr pc ot st = true) := (by unfold okM; simp [hk, PRG, PLC, OUT, STA] : okM h pr pc ot st = true)
  have R6 := R2.of_block (bz4.block _ R2.lt)
  obtain ⟨N6, eN⟩ : ∃ x, x = w6.heap.size := ⟨_, rfl⟩
  have BW6 : Below w.heap.size w w6 := hbA4
  have le6 := hbA4.size
  have lz6 : w.heap.size + 1 < N6 := by have := R6.lt; omega
  have UP : ∀ W, Below N6 w6 W → Below w2.heap.size w2 W ∧ Below w.heap.size w W := fun W hb => ⟨bz4.trans (hb.mono (by have := bz4.size; omega)), hbA4.trans (hb.mono (by omega))⟩
  have VB := fun W (hb : Below N6 w6 W) => VX W (UP W hb).1
  have DB := fun W (hb : Below N6 w6 W) => DX W (UP W hb).1
  replace HPR := fun W (hb : Below N6 w6 W) => HPR W (UP W hb).2
  replace HOT := fun W (hb : Below N6 w6 W) => HOT W (UP W hb).2
  have QB : ∀ W, Below N6 w6 W → (RI W g1 h.words h.words.length ∧ RI W g2 h.roots h.roots.length ∧ IR W (.slice oa (obC h).length oc) (ints (obC h))) := fun W hb => ⟨P1.later (UP W hb).1, P2.later (UP W hb).1, io2.later (UP W hb).1⟩
  clear VX DX UP X2 D2 P1 P2 io2 bz1 bz2 bz3 bz4 hbA hbA1 hbA2 hbA3 hbA4 R2 x8 x9 x10 x11 PRG PLC OUT STA
  go_wp2_with fail
  refine Disk.z_plain 99 (fun W' => Below N6 w6 W') (by kernel_rfl) (by rw [eN]; exact (Below.refl _ _).drew) fun hs => ?_
  refine Disk.z_take 0 42 (v := .agg #[.slice (some ⟨g1, 0, none⟩) h.words.length h.words.length, .slice oa (obC h).length oc, .slice (some ⟨g2, 0, none⟩) h.roots.length h.roots.length, .int .i64 h.old, .int .i64 h.eden, .int .i64 h.surv, .bool h.flip, .int .i64 h.hash, .slice (some ⟨g3, 0, none⟩) h.kept.length h.kept.length]) rfl rfl (by kernel_rfl) (by kernel_rfl) (by kernel_rfl) (by kernel_rfl) (by rfl) hs (fun W' hSw => (by
    obtain ⟨d0, d1, d2, d3, d4, d5, d6, d7, d8⟩ := DB _ hSw
    go_simp; first | done | with_reducible rfl)) ?_
  simp only [List.setIfInBounds_toArray, List.set_cons_zero, List.set_cons_succ]
  refine Disk.z_take 1 43 (v := .pointer (some ⟨w.heap.size, 8, none⟩)) rfl rfl (by kernel_rfl) (by kernel_rfl) (by kernel_rfl) (by kernel_rfl) (by rfl) hs (fun W' hSw => (by
    obtain ⟨q8, q9, q10, q11⟩ := VB _ hSw
    go_simp; first | done | with_reducible rfl)) ?_
  simp only [List.setIfInBounds_toArray, List.set_cons_zero, List.set_cons_succ]
  refine Disk.z_take 2 44 (v := .slice ap pr.length cp) rfl rfl (by kernel_rfl) (by kernel_rfl) (by kernel_rfl) (by kernel_rfl) (by rfl) hs (fun W' hSw => (by
    obtain ⟨q8, q9, q10, q11⟩ := VB _ hSw
    go_simp; first | done | with_reducible rfl)) ?_
  simp only [List.setIfInBounds_toArray, List.set_cons_zero, List.set_cons_succ]
  refine Disk.z_take 4 46 (v := .pointer (some ⟨w.heap.size, 9, none⟩)) rfl rfl (by kernel_rfl) (by kernel_rfl) (by kernel_rfl) (by kernel_rfl) (by rfl) hs (fun W' hSw => (by
    obtain ⟨q8, q9, q10, q11⟩ := VB _ hSw
    go_simp; first | done | with_reducible rfl)) ?_
  simp only [List.setIfInBounds_toArray, List.set_cons_zero, List.set_cons_succ]
  refine Disk.z_take 5 47 (v := .int .i64 pc) rfl rfl (by kernel_rfl) (by kernel_rfl) (by kernel_rfl) (by kernel_rfl) (by rfl) hs (fun W' hSw => (by
    obtain ⟨q8, q9, q10, q11⟩ := VB _ hSw
    go_simp; first | done | with_reducible rfl)) ?_
  simp only [List.setIfInBounds_toArray, List.set_cons_zero, List.set_cons_succ]
  refine Disk.z_take 6 48 (v := .pointer (some ⟨w.heap.size, 10, none⟩)) rfl rfl (by kernel_rfl) (by kernel_rfl) (by kernel_rfl) (by kernel_rfl) (by rfl) hs (fun W' hSw => (by
    obtain ⟨q8, q9, q10, q11⟩ := VB _ hSw
    go_simp; first | done | with_reducible rfl)) ?_
  simp only [List.setIfInBounds_toArray, List.set_cons_zero, List.set_cons_succ]
  refine Disk.z_take 7 49 (v := .slice ao ot.length co) rfl rfl (by kernel_rfl) (by kernel_rfl) (by kernel_rfl) (by kernel_rfl) (by rfl) hs (fun W' hSw => (by
    obtain ⟨q8, q9, q10, q11⟩ := VB _ hSw
    go_simp; first | done | with_reducible rfl)) ?_
  simp only [List.setIfInBounds_toArray, List.set_cons_zero, List.set_cons_succ]
  refine Disk.z_take 9 51 (v := .pointer (some ⟨w.heap.size, 11, none⟩)) rfl rfl (by kernel_rfl) (by kernel_rfl) (by kernel_rfl) (by kernel_rfl) (by rfl) hs (fun W' hSw => (by
    obtain ⟨q8, q9, q10, q11⟩ := VB _ hSw
    go_simp; first | done | with_reducible rfl)) ?_
  simp only [List.setIfInBounds_toArray, List.set_cons_zero, List.set_cons_succ]
  refine Disk.z_take 10 52 (v := .int .i64 st) rfl rfl (by kernel_rfl) (by kernel_rfl) (by kernel_rfl) (by kernel_rfl) (by rfl) hs (fun W' hSw => (by
    obtain ⟨q8, q9, q10, q11⟩ := VB _ hSw
    go_simp; first | done | with_reducible rfl)) ?_
  simp only [List.setIfInBounds_toArray, List.set_cons_zero, List.set_cons_succ]
  obtain ⟨w7, e7⟩ : ∃ x, x = w6.drew := ⟨_, rfl⟩
  rw [← e7] at hs ⊢
  clear e7
  refine z_or (i := 3) (j := 12) (by kernel_rfl) ?_ ?_
  · have leN : N6 ≤ w7.heap.size := by have := hs.size; omega
    refine o_call 3 45 rfl rfl (by rfl) (f := 38) (args := #[.slice ap pr.length cp]) (w0 := w7) (by go_simp; first | done | with_reducible rfl) ?_
    refine (copyCodes_any _ pr w7 (HPR _ hs) (by omega)).mono ?_
    rintro e w8 ⟨⟨rfl, RP, ltw8⟩, BX⟩
    refine ⟨_, rfl, .inr (hs.trans (BX.mono leN)), ?_⟩
    simp only [List.setIfInBounds_toArray, List.set_cons_zero, List.set_cons_succ]
    obtain ⟨P, eP⟩ : ∃ x, x = w7.heap.size := ⟨_, rfl⟩
    rw [← eP] at RP ⊢
    have lP : N6 ≤ P := by omega
    have hs := hs.trans (BX.mono leN)
    clear BX
    refine z_or (i := 8) (j := 12) (by kernel_rfl) ?_ ?_
    · have leN : N6 ≤ w8.heap.size := by have := hs.size; omega
      refine o_call 8 50 rfl rfl (by rfl) (f := 76) (args := #[.slice ao ot.length co]) (w0 := w8) (by go_simp; first | done | with_reducible rfl) ?_
      refine (copyList_any _ ot w8 (HOT _ hs) (by omega)).mono ?_
      rintro e w9 ⟨⟨rfl, RO, ltw9⟩, BX⟩
      refine ⟨_, rfl, .inr (hs.trans (BX.mono leN)), ?_⟩
      simp only [List.setIfInBounds_toArray, List.set_cons_zero, List.set_cons_succ]
      obtain ⟨O, eO⟩ : ∃ x, x = w8.heap.size := ⟨_, rfl⟩
      rw [← eO] at RO ⊢
      have lO : N6 ≤ O := by omega
      have RP := RP.later BX
      have hs := hs.trans (BX.mono leN)
      clear BX
      refine Disk.z_take 11 53 (v := .agg #[.slice (some ⟨g1, 0, none⟩) h.words.length h.words.length, .slice oa (obC h).length oc, .slice (some ⟨g2, 0, none⟩) h.roots.length h.roots.length, .int .i64 h.old, .int .i64 h.eden, .int .i64 h.surv, .bool h.flip, .int .i64 h.hash, .slice (some ⟨g3, 0, none⟩) h.kept.length h.kept.length, .slice (some ⟨P, 0, none⟩) pr.length pr.length, .int .i64 pc, .slice (some ⟨O, 0, none⟩) ot.length ot.length, .int .i64 st]) rfl rfl (by kernel_rfl) (by kernel_rfl) (by kernel_rfl) (by kernel_rfl) (by rfl) hs (fun W' hSw => (by
        clear hSw
        go_simp; first | done | with_reducible rfl)) ?_
      simp only [List.setIfInBounds_toArray, List.set_cons_zero, List.set_cons_succ]
      have leN : N6 ≤ w9.heap.size := by have := hs.size; omega
      refine Disk.z_run 12 6 (w' := w9.alloc (.cells #[.slice none 0 0, .slice none 0 0, .slice none 0 0, .int .i64 0, .int .i64 0, .int .i64 0, .bool false, .int .i64 0, .slice none 0 0, .slice none 0 0, .int .i64 0, .slice none 0 0, .int .i64 0] 74)) (v := .pointer (some ⟨w9.heap.size, 0, none⟩)) rfl rfl (by kernel_rfl) (by rfl) (by go_simp; first | done | with_reducible rfl) (.inr (hs.trans ((bel_one w9 _).mono leN))) ?_
      simp only [List.setIfInBounds_toArray, List.set_cons_zero, List.set_cons_succ]
      obtain ⟨wa, ewa⟩ : ∃ x, x = w9.alloc (.cells #[.slice none 0 0, .slice none 0 0, .slice none 0 0, .int .i64 0, .int .i64 0, .int .i64 0, .bool false, .int .i64 0, .slice none 0 0, .slice none 0 0, .int .i64 0, .slice none 0 0, .int .i64 0] 74) := ⟨_, rfl⟩
      obtain ⟨fA, RA⟩ : ∃ fA, wa.rowIs w9.heap.size 74 13 fA := ⟨_, by rw [ewa]; exact row_any w9 #[.slice none 0 0, .slice none 0 0, .slice none 0 0, .int .i64 0, .int .i64 0, .int .i64 0, .bool false, .int .i64 0, .slice none 0 0, .slice none 0 0, .int .i64 0, .slice none 0 0, .int .i64 0] 74⟩
      have BX : Below w9.heap.size w9 wa := by rw [ewa]; exact bel_one w9 _
      rw [← ewa]
      have ltwa : w9.heap.size < wa.heap.size := RA.lt
      clear ewa
      obtain ⟨A, eA⟩ : ∃ x, x = w9.heap.size := ⟨_, rfl⟩
      rw [← eA] at RA ⊢
      have lA : N6 ≤ A := by omega
      have RP := RP.later BX
      have RO := RO.later BX
      have hs := hs.trans (BX.mono leN)
      clear BX
      have OKM : (#[.slice (some ⟨g1, 0, none⟩) h.words.length h.words.length, .slice oa (obC h).length oc, .slice (some ⟨g2, 0, none⟩) h.roots.length h.roots.length, .int .i64 h.old, .int .i64 h.eden, .int .i64 h.surv, .bool h.flip, .int .i64 h.hash, .slice (some ⟨g3, 0, none⟩) h.kept.length h.kept.length, .slice (some ⟨P, 0, none⟩) pr.length pr.length, .int .i64 pc, .slice (some ⟨O, 0, none⟩) ot.length ot.length, .int .i64 st] : Array Value).all (·.oneCell') = true := by simp [Value.oneCell']
      have hrun := run_store_box wa 74 74 A 13 #[.slice (some ⟨g1, 0, none⟩) h.words.length h.words.length, .slice oa (obC h).length oc, .slice (some ⟨g2, 0, none⟩) h.roots.length h.roots.length, .int .i64 h.old, .int .i64 h.eden, .int .i64 h.surv, .bool h.flip, .int .i64 h.hash, .slice (some ⟨g3, 0, none⟩) h.kept.length h.kept.length, .slice (some ⟨P, 0, none⟩) pr.length pr.length, .int .i64 pc, .slice (some ⟨O, 0, none⟩) ot.length ot.length, .int .i64 st] fA RA rfl (by kernel_rfl) OKM
      have KB := row_set wa A 74 13 #[.slice (some ⟨g1, 0, none⟩) h.words.length h.words.length, .slice oa (obC h).length oc, .slice (some ⟨g2, 0, none⟩) h.roots.length h.roots.length, .int .i64 h.old, .int .i64 h.eden, .int .i64 h.surv, .bool h.flip, .int .i64 h.hash, .slice (some ⟨g3, 0, none⟩) h.kept.length h.kept.length, .slice (some ⟨P, 0, none⟩) pr.length pr.length, .int .i64 pc, .slice (some ⟨O, 0, none⟩) ot.length ot.length, .int .i64 st] fA RA rfl
      have GB := grown_setRow wa A #[.slice (some ⟨g1, 0, none⟩) h.words.length h.words.length, .slice oa (obC h).length oc, .slice (some ⟨g2, 0, none⟩) h.roots.length h.roots.length, .int .i64 h.old, .int .i64 h.eden, .int .i64 h.surv, .bool h.flip, .int .i64 h.hash, .slice (some ⟨g3, 0, none⟩) h.kept.length h.kept.length, .slice (some ⟨P, 0, none⟩) pr.length pr.length, .int .i64 pc, .slice (some ⟨O, 0, none⟩) ot.length ot.length, .int .i64 st]
      have nOA : O ≠ A := by omega
      have RO := RO.grown GB (by intro e; cases e; exact nOA rfl)
      have hs : Below N6 w6 (wa.setRow A #[.slice (some ⟨g1, 0, none⟩) h.words.length h.words.length, .slice oa (obC h).length oc, .slice (some ⟨g2, 0, none⟩) h.roots.length h.roots.length, .int .i64 h.old, .int .i64 h.eden, .int .i64 h.surv, .bool h.flip, .int .i64 h.hash, .slice (some ⟨g3, 0, none⟩) h.kept.length h.kept.length, .slice (some ⟨P, 0, none⟩) pr.length pr.length, .int .i64 pc, .slice (some ⟨O, 0, none⟩) ot.length ot.length, .int .i64 st]) := Below.grown hs GB (by have := hs.size; omega) (fun q hq => by cases hq; exact lA)
      clear GB RA RP
      refine Disk.z_skip 13 rfl rfl (by kernel_rfl) (by rfl) (exec_storeQ rfl rfl rfl hrun) (.inr hs) ?_
      refine Disk.z_done (by kernel_rfl) ?_ _
      clear hrun eA eP eO
      obtain ⟨w10, e10⟩ : ∃ x, x = wa.setRow A #[.slice (some ⟨g1, 0, none⟩) h.words.length h.words.length, .slice oa (obC h).length oc, .slice (some ⟨g2, 0, none⟩) h.roots.length h.roots.length, .int .i64 h.old, .int .i64 h.eden, .int .i64 h.surv, .bool h.flip, .int .i64 h.hash, .slice (some ⟨g3, 0, none⟩) h.kept.length h.kept.length, .slice (some ⟨P, 0, none⟩) pr.length pr.length, .int .i64 pc, .slice (some ⟨O, 0, none⟩) ot.length ot.length, .int .i64 st] := ⟨_, rfl⟩
      rw [← e10] at KB hs RO ⊢
      clear e10
      have le10 : N6 ≤ w10.heap.size := by have := hs.size; omega
      have RZ := R6.of_block (hs.block _ (by omega))
      have KMA : KM w10 A g1 g2 oa oc h := ⟨by rw [← HL.out]; exact KB.cell (i := 0) (by omega), KB.cell (i := 1) (by omega), KB.cell (i := 2) (by omega), fun j hj => by rw [Nat.zero_add]; exact (QB _ hs).1.cell hj, fun j hj => (QB _ hs).2.1.cell hj, (QB _ hs).2.2⟩
      have KB0 := KB
      go_wp2_with fail
      refine Disk.z_plain 99 (fun W' => W'.rowIs A 74 13 (fun i => ((#[.slice (some ⟨g1, 0, none⟩) h.words.length h.words.length, .slice oa (obC h).length oc, .slice (some ⟨g2, 0, none⟩) h.roots.length h.roots.length, .int .i64 h.old, .int .i64 h.eden, .int .i64 h.surv, .bool h.flip, .int .i64 h.hash, .slice (some ⟨g3, 0, none⟩) h.kept.length h.kept.length, .slice (some ⟨P, 0, none⟩) pr.length pr.length, .int .i64 pc, .slice (some ⟨O, 0, none⟩) ot.length ot.length, .int .i64 st] : Array Value))[i]?.getD undef)) (by kernel_rfl) (KB0.of_block rfl) fun hq => ?_
      refine Disk.z_take 0 54 (v := .agg #[.slice (some ⟨g1, 0, none⟩) h.words.length h.words.length, .slice oa (obC h).length oc, .slice (some ⟨g2, 0, none⟩) h.roots.length h.roots.length, .int .i64 h.old, .int .i64 h.eden, .int .i64 h.surv, .bool h.flip, .int .i64 h.hash, .slice (some ⟨g3, 0, none⟩) h.kept.length h.kept.length, .slice (some ⟨P, 0, none⟩) pr.length pr.length, .int .i64 pc, .slice (some ⟨O, 0, none⟩) ot.length ot.length, .int .i64 st]) rfl rfl (by kernel_rfl) (by kernel_rfl) (by kernel_rfl) (by kernel_rfl) (by rfl) hq (fun W' hSw => (by
        have k0 := hSw.cell (i := 0) (by omega); have k1 := hSw.cell (i := 1) (by omega); have k2 := hSw.cell (i := 2) (by omega); have k3 := hSw.cell (i := 3) (by omega); have k4 := hSw.cell (i := 4) (by omega); have k5 := hSw.cell (i := 5) (by omega); have k6 := hSw.cell (i := 6) (by omega); have k7 := hSw.cell (i := 7) (by omega); have k8 := hSw.cell (i := 8) (by omega); have k9 := hSw.cell (i := 9) (by omega); have k10 := hSw.cell (i := 10) (by omega); have k11 := hSw.cell (i := 11) (by omega); have k12 := hSw.cell (i := 12) (by omega)
        go_simp; first | done | with_reducible rfl)) ?_
      simp only [List.setIfInBounds_toArray, List.set_cons_zero, List.set_cons_succ]
      refine Disk.z_call 1 55 rfl rfl (by kernel_rfl) (by rfl) (f := 77) (args := #[.pointer (some ⟨A, 0, none⟩)]) (w0 := w10.drew) (by go_simp; first | done | with_reducible rfl) ?_
      refine (hasParts_any A g1 g2 oa oc h w10.drew (KMA.later (Below.refl _ _).drew) hk kl).mono ?_
      rintro e w11 ⟨rfl, hb11⟩
      have b11 : Below w10.heap.size w10 w11 := bel_after (Below.refl _ _).drew hb11
      have KB1 := KB.of_block (b11.block _ KB.lt)
      have RZ1 := RZ.of_block (b11.block _ RZ.lt)
      have RO1 := RO.later b11
      refine ⟨_, rfl, .inr KB1, ?_⟩
      simp only [List.setIfInBounds_toArray, List.set_cons_zero, List.set_cons_succ]
      have hrun := run_store_box w11 74 74 (w.heap.size + 1) 13 #[.slice (some ⟨g1, 0, none⟩) h.words.length h.words.length, .slice oa (obC h).length oc, .slice (some ⟨g2, 0, none⟩) h.roots.length h.roots.length, .int .i64 h.old, .int .i64 h.eden, .int .i64 h.surv, .bool h.flip, .int .i64 h.hash, .slice (some ⟨g3, 0, none⟩) h.kept.length h.kept.length, .slice (some ⟨P, 0, none⟩) pr.length pr.length, .int .i64 pc, .slice (some ⟨O, 0, none⟩) ot.length ot.length, .int .i64 st] f RZ1 rfl (by kernel_rfl) OKM
      have KA := row_set w11 (w.heap.size + 1) 74 13 #[.slice (some ⟨g1, 0, none⟩) h.words.length h.words.length, .slice oa (obC h).length oc, .slice (some ⟨g2, 0, none⟩) h.roots.length h.roots.length, .int .i64 h.old, .int .i64 h.eden, .int .i64 h.surv, .bool h.flip, .int .i64 h.hash, .slice (some ⟨g3, 0, none⟩) h.kept.length h.kept.length, .slice (some ⟨P, 0, none⟩) pr.length pr.length, .int .i64 pc, .slice (some ⟨O, 0, none⟩) ot.length ot.length, .int .i64 st] f RZ1 rfl
      have GA := grown_setRow w11 (w.heap.size + 1) #[.slice (some ⟨g1, 0, none⟩) h.words.length h.words.length, .slice oa (obC h).length oc, .slice (some ⟨g2, 0, none⟩) h.roots.length h.roots.length, .int .i64 h.old, .int .i64 h.eden, .int .i64 h.surv, .bool h.flip, .int .i64 h.hash, .slice (some ⟨g3, 0, none⟩) h.kept.length h.kept.length, .slice (some ⟨P, 0, none⟩) pr.length pr.length, .int .i64 pc, .slice (some ⟨O, 0, none⟩) ot.length ot.length, .int .i64 st]
      have nA : A ≠ w.heap.size + 1 := by omega
      have nO : O ≠ w.heap.size + 1 := by omega
      have KB2 := KB1.of_block (GA.block _ KB1.lt (by intro e; cases e; exact nA rfl))
      have RO2 := RO1.grown GA (by intro e; cases e; exact nO rfl)
      have b10 : Below w.heap.size w w10 := BW6.trans (hs.mono (by omega))
      have BA : Below w.heap.size w (w11.setRow (w.heap.size + 1) #[.slice (some ⟨g1, 0, none⟩) h.words.length h.words.length, .slice oa (obC h).length oc, .slice (some ⟨g2, 0, none⟩) h.roots.length h.roots.length, .int .i64 h.old, .int .i64 h.eden, .int .i64 h.surv, .bool h.flip, .int .i64 h.hash, .slice (some ⟨g3, 0, none⟩) h.kept.length h.kept.length, .slice (some ⟨P, 0, none⟩) pr.length pr.length, .int .i64 pc, .slice (some ⟨O, 0, none⟩) ot.length ot.length, .int .i64 st]) := Below.grown (b10.trans (b11.mono b10.size)) GA (by have := b10.size; have := b11.size; omega) (fun q hq => by cases hq; omega)
      refine Disk.z_skip 2 rfl rfl (by kernel_rfl) (by rfl) (exec_storeQ rfl rfl rfl hrun) (.inr KB2) ?_
      clear hrun GA
      obtain ⟨w12, e12⟩ : ∃ x, x = w11.setRow (w.heap.size + 1) #[.slice (some ⟨g1, 0, none⟩) h.words.length h.words.length, .slice oa (obC h).length oc, .slice (some ⟨g2, 0, none⟩) h.roots.length h.roots.length, .int .i64 h.old, .int .i64 h.eden, .int .i64 h.surv, .bool h.flip, .int .i64 h.hash, .slice (some ⟨g3, 0, none⟩) h.kept.length h.kept.length, .slice (some ⟨P, 0, none⟩) pr.length pr.length, .int .i64 pc, .slice (some ⟨O, 0, none⟩) ot.length ot.length, .int .i64 st] := ⟨_, rfl⟩
      rw [← e12] at KA BA RO2 KB2 ⊢
      clear e12 KB KB0 KB1 KMA RZ RZ1 RO RO1
      refine Disk.z_take 3 3 (v := .bool (partsB h)) rfl rfl (by kernel_rfl) (by kernel_rfl) (by kernel_rfl) (by kernel_rfl) (by rfl) KB2 (fun W' hSw => (by
        clear hSw
        go_simp; first | done | with_reducible rfl)) ?_
      simp only [List.setIfInBounds_toArray, List.set_cons_zero, List.set_cons_succ]
      refine Disk.z_done (by kernel_rfl) ?_ _
      have r0 : w12.cell? ⟨w.heap.size + 1, 0, none⟩ = some (.slice (some ⟨g1, 0, none⟩) h.words.length h.words.length) := KA.cell (i := 0) (by omega)
      have r1 : w12.cell? ⟨w.heap.size + 1, 1, none⟩ = some (.slice oa (obC h).length oc) := KA.cell (i := 1) (by omega)
      have r2 : w12.cell? ⟨w.heap.size + 1, 2, none⟩ = some (.slice (some ⟨g2, 0, none⟩) h.roots.length h.roots.length) := KA.cell (i := 2) (by omega)
      have r3 : w12.cell? ⟨w.heap.size + 1, 3, none⟩ = some (.int .i64 h.old) := KA.cell (i := 3) (by omega)
      have r4 : w12.cell? ⟨w.heap.size + 1, 4, none⟩ = some (.int .i64 h.eden) := KA.cell (i := 4) (by omega)
      have r5 : w12.cell? ⟨w.heap.size + 1, 5, none⟩ = some (.int .i64 h.surv) := KA.cell (i := 5) (by omega)
      have r6 : w12.cell? ⟨w.heap.size + 1, 6, none⟩ = some (.bool h.flip) := KA.cell (i := 6) (by omega)
      have r7 : w12.cell? ⟨w.heap.size + 1, 7, none⟩ = some (.int .i64 h.hash) := KA.cell (i := 7) (by omega)
      have r8 : w12.cell? ⟨w.heap.size + 1, 8, none⟩ = some (.slice (some ⟨g3, 0, none⟩) h.kept.length h.kept.length) := KA.cell (i := 8) (by omega)
      have r9 : w12.cell? ⟨w.heap.size + 1, 9, none⟩ = some (.slice (some ⟨P, 0, none⟩) pr.length pr.length) := KA.cell (i := 9) (by omega)
      have r10 : w12.cell? ⟨w.heap.size + 1, 10, none⟩ = some (.int .i64 pc) := KA.cell (i := 10) (by omega)
      have r11 : w12.cell? ⟨w.heap.size + 1, 11, none⟩ = some (.slice (some ⟨O, 0, none⟩) ot.length ot.length) := KA.cell (i := 11) (by omega)
      have r12 : w12.cell? ⟨w.heap.size + 1, 12, none⟩ = some (.int .i64 st) := KA.cell (i := 12) (by omega)
      go_wp2
      exact bodyPost_ret (v := .tuple #[.agg #[.slice (some ⟨g1, 0, none⟩) h.words.length h.words.length, .slice oa (obC h).length oc, .slice (some ⟨g2, 0, none⟩) h.roots.length h.roots.length, .int .i64 h.old, .int .i64 h.eden, .int .i64 h.surv, .bool h.flip, .int .i64 h.hash, .slice (some ⟨g3, 0, none⟩) h.kept.length h.kept.length, .slice (some ⟨P, 0, none⟩) pr.length pr.length, .int .i64 pc, .slice (some ⟨O, 0, none⟩) ot.length ot.length, .int .i64 st], .bool (partsB h)]) (by simp [results, Tryz.results44, go_sem, r0, r1, r2, r3, r4, r5, r6, r7, r8, r9, r10, r11, r12]) rfl ⟨.inl ⟨OKF.out, g1, g2, g3, P, O, oa, oc, rfl, RO2, by omega⟩, BA⟩
    · have leN : N6 ≤ w8.heap.size := by have := hs.size; omega
      refine o_run 12 6 (w' := w8.alloc (.cells #[.slice none 0 0, .slice none 0 0, .slice none 0 0, .int .i64 0, .int .i64 0, .int .i64 0, .bool false, .int .i64 0, .slice none 0 0, .slice none 0 0, .int .i64 0, .slice none 0 0, .int .i64 0] 74)) (v := .pointer (some ⟨w8.heap.size, 0, none⟩)) rfl rfl (by rfl) (by go_simp; first | done | with_reducible rfl) (.inr (hs.trans ((bel_one w8 _).mono leN))) ?_
      simp only [List.setIfInBounds_toArray, List.set_cons_zero, List.set_cons_succ]
      obtain ⟨w9, ew9⟩ : ∃ x, x = w8.alloc (.cells #[.slice none 0 0, .slice none 0 0, .slice none 0 0, .int .i64 0, .int .i64 0, .int .i64 0, .bool false, .int .i64 0, .slice none 0 0, .slice none 0 0, .int .i64 0, .slice none 0 0, .int .i64 0] 74) := ⟨_, rfl⟩
      obtain ⟨fA, RA⟩ : ∃ fA, w9.rowIs w8.heap.size 74 13 fA := ⟨_, by rw [ew9]; exact row_any w8 #[.slice none 0 0, .slice none 0 0, .slice none 0 0, .int .i64 0, .int .i64 0, .int .i64 0, .bool false, .int .i64 0, .slice none 0 0, .slice none 0 0, .int .i64 0, .slice none 0 0, .int .i64 0] 74⟩
      have BX : Below w8.heap.size w8 w9 := by rw [ew9]; exact bel_one w8 _
      rw [← ew9]
      have ltw9 : w8.heap.size < w9.heap.size := RA.lt
      clear ew9
      obtain ⟨A, eA⟩ : ∃ x, x = w8.heap.size := ⟨_, rfl⟩
      rw [← eA] at RA ⊢
      have lA : N6 ≤ A := by omega
      have RP := RP.later BX
      have hs := hs.trans (BX.mono leN)
      clear BX
      have leN : N6 ≤ w9.heap.size := by have := hs.size; omega
      refine Disk.z_call 8 50 rfl rfl (by kernel_rfl) (by rfl) (f := 76) (args := #[.slice ao ot.length co]) (w0 := w9) (by go_simp; first | done | with_reducible rfl) ?_
      refine (copyList_any _ ot w9 (HOT _ hs) (by omega)).mono ?_
      rintro e wa ⟨⟨rfl, RO, ltwa⟩, BX⟩
      refine ⟨_, rfl, .inr (hs.trans (BX.mono leN)), ?_⟩
      simp only [List.setIfInBounds_toArray, List.set_cons_zero, List.set_cons_succ]
      obtain ⟨O, eO⟩ : ∃ x, x = w9.heap.size := ⟨_, rfl⟩
      rw [← eO] at RO ⊢
      have lO : N6 ≤ O := by omega
      have RP := RP.later BX
      have RA := RA.of_block (BX.block _ RA.lt)
      have hs := hs.trans (BX.mono leN)
      clear BX
      refine Disk.z_take 11 53 (v := .agg #[.slice (some ⟨g1, 0, none⟩) h.words.length h.words.length, .slice oa (obC h).length oc, .slice (some ⟨g2, 0, none⟩) h.roots.length h.roots.length, .int .i64 h.old, .int .i64 h.eden, .int .i64 h.surv, .bool h.flip, .int .i64 h.hash, .slice (some ⟨g3, 0, none⟩) h.kept.length h.kept.length, .slice (some ⟨P, 0, none⟩) pr.length pr.length, .int .i64 pc, .slice (some ⟨O, 0, none⟩) ot.length ot.length, .int .i64 st]) rfl rfl (by kernel_rfl) (by kernel_rfl) (by kernel_rfl) (by kernel_rfl) (by rfl) hs (fun W' hSw => (by
        clear hSw
        go_simp; first | done | with_reducible rfl)) ?_
      simp only [List.setIfInBounds_toArray, List.set_cons_zero, List.set_cons_succ]
      have OKM : (#[.slice (some ⟨g1, 0, none⟩) h.words.length h.words.length, .slice oa (obC h).length oc, .slice (some ⟨g2, 0, none⟩) h.roots.length h.roots.length, .int .i64 h.old, .int .i64 h.eden, .int .i64 h.surv, .bool h.flip, .int .i64 h.hash, .slice (some ⟨g3, 0, none⟩) h.kept.length h.kept.length, .slice (some ⟨P, 0, none⟩) pr.length pr.length, .int .i64 pc, .slice (some ⟨O, 0, none⟩) ot.length ot.length, .int .i64 st] : Array Value).all (·.oneCell') = true := by simp [Value.oneCell']
      have hrun := run_store_box wa 74 74 A 13 #[.slice (some ⟨g1, 0, none⟩) h.words.length h.words.length, .slice oa (obC h).length oc, .slice (some ⟨g2, 0, none⟩) h.roots.length h.roots.length, .int .i64 h.old, .int .i64 h.eden, .int .i64 h.surv, .bool h.flip, .int .i64 h.hash, .slice (some ⟨g3, 0, none⟩) h.kept.length h.kept.length, .slice (some ⟨P, 0, none⟩) pr.length pr.length, .int .i64 pc, .slice (some ⟨O, 0, none⟩) ot.length ot.length, .int .i64 st] fA RA rfl (by kernel_rfl) OKM
      have KB := row_set wa A 74 13 #[.slice (some ⟨g1, 0, none⟩) h.words.length h.words.length, .slice oa (obC h).length oc, .slice (some ⟨g2, 0, none⟩) h.roots.length h.roots.length, .int .i64 h.old, .int .i64 h.eden, .int .i64 h.surv, .bool h.flip, .int .i64 h.hash, .slice (some ⟨g3, 0, none⟩) h.kept.length h.kept.length, .slice (some ⟨P, 0, none⟩) pr.length pr.length, .int .i64 pc, .slice (some ⟨O, 0, none⟩) ot.length ot.length, .int .i64 st] fA RA rfl
      have GB := grown_setRow wa A #[.slice (some ⟨g1, 0, none⟩) h.words.length h.words.length, .slice oa (obC h).length oc, .slice (some ⟨g2, 0, none⟩) h.roots.length h.roots.length, .int .i64 h.old, .int .i64 h.eden, .int .i64 h.surv, .bool h.flip, .int .i64 h.hash, .slice (some ⟨g3, 0, none⟩) h.kept.length h.kept.length, .slice (some ⟨P, 0, none⟩) pr.length pr.length, .int .i64 pc, .slice (some ⟨O, 0, none⟩) ot.length ot.length, .int .i64 st]
      have nOA : O ≠ A := by omega
      have RO := RO.grown GB (by intro e; cases e; exact nOA rfl)
      have hs : Below N6 w6 (wa.setRow A #[.slice (some ⟨g1, 0, none⟩) h.words.length h.words.length, .slice oa (obC h).length oc, .slice (some ⟨g2, 0, none⟩) h.roots.length h.roots.length, .int .i64 h.old, .int .i64 h.eden, .int .i64 h.surv, .bool h.flip, .int .i64 h.hash, .slice (some ⟨g3, 0, none⟩) h.kept.length h.kept.length, .slice (some ⟨P, 0, none⟩) pr.length pr.length, .int .i64 pc, .slice (some ⟨O, 0, none⟩) ot.length ot.length, .int .i64 st]) := Below.grown hs GB (by have := hs.size; omega) (fun q hq => by cases hq; exact lA)
      clear GB RA RP
      refine Disk.z_skip 13 rfl rfl (by kernel_rfl) (by rfl) (exec_storeQ rfl rfl rfl hrun) (.inr hs) ?_
      refine Disk.z_done (by kernel_rfl) ?_ _
      clear hrun eA eP eO
      obtain ⟨w10, e10⟩ : ∃ x, x = wa.setRow A #[.slice (some ⟨g1, 0, none⟩) h.words.length h.words.length, .slice oa (obC h).length oc, .slice (some ⟨g2, 0, none⟩) h.roots.length h.roots.length, .int .i64 h.old, .int .i64 h.eden, .int .i64 h.surv, .bool h.flip, .int .i64 h.hash, .slice (some ⟨g3, 0, none⟩) h.kept.length h.kept.length, .slice (some ⟨P, 0, none⟩) pr.length pr.length, .int .i64 pc, .slice (some ⟨O, 0, none⟩) ot.length ot.length, .int .i64 st] := ⟨_, rfl⟩
      rw [← e10] at KB hs RO ⊢
      clear e10
      have le10 : N6 ≤ w10.heap.size := by have := hs.size; omega
      have RZ := R6.of_block (hs.block _ (by omega))
      have KMA : KM w10 A g1 g2 oa oc h := ⟨by rw [← HL.out]; exact KB.cell (i := 0) (by omega), KB.cell (i := 1) (by omega), KB.cell (i := 2) (by omega), fun j hj => by rw [Nat.zero_add]; exact (QB _ hs).1.cell hj, fun j hj => (QB _ hs).2.1.cell hj, (QB _ hs).2.2⟩
      have KB0 := KB
      go_wp2_with fail
      refine Disk.z_plain 99 (fun W' => W'.rowIs A 74 13 (fun i => ((#[.slice (some ⟨g1, 0, none⟩) h.words.length h.words.length, .slice oa (obC h).length oc, .slice (some ⟨g2, 0, none⟩) h.roots.length h.roots.length, .int .i64 h.old, .int .i64 h.eden, .int .i64 h.surv, .bool h.flip, .int .i64 h.hash, .slice (some ⟨g3, 0, none⟩) h.kept.length h.kept.length, .slice (some ⟨P, 0, none⟩) pr.length pr.length, .int .i64 pc, .slice (some ⟨O, 0, none⟩) ot.length ot.length, .int .i64 st] : Array Value))[i]?.getD undef)) (by kernel_rfl) (KB0.of_block rfl) fun hq => ?_
      refine Disk.z_take 0 54 (v := .agg #[.slice (some ⟨g1, 0, none⟩) h.words.length h.words.length, .slice oa (obC h).length oc, .slice (some ⟨g2, 0, none⟩) h.roots.length h.roots.length, .int .i64 h.old, .int .i64 h.eden, .int .i64 h.surv, .bool h.flip, .int .i64 h.hash, .slice (some ⟨g3, 0, none⟩) h.kept.length h.kept.length, .slice (some ⟨P, 0, none⟩) pr.length pr.length, .int .i64 pc, .slice (some ⟨O, 0, none⟩) ot.length ot.length, .int .i64 st]) rfl rfl (by kernel_rfl) (by kernel_rfl) (by kernel_rfl) (by kernel_rfl) (by rfl) hq (fun W' hSw => (by
        have k0 := hSw.cell (i := 0) (by omega); have k1 := hSw.cell (i := 1) (by omega); have k2 := hSw.cell (i := 2) (by omega); have k3 := hSw.cell (i := 3) (by omega); have k4 := hSw.cell (i := 4) (by omega); have k5 := hSw.cell (i := 5) (by omega); have k6 := hSw.cell (i := 6) (by omega); have k7 := hSw.cell (i := 7) (by omega); have k8 := hSw.cell (i := 8) (by omega); have k9 := hSw.cell (i := 9) (by omega); have k10 := hSw.cell (i := 10) (by omega); have k11 := hSw.cell (i := 11) (by omega); have k12 := hSw.cell (i := 12) (by omega)
        go_simp; first | done | with_reducible rfl)) ?_
      simp only [List.setIfInBounds_toArray, List.set_cons_zero, List.set_cons_succ]
      refine Disk.z_call 1 55 rfl rfl (by kernel_rfl) (by rfl) (f := 77) (args := #[.pointer (some ⟨A, 0, none⟩)]) (w0 := w10.drew) (by go_simp; first | done | with_reducible rfl) ?_
      refine (hasParts_any A g1 g2 oa oc h w10.drew (KMA.later (Below.refl _ _).drew) hk kl).mono ?_
      rintro e w11 ⟨rfl, hb11⟩
      have b11 : Below w10.heap.size w10 w11 := bel_after (Below.refl _ _).drew hb11
      have KB1 := KB.of_block (b11.block _ KB.lt)
      have RZ1 := RZ.of_block (b11.block _ RZ.lt)
      have RO1 := RO.later b11
      refine ⟨_, rfl, .inr KB1, ?_⟩
      simp only [List.setIfInBounds_toArray, List.set_cons_zero, List.set_cons_succ]
      have hrun := run_store_box w11 74 74 (w.heap.size + 1) 13 #[.slice (some ⟨g1, 0, none⟩) h.words.length h.words.length, .slice oa (obC h).length oc, .slice (some ⟨g2, 0, none⟩) h.roots.length h.roots.length, .int .i64 h.old, .int .i64 h.eden, .int .i64 h.surv, .bool h.flip, .int .i64 h.hash, .slice (some ⟨g3, 0, none⟩) h.kept.length h.kept.length, .slice (some ⟨P, 0, none⟩) pr.length pr.length, .int .i64 pc, .slice (some ⟨O, 0, none⟩) ot.length ot.length, .int .i64 st] f RZ1 rfl (by kernel_rfl) OKM
      have KA := row_set w11 (w.heap.size + 1) 74 13 #[.slice (some ⟨g1, 0, none⟩) h.words.length h.words.length, .slice oa (obC h).length oc, .slice (some ⟨g2, 0, none⟩) h.roots.length h.roots.length, .int .i64 h.old, .int .i64 h.eden, .int .i64 h.surv, .bool h.flip, .int .i64 h.hash, .slice (some ⟨g3, 0, none⟩) h.kept.length h.kept.length, .slice (some ⟨P, 0, none⟩) pr.length pr.length, .int .i64 pc, .slice (some ⟨O, 0, none⟩) ot.length ot.length, .int .i64 st] f RZ1 rfl
      have GA := grown_setRow w11 (w.heap.size + 1) #[.slice (some ⟨g1, 0, none⟩) h.words.length h.words.length, .slice oa (obC h).length oc, .slice (some ⟨g2, 0, none⟩) h.roots.length h.roots.length, .int .i64 h.old, .int .i64 h.eden, .int .i64 h.surv, .bool h.flip, .int .i64 h.hash, .slice (some ⟨g3, 0, none⟩) h.kept.length h.kept.length, .slice (some ⟨P, 0, none⟩) pr.length pr.length, .int .i64 pc, .slice (some ⟨O, 0, none⟩) ot.length ot.length, .int .i64 st]
      have nA : A ≠ w.heap.size + 1 := by omega
      have nO : O ≠ w.heap.size + 1 := by omega
      have KB2 := KB1.of_block (GA.block _ KB1.lt (by intro e; cases e; exact nA rfl))
      have RO2 := RO1.grown GA (by intro e; cases e; exact nO rfl)
      have b10 : Below w.heap.size w w10 := BW6.trans (hs.mono (by omega))
      have BA : Below w.heap.size w (w11.setRow (w.heap.size + 1) #[.slice (some ⟨g1, 0, none⟩) h.words.length h.words.length, .slice oa (obC h).length oc, .slice (some ⟨g2, 0, none⟩) h.roots.length h.roots.length, .int .i64 h.old, .int .i64 h.eden, .int .i64 h.surv, .bool h.flip, .int .i64 h.hash, .slice (some ⟨g3, 0, none⟩) h.kept.length h.kept.length, .slice (some ⟨P, 0, none⟩) pr.length pr.length, .int .i64 pc, .slice (some ⟨O, 0, none⟩) ot.length ot.length, .int .i64 st]) := Below.grown (b10.trans (b11.mono b10.size)) GA (by have := b10.size; have := b11.size; omega) (fun q hq => by cases hq; omega)
      refine Disk.z_skip 2 rfl rfl (by kernel_rfl) (by rfl) (exec_storeQ rfl rfl rfl hrun) (.inr KB2) ?_
      clear hrun GA
      obtain ⟨w12, e12⟩ : ∃ x, x = w11.setRow (w.heap.size + 1) #[.slice (some ⟨g1, 0, none⟩) h.words.length h.words.length, .slice oa (obC h).length oc, .slice (some ⟨g2, 0, none⟩) h.roots.length h.roots.length, .int .i64 h.old, .int .i64 h.eden, .int .i64 h.surv, .bool h.flip, .int .i64 h.hash, .slice (some ⟨g3, 0, none⟩) h.kept.length h.kept.length, .slice (some ⟨P, 0, none⟩) pr.length pr.length, .int .i64 pc, .slice (some ⟨O, 0, none⟩) ot.length ot.length, .int .i64 st] := ⟨_, rfl⟩
      rw [← e12] at KA BA RO2 KB2 ⊢
      clear e12 KB KB0 KB1 KMA RZ RZ1 RO RO1
      refine Disk.z_take 3 3 (v := .bool (partsB h)) rfl rfl (by kernel_rfl) (by kernel_rfl) (by kernel_rfl) (by kernel_rfl) (by rfl) KB2 (fun W' hSw => (by
        clear hSw
        go_simp; first | done | with_reducible rfl)) ?_
      simp only [List.setIfInBounds_toArray, List.set_cons_zero, List.set_cons_succ]
      refine Disk.z_done (by kernel_rfl) ?_ _
      have r0 : w12.cell? ⟨w.heap.size + 1, 0, none⟩ = some (.slice (some ⟨g1, 0, none⟩) h.words.length h.words.length) := KA.cell (i := 0) (by omega)
      have r1 : w12.cell? ⟨w.heap.size + 1, 1, none⟩ = some (.slice oa (obC h).length oc) := KA.cell (i := 1) (by omega)
      have r2 : w12.cell? ⟨w.heap.size + 1, 2, none⟩ = some (.slice (some ⟨g2, 0, none⟩) h.roots.length h.roots.length) := KA.cell (i := 2) (by omega)
      have r3 : w12.cell? ⟨w.heap.size + 1, 3, none⟩ = some (.int .i64 h.old) := KA.cell (i := 3) (by omega)
      have r4 : w12.cell? ⟨w.heap.size + 1, 4, none⟩ = some (.int .i64 h.eden) := KA.cell (i := 4) (by omega)
      have r5 : w12.cell? ⟨w.heap.size + 1, 5, none⟩ = some (.int .i64 h.surv) := KA.cell (i := 5) (by omega)
      have r6 : w12.cell? ⟨w.heap.size + 1, 6, none⟩ = some (.bool h.flip) := KA.cell (i := 6) (by omega)
      have r7 : w12.cell? ⟨w.heap.size + 1, 7, none⟩ = some (.int .i64 h.hash) := KA.cell (i := 7) (by omega)
      have r8 : w12.cell? ⟨w.heap.size + 1, 8, none⟩ = some (.slice (some ⟨g3, 0, none⟩) h.kept.length h.kept.length) := KA.cell (i := 8) (by omega)
      have r9 : w12.cell? ⟨w.heap.size + 1, 9, none⟩ = some (.slice (some ⟨P, 0, none⟩) pr.length pr.length) := KA.cell (i := 9) (by omega)
      have r10 : w12.cell? ⟨w.heap.size + 1, 10, none⟩ = some (.int .i64 pc) := KA.cell (i := 10) (by omega)
      have r11 : w12.cell? ⟨w.heap.size + 1, 11, none⟩ = some (.slice (some ⟨O, 0, none⟩) ot.length ot.length) := KA.cell (i := 11) (by omega)
      have r12 : w12.cell? ⟨w.heap.size + 1, 12, none⟩ = some (.int .i64 st) := KA.cell (i := 12) (by omega)
      go_wp2
      exact bodyPost_ret (v := .tuple #[.agg #[.slice (some ⟨g1, 0, none⟩) h.words.length h.words.length, .slice oa (obC h).length oc, .slice (some ⟨g2, 0, none⟩) h.roots.length h.roots.length, .int .i64 h.old, .int .i64 h.eden, .int .i64 h.surv, .bool h.flip, .int .i64 h.hash, .slice (some ⟨g3, 0, none⟩) h.kept.length h.kept.length, .slice (some ⟨P, 0, none⟩) pr.length pr.length, .int .i64 pc, .slice (some ⟨O, 0, none⟩) ot.length ot.length, .int .i64 st], .bool (partsB h)]) (by simp [results, Tryz.results44, go_sem, r0, r1, r2, r3, r4, r5, r6, r7, r8, r9, r10, r11, r12]) rfl ⟨.inl ⟨OKF.out, g1, g2, g3, P, O, oa, oc, rfl, RO2, by omega⟩, BA⟩
  · have leN : N6 ≤ w7.heap.size := by have := hs.size; omega
    refine o_run 12 6 (w' := w7.alloc (.cells #[.slice none 0 0, .slice none 0 0, .slice none 0 0, .int .i64 0, .int .i64 0, .int .i64 0, .bool false, .int .i64 0, .slice none 0 0, .slice none 0 0, .int .i64 0, .slice none 0 0, .int .i64 0] 74)) (v := .pointer (some ⟨w7.heap.size, 0, none⟩)) rfl rfl (by rfl) (by go_simp; first | done | with_reducible rfl) (.inr (hs.trans ((bel_one w7 _).mono leN))) ?_
    simp only [List.setIfInBounds_toArray, List.set_cons_zero, List.set_cons_succ]
    obtain ⟨w8, ew8⟩ : ∃ x, x = w7.alloc (.cells #[.slice none 0 0, .slice none 0 0, .slice none 0 0, .int .i64 0, .int .i64 0, .int .i64 0, .bool false, .int .i64 0, .slice none 0 0, .slice none 0 0, .int .i64 0, .slice none 0 0, .int .i64 0] 74) := ⟨_, rfl⟩
    obtain ⟨fA, RA⟩ : ∃ fA, w8.rowIs w7.heap.size 74 13 fA := ⟨_, by rw [ew8]; exact row_any w7 #[.slice none 0 0, .slice none 0 0, .slice none 0 0, .int .i64 0, .int .i64 0, .int .i64 0, .bool false, .int .i64 0, .slice none 0 0, .slice none 0 0, .int .i64 0, .slice none 0 0, .int .i64 0] 74⟩
    have BX : Below w7.heap.size w7 w8 := by rw [ew8]; exact bel_one w7 _
    rw [← ew8]
    have ltw8 : w7.heap.size < w8.heap.size := RA.lt
    clear ew8
    obtain ⟨A, eA⟩ : ∃ x, x = w7.heap.size := ⟨_, rfl⟩
    rw [← eA] at RA ⊢
    have lA : N6 ≤ A := by omega
    have hs := hs.trans (BX.mono leN)
    clear BX
    have leN : N6 ≤ w8.heap.size := by have := hs.size; omega
    refine Disk.z_call 3 45 rfl rfl (by kernel_rfl) (by rfl) (f := 38) (args := #[.slice ap pr.length cp]) (w0 := w8) (by go_simp; first | done | with_reducible rfl) ?_
    refine (copyCodes_any _ pr w8 (HPR _ hs) (by omega)).mono ?_
    rintro e w9 ⟨⟨rfl, RP, ltw9⟩, BX⟩
    refine ⟨_, rfl, .inr (hs.trans (BX.mono leN)), ?_⟩
    simp only [List.setIfInBounds_toArray, List.set_cons_zero, List.set_cons_succ]
    obtain ⟨P, eP⟩ : ∃ x, x = w8.heap.size := ⟨_, rfl⟩
    rw [← eP] at RP ⊢
    have lP : N6 ≤ P := by omega
    have RA := RA.of_block (BX.block _ RA.lt)
    have hs := hs.trans (BX.mono leN)
    clear BX
    have leN : N6 ≤ w9.heap.size := by have := hs.size; omega
    refine Disk.z_call 8 50 rfl rfl (by kernel_rfl) (by rfl) (f := 76) (args := #[.slice ao ot.length co]) (w0 := w9) (by go_simp; first | done | with_reducible rfl) ?_
    refine (copyList_any _ ot w9 (HOT _ hs) (by omega)).mono ?_
    rintro e wa ⟨⟨rfl, RO, ltwa⟩, BX⟩
    refine ⟨_, rfl, .inr (hs.trans (BX.mono leN)), ?_⟩
    simp only [List.setIfInBounds_toArray, List.set_cons_zero, List.set_cons_succ]
    obtain ⟨O, eO⟩ : ∃ x, x = w9.heap.size := ⟨_, rfl⟩
    rw [← eO] at RO ⊢
    have lO : N6 ≤ O := by omega
    have RA := RA.of_block (BX.block _ RA.lt)
    have RP := RP.later BX
    have hs := hs.trans (BX.mono leN)
    clear BX
    refine Disk.z_take 11 53 (v := .agg #[.slice (some ⟨g1, 0, none⟩) h.words.length h.words.length, .slice oa (obC h).length oc, .slice (some ⟨g2, 0, none⟩) h.roots.length h.roots.length, .int .i64 h.old, .int .i64 h.eden, .int .i64 h.surv, .bool h.flip, .int .i64 h.hash, .slice (some ⟨g3, 0, none⟩) h.kept.length h.kept.length, .slice (some ⟨P, 0, none⟩) pr.length pr.length, .int .i64 pc, .slice (some ⟨O, 0, none⟩) ot.length ot.length, .int .i64 st]) rfl rfl (by kernel_rfl) (by kernel_rfl) (by kernel_rfl) (by kernel_rfl) (by rfl) hs (fun W' hSw => (by
      clear hSw
      go_simp; first | done | with_reducible rfl)) ?_
    simp only [List.setIfInBounds_toArray, List.set_cons_zero, List.set_cons_succ]
    have OKM : (#[.slice (some ⟨g1, 0, none⟩) h.words.length h.words.length, .slice oa (obC h).length oc, .slice (some ⟨g2, 0, none⟩) h.roots.length h.roots.length, .int .i64 h.old, .int .i64 h.eden, .int .i64 h.surv, .bool h.flip, .int .i64 h.hash, .slice (some ⟨g3, 0, none⟩) h.kept.length h.kept.length, .slice (some ⟨P, 0, none⟩) pr.length pr.length, .int .i64 pc, .slice (some ⟨O, 0, none⟩) ot.length ot.length, .int .i64 st] : Array Value).all (·.oneCell') = true := by simp [Value.oneCell']
    have hrun := run_store_box wa 74 74 A 13 #[.slice (some ⟨g1, 0, none⟩) h.words.length h.words.length, .slice oa (obC h).length oc, .slice (some ⟨g2, 0, none⟩) h.roots.length h.roots.length, .int .i64 h.old, .int .i64 h.eden, .int .i64 h.surv, .bool h.flip, .int .i64 h.hash, .slice (some ⟨g3, 0, none⟩) h.kept.length h.kept.length, .slice (some ⟨P, 0, none⟩) pr.length pr.length, .int .i64 pc, .slice (some ⟨O, 0, none⟩) ot.length ot.length, .int .i64 st] fA RA rfl (by kernel_rfl) OKM
    have KB := row_set wa A 74 13 #[.slice (some ⟨g1, 0, none⟩) h.words.length h.words.length, .slice oa (obC h).length oc, .slice (some ⟨g2, 0, none⟩) h.roots.length h.roots.length, .int .i64 h.old, .int .i64 h.eden, .int .i64 h.surv, .bool h.flip, .int .i64 h.hash, .slice (some ⟨g3, 0, none⟩) h.kept.length h.kept.length, .slice (some ⟨P, 0, none⟩) pr.length pr.length, .int .i64 pc, .slice (some ⟨O, 0, none⟩) ot.length ot.length, .int .i64 st] fA RA rfl
    have GB := grown_setRow wa A #[.slice (some ⟨g1, 0, none⟩) h.words.length h.words.length, .slice oa (obC h).length oc, .slice (some ⟨g2, 0, none⟩) h.roots.length h.roots.length, .int .i64 h.old, .int .i64 h.eden, .int .i64 h.surv, .bool h.flip, .int .i64 h.hash, .slice (some ⟨g3, 0, none⟩) h.kept.length h.kept.length, .slice (some ⟨P, 0, none⟩) pr.length pr.length, .int .i64 pc, .slice (some ⟨O, 0, none⟩) ot.length ot.length, .int .i64 st]
    have nOA : O ≠ A := by omega
    have RO := RO.grown GB (by intro e; cases e; exact nOA rfl)
    have hs : Below N6 w6 (wa.setRow A #[.slice (some ⟨g1, 0, none⟩) h.words.length h.words.length, .slice oa (obC h).length oc, .slice (some ⟨g2, 0, none⟩) h.roots.length h.roots.length, .int .i64 h.old, .int .i64 h.eden, .int .i64 h.surv, .bool h.flip, .int .i64 h.hash, .slice (some ⟨g3, 0, none⟩) h.kept.length h.kept.length, .slice (some ⟨P, 0, none⟩) pr.length pr.length, .int .i64 pc, .slice (some ⟨O, 0, none⟩) ot.length ot.length, .int .i64 st]) := Below.grown hs GB (by have := hs.size; omega) (fun q hq => by cases hq; exact lA)
    clear GB RA RP
    refine Disk.z_skip 13 rfl rfl (by kernel_rfl) (by rfl) (exec_storeQ rfl rfl rfl hrun) (.inr hs) ?_
    refine Disk.z_done (by kernel_rfl) ?_ _
    clear hrun eA eP eO
    obtain ⟨w10, e10⟩ : ∃ x, x = wa.setRow A #[.slice (some ⟨g1, 0, none⟩) h.words.length h.words.length, .slice oa (obC h).length oc, .slice (some ⟨g2, 0, none⟩) h.roots.length h.roots.length, .int .i64 h.old, .int .i64 h.eden, .int .i64 h.surv, .bool h.flip, .int .i64 h.hash, .slice (some ⟨g3, 0, none⟩) h.kept.length h.kept.length, .slice (some ⟨P, 0, none⟩) pr.length pr.length, .int .i64 pc, .slice (some ⟨O, 0, none⟩) ot.length ot.length, .int .i64 st] := ⟨_, rfl⟩
    rw [← e10] at KB hs RO ⊢
    clear e10
    have le10 : N6 ≤ w10.heap.size := by have := hs.size; omega
    have RZ := R6.of_block (hs.block _ (by omega))
    have KMA : KM w10 A g1 g2 oa oc h := ⟨by rw [← HL.out]; exact KB.cell (i := 0) (by omega), KB.cell (i := 1) (by omega), KB.cell (i := 2) (by omega), fun j hj => by rw [Nat.zero_add]; exact (QB _ hs).1.cell hj, fun j hj => (QB _ hs).2.1.cell hj, (QB _ hs).2.2⟩
    have KB0 := KB
    go_wp2_with fail
    refine Disk.z_plain 99 (fun W' => W'.rowIs A 74 13 (fun i => ((#[.slice (some ⟨g1, 0, none⟩) h.words.length h.words.length, .slice oa (obC h).length oc, .slice (some ⟨g2, 0, none⟩) h.roots.length h.roots.length, .int .i64 h.old, .int .i64 h.eden, .int .i64 h.surv, .bool h.flip, .int .i64 h.hash, .slice (some ⟨g3, 0, none⟩) h.kept.length h.kept.length, .slice (some ⟨P, 0, none⟩) pr.length pr.length, .int .i64 pc, .slice (some ⟨O, 0, none⟩) ot.length ot.length, .int .i64 st] : Array Value))[i]?.getD undef)) (by kernel_rfl) (KB0.of_block rfl) fun hq => ?_
    refine Disk.z_take 0 54 (v := .agg #[.slice (some ⟨g1, 0, none⟩) h.words.length h.words.length, .slice oa (obC h).length oc, .slice (some ⟨g2, 0, none⟩) h.roots.length h.roots.length, .int .i64 h.old, .int .i64 h.eden, .int .i64 h.surv, .bool h.flip, .int .i64 h.hash, .slice (some ⟨g3, 0, none⟩) h.kept.length h.kept.length, .slice (some ⟨P, 0, none⟩) pr.length pr.length, .int .i64 pc, .slice (some ⟨O, 0, none⟩) ot.length ot.length, .int .i64 st]) rfl rfl (by kernel_rfl) (by kernel_rfl) (by kernel_rfl) (by kernel_rfl) (by rfl) hq (fun W' hSw => (by
      have k0 := hSw.cell (i := 0) (by omega); have k1 := hSw.cell (i := 1) (by omega); have k2 := hSw.cell (i := 2) (by omega); have k3 := hSw.cell (i := 3) (by omega); have k4 := hSw.cell (i := 4) (by omega); have k5 := hSw.cell (i := 5) (by omega); have k6 := hSw.cell (i := 6) (by omega); have k7 := hSw.cell (i := 7) (by omega); have k8 := hSw.cell (i := 8) (by omega); have k9 := hSw.cell (i := 9) (by omega); have k10 := hSw.cell (i := 10) (by omega); have k11 := hSw.cell (i := 11) (by omega); have k12 := hSw.cell (i := 12) (by omega)
      go_simp; first | done | with_reducible rfl)) ?_
    simp only [List.setIfInBounds_toArray, List.set_cons_zero, List.set_cons_succ]
    refine Disk.z_call 1 55 rfl rfl (by kernel_rfl) (by rfl) (f := 77) (args := #[.pointer (some ⟨A, 0, none⟩)]) (w0 := w10.drew) (by go_simp; first | done | with_reducible rfl) ?_
    refine (hasParts_any A g1 g2 oa oc h w10.drew (KMA.later (Below.refl _ _).drew) hk kl).mono ?_
    rintro e w11 ⟨rfl, hb11⟩
    have b11 : Below w10.heap.size w10 w11 := bel_after (Below.refl _ _).drew hb11
    have KB1 := KB.of_block (b11.block _ KB.lt)
    have RZ1 := RZ.of_block (b11.block _ RZ.lt)
    have RO1 := RO.later b11
    refine ⟨_, rfl, .inr KB1, ?_⟩
    simp only [List.setIfInBounds_toArray, List.set_cons_zero, List.set_cons_succ]
    have hrun := run_store_box w11 74 74 (w.heap.size + 1) 13 #[.slice (some ⟨g1, 0, none⟩) h.words.length h.words.length, .slice oa (obC h).length oc, .slice (some ⟨g2, 0, none⟩) h.roots.length h.roots.length, .int .i64 h.old, .int .i64 h.eden, .int .i64 h.surv, .bool h.flip, .int .i64 h.hash, .slice (some ⟨g3, 0, none⟩) h.kept.length h.kept.length, .slice (some ⟨P, 0, none⟩) pr.length pr.length, .int .i64 pc, .slice (some ⟨O, 0, none⟩) ot.length ot.length, .int .i64 st] f RZ1 rfl (by kernel_rfl) OKM
    have KA := row_set w11 (w.heap.size + 1) 74 13 #[.slice (some ⟨g1, 0, none⟩) h.words.length h.words.length, .slice oa (obC h).length oc, .slice (some ⟨g2, 0, none⟩) h.roots.length h.roots.length, .int .i64 h.old, .int .i64 h.eden, .int .i64 h.surv, .bool h.flip, .int .i64 h.hash, .slice (some ⟨g3, 0, none⟩) h.kept.length h.kept.length, .slice (some ⟨P, 0, none⟩) pr.length pr.length, .int .i64 pc, .slice (some ⟨O, 0, none⟩) ot.length ot.length, .int .i64 st] f RZ1 rfl
    have GA := grown_setRow w11 (w.heap.size + 1) #[.slice (some ⟨g1, 0, none⟩) h.words.length h.words.length, .slice oa (obC h).length oc, .slice (some ⟨g2, 0, none⟩) h.roots.length h.roots.length, .int .i64 h.old, .int .i64 h.eden, .int .i64 h.surv, .bool h.flip, .int .i64 h.hash, .slice (some ⟨g3, 0, none⟩) h.kept.length h.kept.length, .slice (some ⟨P, 0, none⟩) pr.length pr.length, .int .i64 pc, .slice (some ⟨O, 0, none⟩) ot.length ot.length, .int .i64 st]
    have nA : A ≠ w.heap.size + 1 := by omega
    have nO : O ≠ w.heap.size + 1 := by omega
    have KB2 := KB1.of_block (GA.block _ KB1.lt (by intro e; cases e; exact nA rfl))
    have RO2 := RO1.grown GA (by intro e; cases e; exact nO rfl)
    have b10 : Below w.heap.size w w10 := BW6.trans (hs.mono (by omega))
    have BA : Below w.heap.size w (w11.setRow (w.heap.size + 1) #[.slice (some ⟨g1, 0, none⟩) h.words.length h.words.length, .slice oa (obC h).length oc, .slice (some ⟨g2, 0, none⟩) h.roots.length h.roots.length, .int .i64 h.old, .int .i64 h.eden, .int .i64 h.surv, .bool h.flip, .int .i64 h.hash, .slice (some ⟨g3, 0, none⟩) h.kept.length h.kept.length, .slice (some ⟨P, 0, none⟩) pr.length pr.length, .int .i64 pc, .slice (some ⟨O, 0, none⟩) ot.length ot.length, .int .i64 st]) := Below.grown (b10.trans (b11.mono b10.size)) GA (by have := b10.size; have := b11.size; omega) (fun q hq => by cases hq; omega)
    refine Disk.z_skip 2 rfl rfl (by kernel_rfl) (by rfl) (exec_storeQ rfl rfl rfl hrun) (.inr KB2) ?_
    clear hrun GA
    obtain ⟨w12, e12⟩ : ∃ x, x = w11.setRow (w.heap.size + 1) #[.slice (some ⟨g1, 0, none⟩) h.words.length h.words.length, .slice oa (obC h).length oc, .slice (some ⟨g2, 0, none⟩) h.roots.length h.roots.length, .int .i64 h.old, .int .i64 h.eden, .int .i64 h.surv, .bool h.flip, .int .i64 h.hash, .slice (some ⟨g3, 0, none⟩) h.kept.length h.kept.length, .slice (some ⟨P, 0, none⟩) pr.length pr.length, .int .i64 pc, .slice (some ⟨O, 0, none⟩) ot.length ot.length, .int .i64 st] := ⟨_, rfl⟩
    rw [← e12] at KA BA RO2 KB2 ⊢
    clear e12 KB KB0 KB1 KMA RZ RZ1 RO RO1
    refine Disk.z_take 3 3 (v := .bool (partsB h)) rfl rfl (by kernel_rfl) (by kernel_rfl) (by kernel_rfl) (by kernel_rfl) (by rfl) KB2 (fun W' hSw => (by
      clear hSw
      go_simp; first | done | with_reducible rfl)) ?_
    simp only [List.setIfInBounds_toArray, List.set_cons_zero, List.set_cons_succ]
    refine Disk.z_done (by kernel_rfl) ?_ _
    have r0 : w12.cell? ⟨w.heap.size + 1, 0, none⟩ = some (.slice (some ⟨g1, 0, none⟩) h.words.length h.words.length) := KA.cell (i := 0) (by omega)
    have r1 : w12.cell? ⟨w.heap.size + 1, 1, none⟩ = some (.slice oa (obC h).length oc) := KA.cell (i := 1) (by omega)
    have r2 : w12.cell? ⟨w.heap.size + 1, 2, none⟩ = some (.slice (some ⟨g2, 0, none⟩) h.roots.length h.roots.length) := KA.cell (i := 2) (by omega)
    have r3 : w12.cell? ⟨w.heap.size + 1, 3, none⟩ = some (.int .i64 h.old) := KA.cell (i := 3) (by omega)
    have r4 : w12.cell? ⟨w.heap.size + 1, 4, none⟩ = some (.int .i64 h.eden) := KA.cell (i := 4) (by omega)
    have r5 : w12.cell? ⟨w.heap.size + 1, 5, none⟩ = some (.int .i64 h.surv) := KA.cell (i := 5) (by omega)
    have r6 : w12.cell? ⟨w.heap.size + 1, 6, none⟩ = some (.bool h.flip) := KA.cell (i := 6) (by omega)
    have r7 : w12.cell? ⟨w.heap.size + 1, 7, none⟩ = some (.int .i64 h.hash) := KA.cell (i := 7) (by omega)
    have r8 : w12.cell? ⟨w.heap.size + 1, 8, none⟩ = some (.slice (some ⟨g3, 0, none⟩) h.kept.length h.kept.length) := KA.cell (i := 8) (by omega)
    have r9 : w12.cell? ⟨w.heap.size + 1, 9, none⟩ = some (.slice (some ⟨P, 0, none⟩) pr.length pr.length) := KA.cell (i := 9) (by omega)
    have r10 : w12.cell? ⟨w.heap.size + 1, 10, none⟩ = some (.int .i64 pc) := KA.cell (i := 10) (by omega)
    have r11 : w12.cell? ⟨w.heap.size + 1, 11, none⟩ = some (.slice (some ⟨O, 0, none⟩) ot.length ot.length) := KA.cell (i := 11) (by omega)
    have r12 : w12.cell? ⟨w.heap.size + 1, 12, none⟩ = some (.int .i64 st) := KA.cell (i := 12) (by omega)
    go_wp2
    exact bodyPost_ret (v := .tuple #[.agg #[.slice (some ⟨g1, 0, none⟩) h.words.length h.words.length, .slice oa (obC h).length oc, .slice (some ⟨g2, 0, none⟩) h.roots.length h.roots.length, .int .i64 h.old, .int .i64 h.eden, .int .i64 h.surv, .bool h.flip, .int .i64 h.hash, .slice (some ⟨g3, 0, none⟩) h.kept.length h.kept.length, .slice (some ⟨P, 0, none⟩) pr.length pr.length, .int .i64 pc, .slice (some ⟨O, 0, none⟩) ot.length ot.length, .int .i64 st], .bool (partsB h)]) (by simp [results, Tryz.results44, go_sem, r0, r1, r2, r3, r4, r5, r6, r7, r8, r9, r10, r11, r12]) rfl ⟨.inl ⟨OKF.out, g1, g2, g3, P, O, oa, oc, rfl, RO2, by omega⟩, BA⟩

end Go.Proofs.YtgacacbncefeaaaGreat

/- NewVm of the program. -/
namespace Go.Proofs.YtgacacbncefeaaaGreat
open Go.RowKit

theorem zero_vn (B : Nat) (w : World) : VN B w (.agg #[.slice none 0 0, .slice none 0 0, .int .i64 0, .int .i64 0, .int .i64 0, .bool false, .int .i64 0, .slice none 0 0, .slice none 0 0, .int .i64 0, .slice none 0 0, .int .i64 0]) zeroM :=
  ⟨⟨_, _, _, _, _, rfl, zero_hn B w, ⟨⟨_, _, rfl, Nat.le_refl _, fun i hi => absurd hi (Nat.not_lt_zero i)⟩, ⟨_, _, rfl, .inl rfl⟩⟩, ⟨⟨_, _, rfl, Nat.le_refl _, fun i hi => absurd hi (Nat.not_lt_zero i)⟩, ⟨_, _, rfl, .inl rfl⟩⟩, fun _ h => (zero_row h).elim, fun _ h => (zero_row h).elim⟩⟩

theorem iNew1 (v : Value) (w : World) (hv : HR w v newH) : Calls Tryz.prog 35 #[v, .int .i64 1, .int .i64 40] w fun e w' => (∃ u, e = .returned (.tuple #[u, .int .i64 4001, .bool true]) ∧ HN w.heap.size w' u nT1) ∧ Below w.heap.size w w' := by
  have q := implNew_c v newH 1 40 w hv (by show newW.length ≤ _; rw [newW_length]; omega) (by show ([] : List Int).length ≤ _; simp) (by show ([] : List Int).length ≤ _; simp)
  rw [nW1, nq1] at q
  exact q
theorem iNew2 (v : Value) (w : World) (hv : HR w v nT1) : Calls Tryz.prog 35 #[v, .int .i64 2, .int .i64 10] w fun e w' => (∃ u, e = .returned (.tuple #[u, .int .i64 4089, .bool true]) ∧ HN w.heap.size w' u nT2) ∧ Below w.heap.size w w' := by
  obtain ⟨⟨l1, l2, l3⟩, _⟩ := nT_len
  have q := implNew_c v nT1 2 10 w hv (by omega) (by omega) (by omega)
  rw [nW2, nq2] at q
  exact q
theorem iAdd1 (v : Value) (w : World) (hv : HR w v nT2) : Calls Tryz.prog 37 #[v, .int .i64 4001] w fun e w' => (∃ u, e = .returned (.tuple #[u, .bool true]) ∧ HN w.heap.size w' u nT3) ∧ Below w.heap.size w w' := by
  obtain ⟨_, ⟨l1, l2, l3⟩, _⟩ := nT_len
  have q := implAddRoot_c v nT2 4001 w hv (by omega) (by omega) (by omega)
  rw [nq3] at q
  exact q
theorem iAdd2 (v : Value) (w : World) (hv : HR w v nT3) : Calls Tryz.prog 37 #[v, .int .i64 4089] w fun e w' => (∃ u, e = .returned (.tuple #[u, .bool true]) ∧ HN w.heap.size w' u nT4) ∧ Below w.heap.size w w' := by
  obtain ⟨_, _, ⟨l1, l2, l3⟩, _⟩ := nT_len
  have q := implAddRoot_c v nT3 4089 w hv (by omega) (by omega) (by omega)
  rw [nq4] at q
  exact q

set_option maxRecDepth 100000 in
set_option maxHeartbeats 3200000 in
theorem implNewVm_any (vp : Value) (pr : List Cd) (w : World) (ip : CR w vp pr) (hl : pr.length ≤ 1000000000) :
    Calls Tryz.prog 9 #[vp] w fun e w' => (∃ v, e = .returned (.tuple #[v, .bool (progB pr)]) ∧ VN w.heap.size w' v (nvR pr)) ∧ Below w.heap.size w w' := by
  obtain ⟨M, hM⟩ : ∃ M, M = nvR pr := ⟨_, rfl⟩
  rw [← hM]
  replace hM : Hid (M = nvR pr) := hM
  have hb0 := bel_one w (.cells #[.slice none 0 0, .slice none 0 0, .int .i64 0, .int .i64 0, .int .i64 0, .bool false, .int .i64 0, .slice none 0 0, .slice none 0 0, .int .i64 0, .slice none 0 0, .int .i64 0] 30)
  have R0 : Bk (w.alloc (.cells #[.slice none 0 0, .slice none 0 0, .int .i64 0, .int .i64 0, .int .i64 0, .bool false, .int .i64 0, .slice none 0 0, .slice none 0 0, .int .i64 0, .slice none 0 0, .int .i64 0] 30)) w.heap.size #[.slice none 0 0, .slice none 0 0, .int .i64 0, .int .i64 0, .int .i64 0, .bool false, .int .i64 0, .slice none 0 0, .slice none 0 0, .int .i64 0, .slice none 0 0, .int .i64 0] 30 := Bk.new w _ _
  have P0 := isProgram_any vp pr _ (ip.later hb0) hl
  have ltR := R0.lt
  go_enter Tryz.func9, Tryz.ntmps9
  go_wp2_with fail
  refine P0.mono ?_
  clear P0
  rintro e w1 ⟨rfl, hb1⟩
  have bw1 := bel_after hb0 hb1
  have R1 := R0.later hb1
  have le1 : w.heap.size + 1 ≤ w1.heap.size := R1.lt
  cases PB : progB pr
  case false =>
    have eM : Hid (M = zeroM) := (by rw [hM.out]; unfold nvR; rw [PB]; rfl : M = zeroM)
    obtain ⟨w2, run2, R2, g2, z2⟩ := R1.store 30 #[.slice none 0 0, .slice none 0 0, .int .i64 0, .int .i64 0, .int .i64 0, .bool false, .int .i64 0, .slice none 0 0, .slice none 0 0, .int .i64 0, .slice none 0 0, .int .i64 0] (by simp) (by kernel_rfl) (by simp [Value.oneCell'])
    have bw2 : Below w.heap.size w w2 := Below.grown bw1 g2 bw1.size (fun q hq => by cases hq; omega)
    clear ltR
    go_wp2_with (refine wp_storeK run2 rfl _ _ rfl rfl rfl rfl ?_)
    have r0 := R2.cell 0 (.slice none 0 0) rfl
    have r1 := R2.cell 1 (.slice none 0 0) rfl
    have r2 := R2.cell 2 (.int .i64 0) rfl
    have r3 := R2.cell 3 (.int .i64 0) rfl
    have r4 := R2.cell 4 (.int .i64 0) rfl
    have r5 := R2.cell 5 (.bool false) rfl
    have r6 := R2.cell 6 (.int .i64 0) rfl
    have r7 := R2.cell 7 (.slice none 0 0) rfl
    have r8 := R2.cell 8 (.slice none 0 0) rfl
    have r9 := R2.cell 9 (.int .i64 0) rfl
    have r10 := R2.cell 10 (.slice none 0 0) rfl
    have r11 := R2.cell 11 (.int .i64 0) rfl
    exact bodyPost_ret (v := .tuple #[.agg #[.slice none 0 0, .slice none 0 0, .int .i64 0, .int .i64 0, .int .i64 0, .bool false, .int .i64 0, .slice none 0 0, .slice none 0 0, .int .i64 0, .slice none 0 0, .int .i64 0], .bool false]) (by simp [results, Tryz.results9, go_sem, r0, r1, r2, r3, r4, r5, r6, r7, r8, r9, r10, r11]) rfl ⟨⟨_, by rw [PB], by rw [eM.out]; exact zero_vn _ _⟩, bw2⟩
  have eM : Hid (M = nvM pr) := (by rw [hM.out]; unfold nvR; rw [PB]; rfl : M = nvM pr)
  replace PB : Hid (progB pr = true) := PB
  clear ltR hb1 hb0 hM
  have IP1 := ip.later bw1
  go_wp2_with fail
  refine (implNewHeap_any w1).mono ?_
  rintro e w2 ⟨⟨u0, rfl, h0⟩, hb2⟩
  have bw2 := bel_after bw1 hb2
  have R2 := R1.later hb2
  have IP2 := IP1.later hb2
  have C := iNew1 u0 w2 h0.hr
  clear h0 R0 R1 IP1
  go_wp2_with fail
  refine C.mono ?_
  clear C
  rintro e w3 ⟨⟨u1, rfl, h1⟩, hb3⟩
  have bw3 := bel_after bw2 hb3
  have R3 := R2.later hb3
  have IP3 := IP2.later hb3
  obtain ⟨a1, c1, b1, d1, e1, f1, rfl, -⟩ := h1.out
  have al := bel_one w3 (.cells #[.slice a1 nT1.words.length c1, .slice b1 nT1.roots.length d1, .int .i64 nT1.old, .int .i64 nT1.eden, .int .i64 nT1.surv, .bool nT1.flip, .int .i64 nT1.hash, .slice e1 nT1.kept.length f1] 28)
  have X4 : Bk (w3.alloc (.cells #[.slice a1 nT1.words.length c1, .slice b1 nT1.roots.length d1, .int .i64 nT1.old, .int .i64 nT1.eden, .int .i64 nT1.surv, .bool nT1.flip, .int .i64 nT1.hash, .slice e1 nT1.kept.length f1] 28)) w3.heap.size #[.slice a1 nT1.words.length c1, .slice b1 nT1.roots.length d1, .int .i64 nT1.old, .int .i64 nT1.eden, .int .i64 nT1.surv, .bool nT1.flip, .int .i64 nT1.hash, .slice e1 nT1.kept.length f1] 28 := Bk.new w3 _ _
  have R4 := R3.later al
  have IP4 := IP3.later al
  have bw4 := bel_after bw3 al
  have le3 : w.heap.size + 1 ≤ w3.heap.size := R3.lt
  have C := iNew2 _ _ (h1.later al).hr
  have x0 := X4.cell 0 (.slice a1 nT1.words.length c1) rfl
  have x1 := X4.cell 1 (.slice b1 nT1.roots.length d1) rfl
  have x2 := X4.cell 2 (.int .i64 nT1.old) rfl
  have x3 := X4.cell 3 (.int .i64 nT1.eden) rfl
  have x4 := X4.cell 4 (.int .i64 nT1.surv) rfl
  have x5 := X4.cell 5 (.bool nT1.flip) rfl
  have x6 := X4.cell 6 (.int .i64 nT1.hash) rfl
  have x7 := X4.cell 7 (.slice e1 nT1.kept.length f1) rfl
  clear h1 R2 R3 IP2 IP3
  go_wp2_with fail
  refine C.mono ?_
  clear C x0 x1 x2 x3 x4 x5 x6 x7
  rintro e w5 ⟨⟨u2, rfl, h2⟩, hb5⟩
  have bw5 := bel_after bw4 hb5
  have R5 := R4.later hb5
  have X5 := X4.later hb5
  have IP5 := IP4.later hb5
  have sz4 : (w3.alloc (.cells #[.slice a1 nT1.words.length c1, .slice b1 nT1.roots.length d1, .int .i64 nT1.old, .int .i64 nT1.eden, .int .i64 nT1.surv, .bool nT1.flip, .int .i64 nT1.hash, .slice e1 nT1.kept.length f1] 28)).heap.size = w3.heap.size + 1 := by simp
  obtain ⟨a2, c2, b2, d2, e2, f2, rfl, -⟩ := h2.out
  have OK2 : (#[.slice a2 nT2.words.length c2, .slice b2 nT2.roots.length d2, .int .i64 nT2.old, .int .i64 nT2.eden, .int .i64 nT2.surv, .bool nT2.flip, .int .i64 nT2.hash, .slice e2 nT2.kept.length f2] : Array Value).all (·.oneCell') = true := by simp [Value.oneCell']
  obtain ⟨w6, run6, X6, g6, z6⟩ := X5.store 28 #[.slice a2 nT2.words.length c2, .slice b2 nT2.roots.length d2, .int .i64 nT2.old, .int .i64 nT2.eden, .int .i64 nT2.surv, .bool nT2.flip, .int .i64 nT2.hash, .slice e2 nT2.kept.length f2] (by simp) (by kernel_rfl) OK2
  have R6 := R5.off g6 (by intro e; injection e with e; omega)
  have bw6 : Below w.heap.size w w6 := Below.grown bw5 g6 bw5.size (fun q hq => by cases hq; omega)
  have IP6 : CR w6 vp pr := ip.later bw6
  have h2' := h2.keep (w' := w6) (fun b p q => g6.block b q (by intro e; injection e with e; omega))
  have C := iAdd1 _ _ h2'.hr
  have x0 := X6.cell 0 (.slice a2 nT2.words.length c2) rfl
  have x1 := X6.cell 1 (.slice b2 nT2.roots.length d2) rfl
  have x2 := X6.cell 2 (.int .i64 nT2.old) rfl
  have x3 := X6.cell 3 (.int .i64 nT2.eden) rfl
  have x4 := X6.cell 4 (.int .i64 nT2.surv) rfl
  have x5 := X6.cell 5 (.bool nT2.flip) rfl
  have x6 := X6.cell 6 (.int .i64 nT2.hash) rfl
  have x7 := X6.cell 7 (.slice e2 nT2.kept.length f2) rfl
  clear h2 h2' R4 R5 X4 X5 IP4 IP5 g6 OK2
  go_wp2_with (refine wp_storeK run6 rfl _ _ rfl rfl rfl rfl ?_)
  refine C.mono ?_
  clear C x0 x1 x2 x3 x4 x5 x6 x7 run6
  rintro e w7 ⟨⟨u3, rfl, h3⟩, hb7⟩
  have bw7 := bel_after bw6 hb7
  have R7 := R6.later hb7
  have X7 := X6.later hb7
  have lt6 := X6.lt
  obtain ⟨a3, c3, b3, d3, e3, f3, rfl, -⟩ := h3.out
  have OK3 : (#[.slice a3 nT3.words.length c3, .slice b3 nT3.roots.length d3, .int .i64 nT3.old, .int .i64 nT3.eden, .int .i64 nT3.surv, .bool nT3.flip, .int .i64 nT3.hash, .slice e3 nT3.kept.length f3] : Array Value).all (·.oneCell') = true := by simp [Value.oneCell']
  obtain ⟨w8, run8, X8, g8, z8⟩ := X7.store 28 #[.slice a3 nT3.words.length c3, .slice b3 nT3.roots.length d3, .int .i64 nT3.old, .int .i64 nT3.eden, .int .i64 nT3.surv, .bool nT3.flip, .int .i64 nT3.hash, .slice e3 nT3.kept.length f3] (by simp) (by kernel_rfl) OK3
  have R8 := R7.off g8 (by intro e; injection e with e; omega)
  have bw8 : Below w.heap.size w w8 := Below.grown bw7 g8 bw7.size (fun q hq => by cases hq; omega)
  have h3' := h3.keep (w' := w8) (fun b p q => g8.block b q (by intro e; injection e with e; omega))
  have C := iAdd2 _ _ h3'.hr
  have x0 := X8.cell 0 (.slice a3 nT3.words.length c3) rfl
  have x1 := X8.cell 1 (.slice b3 nT3.roots.length d3) rfl
  have x2 := X8.cell 2 (.int .i64 nT3.old) rfl
  have x3 := X8.cell 3 (.int .i64 nT3.eden) rfl
  have x4 := X8.cell 4 (.int .i64 nT3.surv) rfl
  have x5 := X8.cell 5 (.bool nT3.flip) rfl
  have x6 := X8.cell 6 (.int .i64 nT3.hash) rfl
  have x7 := X8.cell 7 (.slice e3 nT3.kept.length f3) rfl
  have lt8 := X8.lt
  clear h3 h3' R6 R7 X6 X7 IP6 g8 OK3
  go_wp2_with (refine wp_storeK run8 rfl _ _ rfl rfl rfl rfl ?_)
  refine C.mono ?_
  clear C x0 x1 x2 x3 x4 x5 x6 x7 run8
  rintro e w9 ⟨⟨u4, rfl, h4⟩, hb9⟩
  have bw9 := bel_after bw8 hb9
  have R9 := R8.later hb9
  have X9 := X8.later hb9
  obtain ⟨a4, c4, b4, d4, e4, f4, rfl, -⟩ := h4.out
  have OK4 : (#[.slice a4 nT4.words.length c4, .slice b4 nT4.roots.length d4, .int .i64 nT4.old, .int .i64 nT4.eden, .int .i64 nT4.surv, .bool nT4.flip, .int .i64 nT4.hash, .slice e4 nT4.kept.length f4] : Array Value).all (·.oneCell') = true := by simp [Value.oneCell']
  obtain ⟨w10, run10, X10, g10, z10⟩ := X9.store 28 #[.slice a4 nT4.words.length c4, .slice b4 nT4.roots.length d4, .int .i64 nT4.old, .int .i64 nT4.eden, .int .i64 nT4.surv, .bool nT4.flip, .int .i64 nT4.hash, .slice e4 nT4.kept.length f4] (by simp) (by kernel_rfl) OK4
  have R10 := R9.off g10 (by intro e; injection e with e; omega)
  have bw10 : Below w.heap.size w w10 := Below.grown bw9 g10 bw9.size (fun q hq => by cases hq; omega)
  have h4' := h4.keep (w' := w10) (fun b p q => g10.block b q (by intro e; injection e with e; omega))
  clear h4 R8 R9 X8 X9 g10 OK4
  go_wp2_with (refine wp_storeK run10 rfl _ _ rfl rfl rfl rfl ?_)
  refine Disk.z_plain 99 (fun W' => Bk W' w3.heap.size #[.slice a4 nT4.words.length c4, .slice b4 nT4.roots.length d4, .int .i64 nT4.old, .int .i64 nT4.eden, .int .i64 nT4.surv, .bool nT4.flip, .int .i64 nT4.hash, .slice e4 nT4.kept.length f4] 28) (by kernel_rfl) X10.drew fun hz => ?_
  refine Disk.z_take 0 37 (v := .agg #[.slice a4 nT4.words.length c4, .slice b4 nT4.roots.length d4, .int .i64 nT4.old, .int .i64 nT4.eden, .int .i64 nT4.surv, .bool nT4.flip, .int .i64 nT4.hash, .slice e4 nT4.kept.length f4]) rfl rfl (by kernel_rfl) (by kernel_rfl) (by kernel_rfl) (by kernel_rfl) (by rfl) hz (fun W' hSw => (by
    have z0 := hSw.cell 0 (.slice a4 nT4.words.length c4) rfl
    have z1 := hSw.cell 1 (.slice b4 nT4.roots.length d4) rfl
    have z2 := hSw.cell 2 (.int .i64 nT4.old) rfl
    have z3 := hSw.cell 3 (.int .i64 nT4.eden) rfl
    have z4 := hSw.cell 4 (.int .i64 nT4.surv) rfl
    have z5 := hSw.cell 5 (.bool nT4.flip) rfl
    have z6 := hSw.cell 6 (.int .i64 nT4.hash) rfl
    have z7 := hSw.cell 7 (.slice e4 nT4.kept.length f4) rfl
    go_simp; first | done | with_reducible rfl)) ?_
  simp only [List.setIfInBounds_toArray, List.set_cons_zero, List.set_cons_succ]
  refine Disk.z_take 1 38 (v := vp) rfl rfl (by kernel_rfl) (by kernel_rfl) (by kernel_rfl) (by kernel_rfl) (by rfl) hz (fun W' hSw => (by
    clear hSw
    go_simp; first | done | with_reducible rfl)) ?_
  simp only [List.setIfInBounds_toArray, List.set_cons_zero, List.set_cons_succ]
  refine Disk.z_call 2 39 rfl rfl (by kernel_rfl) (by rfl) (f := 38) (args := #[vp]) (w0 := w10.drew) (by go_simp; first | done | with_reducible rfl) ?_
  refine (copyCodes_any vp pr w10.drew (ip.later bw10.drew) (by omega)).mono ?_
  rintro e w11 ⟨⟨rfl, rc, lt11⟩, hb11⟩
  have b11 : Below w10.heap.size w10 w11 := bel_after (Below.refl _ _).drew hb11
  obtain ⟨gp, egp⟩ : ∃ x, x = w10.drew.heap.size := ⟨_, rfl⟩
  have egp2 : gp = w10.heap.size := egp
  rw [← egp] at rc lt11 ⊢
  clear egp
  have X11 := X10.later b11
  have R11 := R10.later b11
  have h11 := h4'.later b11
  have bw11 := bel_after bw10 b11
  refine ⟨_, rfl, .inr X11, ?_⟩
  simp only [List.setIfInBounds_toArray, List.set_cons_zero, List.set_cons_succ]
  have hi4 : ∀ b, (Disk.rowOf (.slice a4 nT4.words.length c4) nT4.words.length = some b ∨ Disk.rowOf (.slice b4 nT4.roots.length d4) nT4.roots.length = some b ∨ Disk.rowOf (.slice e4 nT4.kept.length f4) nT4.kept.length = some b) → b < gp := fun b hb => by
    obtain ⟨⟨o1, o2, o3⟩, _⟩ := h4'.irs
    rcases hb with hb | hb | hb
    · have := o1.row b hb; omega
    · have := o2.row b hb; omega
    · have := o3.row b hb; omega
  have ltx : w3.heap.size < gp := by have := X10.lt; omega
  have sz8 : w8.heap.size ≥ w3.heap.size := by omega
  clear egp2
  refine Disk.z_take 3 40 (v := .agg #[.slice a4 nT4.words.length c4, .slice b4 nT4.roots.length d4, .int .i64 nT4.old, .int .i64 nT4.eden, .int .i64 nT4.surv, .bool nT4.flip, .int .i64 nT4.hash, .slice e4 nT4.kept.length f4, .slice (some ⟨gp, 0, none⟩) pr.length pr.length, .int .i64 0, .slice none 0 0, .int .i64 0]) rfl rfl (by kernel_rfl) (by kernel_rfl) (by kernel_rfl) (by kernel_rfl) (by rfl) X11 (fun W' hSw => (by
    clear hSw
    go_simp; first | done | with_reducible rfl)) ?_
  simp only [List.setIfInBounds_toArray, List.set_cons_zero, List.set_cons_succ]
  have OKV : (#[.slice a4 nT4.words.length c4, .slice b4 nT4.roots.length d4, .int .i64 nT4.old, .int .i64 nT4.eden, .int .i64 nT4.surv, .bool nT4.flip, .int .i64 nT4.hash, .slice e4 nT4.kept.length f4, .slice (some ⟨gp, 0, none⟩) pr.length pr.length, .int .i64 0, .slice none 0 0, .int .i64 0] : Array Value).all (·.oneCell') = true := by simp [Value.oneCell']
  obtain ⟨w12, run12, R12, g12, z12⟩ := R11.store 30 #[.slice a4 nT4.words.length c4, .slice b4 nT4.roots.length d4, .int .i64 nT4.old, .int .i64 nT4.eden, .int .i64 nT4.surv, .bool nT4.flip, .int .i64 nT4.hash, .slice e4 nT4.kept.length f4, .slice (some ⟨gp, 0, none⟩) pr.length pr.length, .int .i64 0, .slice none 0 0, .int .i64 0] (by simp) (by kernel_rfl) OKV
  have X12 := X11.off g12 (by intro e; injection e with e; omega)
  have bw12 : Below w.heap.size w w12 := Below.grown bw11 g12 bw11.size (fun q hq => by cases hq; omega)
  have h12 := h11.keep (w' := w12) (fun b p q => g12.block b q (by intro e; injection e with e; omega))
  have rc12 := rc.block (g12.block gp rc.lt (by intro e; injection e with e; omega))
  have VNK : VN w.heap.size w12 (.agg #[.slice a4 nT4.words.length c4, .slice b4 nT4.roots.length d4, .int .i64 nT4.old, .int .i64 nT4.eden, .int .i64 nT4.surv, .bool nT4.flip, .int .i64 nT4.hash, .slice e4 nT4.kept.length f4, .slice (some ⟨gp, 0, none⟩) pr.length pr.length, .int .i64 0, .slice none 0 0, .int .i64 0]) (nvM pr) := by
    refine ⟨⟨_, _, _, _, _, rfl, h12.down (by omega), ⟨rc12.cr (Nat.le_refl _), rc12.os⟩, ⟨⟨_, _, rfl, Nat.le_refl _, fun i hi => absurd hi (Nat.not_lt_zero i)⟩, ⟨_, _, rfl, .inl rfl⟩⟩, fun b hb => ?_, fun b hb => (zero_row hb).elim⟩⟩
    obtain rfl := rowof hb
    exact ⟨by omega, fun e => by have := hi4 _ (.inl e); omega, fun e => by have := hi4 _ (.inr (.inl e)); omega, fun e => by have := hi4 _ (.inr (.inr e)); omega, fun e => (zero_row e).elim⟩
  clear h4' h11 h12 rc rc12 hi4 R10 R11 X10 hz g12 OKV
  refine Disk.z_skip 4 rfl rfl (by kernel_rfl) (by rfl) (exec_storeQ rfl rfl rfl run12) (.inr X12) ?_
  refine Disk.z_take 5 3 (v := .bool true) rfl rfl (by kernel_rfl) (by kernel_rfl) (by kernel_rfl) (by kernel_rfl) (by rfl) X12 (fun W' hSw => (by
    clear hSw
    go_simp; first | done | with_reducible rfl)) ?_
  simp only [List.setIfInBounds_toArray, List.set_cons_zero, List.set_cons_succ]
  refine Disk.z_done (by kernel_rfl) ?_ _
  have r0 := R12.cell 0 (.slice a4 nT4.words.length c4) rfl
  have r1 := R12.cell 1 (.slice b4 nT4.roots.length d4) rfl
  have r2 := R12.cell 2 (.int .i64 nT4.old) rfl
  have r3 := R12.cell 3 (.int .i64 nT4.eden) rfl
  have r4 := R12.cell 4 (.int .i64 nT4.surv) rfl
  have r5 := R12.cell 5 (.bool nT4.flip) rfl
  have r6 := R12.cell 6 (.int .i64 nT4.hash) rfl
  have r7 := R12.cell 7 (.slice e4 nT4.kept.length f4) rfl
  have r8 := R12.cell 8 (.slice (some ⟨gp, 0, none⟩) pr.length pr.length) rfl
  have r9 := R12.cell 9 (.int .i64 0) rfl
  have r10 := R12.cell 10 (.slice none 0 0) rfl
  have r11 := R12.cell 11 (.int .i64 0) rfl
  clear X11 X12 run12
  go_wp2
  exact bodyPost_ret (v := .tuple #[.agg #[.slice a4 nT4.words.length c4, .slice b4 nT4.roots.length d4, .int .i64 nT4.old, .int .i64 nT4.eden, .int .i64 nT4.surv, .bool nT4.flip, .int .i64 nT4.hash, .slice e4 nT4.kept.length f4, .slice (some ⟨gp, 0, none⟩) pr.length pr.length, .int .i64 0, .slice none 0 0, .int .i64 0], .bool true]) (by simp [results, Tryz.results9, go_sem, r0, r1, r2, r3, r4, r5, r6, r7, r8, r9, r10, r11]) rfl ⟨⟨_, by rw [PB.out], by rw [eM.out]; exact VNK⟩, bw12⟩

end Go.Proofs.YtgacacbncefeaaaGreat
