/- The model's scavenger: l9Scavenge. -/
import Derived.Test.YtklafifiphbibaaGreatZVMove
import Derived.Test.YtklafifiphbibaaGreatZV7
import Derived.Test.YtklafifiphbibaaGreatZV12
import Derived.Test.YtklafifiphbibaaGreatZV6
import Derived.Test.YtklafifiphbibaaGreatZFSSet
import Derived.Test.YtklafifiphbibaaGreatZV8
import Derived.Test.YtklafifiphbibaaGreatZV2
import Derived.Deep.DeepCutAuto
namespace Go.Proofs.YtklafifiphbibaaGreat
open Go.RowKit

/-- The work at its beginning. -/
def kf0 (h : Hp) (g1 g2 g3 gt d1 d2 d3 : Nat) : Nat → Value
  | 0 => .slice (some ⟨g1, 0, none⟩) h.words.length d1
  | 1 => .slice (some ⟨g2, 0, none⟩) h.roots.length d2
  | 2 => .int .i64 h.old
  | 3 => .int .i64 h.eden
  | 4 => .int .i64 h.surv
  | 5 => .bool h.flip
  | 6 => .int .i64 h.hash
  | 7 => .slice (some ⟨g3, 0, none⟩) h.kept.length d3
  | 8 => .int .i64 0
  | 9 => .int .i64 0
  | 10 => .slice (some ⟨gt, 0, none⟩) 3200 3200
  | 11 => .slice none 0 0
  | 12 => .bool false
  | _ => undef
structure K0W (h : Hp) (W : World) (K g1 g2 g3 gt d1 d2 d3 : Nat) : Prop where
  row : W.rowIs K 148 13 (kf0 h g1 g2 g3 gt d1 d2 d3)
  r1 : RI W g1 h.words d1
  r2 : RI W g2 h.roots d2
  r3 : RI W g3 h.kept d3
  rt : RI W gt (ints went0) 3200
  n1 : g1 < K
  n2 : g2 < K
  n3 : g3 < K
  nt : gt < K
  d12 : g1 ≠ g2
  d13 : g1 ≠ g3
  d23 : g2 ≠ g3
  d1t : g1 ≠ gt
  d2t : g2 ≠ gt
  d3t : g3 ≠ gt
  x1 : d1 ≤ maxLen
  x2 : d2 ≤ maxLen
def wentObj : Obj := .cells (madeCells #[.int .i64 0] 3200) 2
theorem make_went (w : World) : (Instr.makeSlice 24 (.int .i64 3200) (.int .i64 3200)).run Tryz.prog w = .ok (.slice (some ⟨w.heap.size, 0, none⟩) 3200 3200) (w.alloc wentObj) := by
  unfold wentObj
  exact makeW w
theorem went_row (w : World) : RI (w.alloc wentObj) w.heap.size (ints went0) 3200 := by
  have e : ints went0 = List.replicate 3200 (0 : Int) := by
    unfold ints went0
    rw [List.map_replicate]
    rfl
  rw [e]
  unfold wentObj
  exact made_ri w 3200

theorem CS.grew {w W W' : World} {S : Nat → Prop} {u0 u1 u2 u3 u4 u5 u6 u7 : Value} (k : CS w W u0 u1 u2 u3 u4 u5 u6 u7) (g : Grew W W' S) (hS : ∀ b, S b → w.heap.size + 1 < b) : CS w W' u0 u1 u2 u3 u4 u5 u6 u7 := by
  obtain ⟨f, F⟩ := k.box
  obtain ⟨f2, F2⟩ := k.res
  have n0 : ¬ S w.heap.size := fun q => by have := hS _ q; omega
  have n1 : ¬ S (w.heap.size + 1) := fun q => by have := hS _ q; omega
  have sb := k.bel.size
  exact ⟨k.bel.trans (g.below k.bel.size (fun b _ q => by have := hS b q; omega)), Nat.lt_of_lt_of_le k.lt g.size, g.cell k.c0 n0, g.cell k.c1 n0, g.cell k.c2 n0, g.cell k.c3 n0, g.cell k.c4 n0, g.cell k.c5 n0, g.cell k.c6 n0, g.cell k.c7 n0, ⟨f, g.row F n0⟩, ⟨f2, g.row F2 n1⟩⟩
theorem IRcell {w : World} {ao : Option Addr} {n c : Nat} {l : List Int} (h : IR w (.slice ao n c) l) (i : Nat) (hi : i < l.length) : ∃ b o, ao = some ⟨b, o, none⟩ ∧ w.cell? ⟨b, o + i, none⟩ = some (.int .i64 (l.getD i 0)) := by
  obtain ⟨ao', cap, e, _, hc⟩ := h
  simp only [Value.slice.injEq] at e
  obtain ⟨rfl, _, _⟩ := e
  exact hc i hi
theorem IRcell' {w : World} {b o n c i : Nat} {l : List Int} (h : IR w (.slice (some ⟨b, o, none⟩) n c) l) (hi : i < l.length) : w.cell? ⟨b, o + i, none⟩ = some (.int .i64 (l.getD i 0)) := by
  obtain ⟨b', o', e, q⟩ := IRcell h i hi
  simp only [Option.some.injEq, Addr.mk.injEq, and_true] at e
  obtain ⟨rfl, rfl⟩ := e
  exact q
theorem exec_storeB {o : Oper} {a : Act} {w w' : World} (p s : Operand) (ho : o.op = .store 26 p s) (v y : Value) (hp : a.eval p = v) (hs : a.eval s = y)
    (hr : (Instr.storeAt 26 v y).run Tryz.prog w = .ok () w') : (execOp a.eval o).run Tryz.prog w = .ok .skip w' := by
  simp [execOp, ho, hp, hs, hr, Result.andThen]
theorem o_skip {P : Program} {md : Region.Mode} {ops : Array Oper} {R : Act → World → Prop} {S : World → Prop} {z : Nat} (i : Nat) {oi : Oper} {fuel : Nat} {listed : Array Bool} {a : Act} {w w' : World} (hi : ops[i]? = some oi) (hd : oi.dst = none)
    (hw : Region.wanted oi (yielded ops a.tmps) = true) (hy : (execOp a.eval oi).run P w = .ok .skip w') (hS : i = z ∨ S w')
    (h : Disk.wpAnyZ P md ops (Disk.Ends R) z S fuel (listed.setIfInBounds i true) a w') : wpOp P ops (Disk.Ends R) i (fun a' w' => (i = z ∨ S w') ∧ Disk.wpAnyZ P md ops (Disk.Ends R) z S fuel (listed.setIfInBounds i true) a' w') a w := by
  refine Disk.wpOp_of hi hw ?_
  unfold Oper.wp
  rw [hy]
  refine ⟨hS, ?_⟩
  rw [hd]
  exact h
/-- Behind the loops: the work's box, the answer's box, the rows. -/
def of8 (u0 u1 u2 u3 u4 u5 u6 u7 : Value) : Nat → Value
  | 0 => u0
  | 1 => u1
  | 2 => u2
  | 3 => u3
  | 4 => u4
  | 5 => u5
  | 6 => u6
  | 7 => u7
  | _ => undef
structure FW (h : Hp) (w W : World) (K O g1 g2 g3 gt d1 d2 d3 : Nat) (qv : Value) (rl : List Int) (fs : SV) (V : List Int) (u0 u1 u2 u3 u4 u5 u6 u7 : Value) : Prop where
  row : W.rowIs O 26 8 (of8 (.slice (some ⟨g1, 0, none⟩) 3200 d1) (.slice (some ⟨g2, 0, none⟩) h.roots.length d2) (.int .i64 (fs.old : Int)) (.int .i64 h.eden) (.int .i64 h.surv) (.bool h.flip) (.int .i64 h.hash) (.slice (some ⟨g3, 0, none⟩) h.kept.length d3))
  krow : W.rowIs K 148 13 (kf h fs g1 g2 g3 gt d1 d2 d3 qv)
  r1 : RI W g1 V d1
  r2 : RI W g2 rl d2
  r3 : RI W g3 h.kept d3
  rq : W.ownsRow (K + 1) 2 1 qv fs.q.length (icells (ints fs.q))
  cs : CS w W u0 u1 u2 u3 u4 u5 u6 u7
  lt : K < O
  qlt : ∀ b, qv.ownBlock = some b → b < O
theorem FW.zero {h : Hp} {w W : World} {K O g1 g2 g3 gt d1 d2 d3 : Nat} {qv : Value} {rl : List Int} {fs : SV} {V : List Int} {u0 u1 u2 u3 u4 u5 u6 u7 : Value} (F : FW h w W K O g1 g2 g3 gt d1 d2 d3 qv rl fs V u0 u1 u2 u3 u4 u5 u6 u7) (n : Nat) (n1 : g1 < K) (d12 : g1 ≠ g2) (d13 : g1 ≠ g3) (b1 : w.heap.size + 1 < g1) (hO : g1 < O) :
    FW h w (W.setCell ⟨g1, n, none⟩ (.int .i64 0)) K O g1 g2 g3 gt d1 d2 d3 qv rl fs (V.set n 0) u0 u1 u2 u3 u4 u5 u6 u7 := by
  have G := Grew.set W g1 n (.int .i64 0)
  exact ⟨G.row F.row (by omega), G.row F.krow (by omega), F.r1.set n 0, F.r2.setOther (fun e => d12 e.symm) _, F.r3.setOther (fun e => d13 e.symm) _, G.own F.rq (fun q hq e => by have := own_low F.rq hq; omega), F.cs.grew G (fun q e => by omega), F.lt, F.qlt⟩
theorem k0_new {h : Hp} {W : World} {g1 g2 g3 gt d1 d2 d3 : Nat} (r1 : RI W g1 h.words d1) (r2 : RI W g2 h.roots d2) (r3 : RI W g3 h.kept d3) (rt : RI W gt (ints went0) 3200) (d12 : g1 ≠ g2) (d13 : g1 ≠ g3) (d23 : g2 ≠ g3) (d1t : g1 ≠ gt) (d2t : g2 ≠ gt) (d3t : g3 ≠ gt) (m1 : d1 ≤ maxLen) (m2 : d2 ≤ maxLen) :
    K0W h (W.alloc (.cells #[.slice (some ⟨g1, 0, none⟩) h.words.length d1, .slice (some ⟨g2, 0, none⟩) h.roots.length d2, .int .i64 h.old, .int .i64 h.eden, .int .i64 h.surv, .bool h.flip, .int .i64 h.hash, .slice (some ⟨g3, 0, none⟩) h.kept.length d3, .int .i64 0, .int .i64 0, .slice (some ⟨gt, 0, none⟩) 3200 3200, .slice none 0 0, .bool false] 148)) W.heap.size g1 g2 g3 gt d1 d2 d3 := by
  have b := bel_one W (.cells #[.slice (some ⟨g1, 0, none⟩) h.words.length d1, .slice (some ⟨g2, 0, none⟩) h.roots.length d2, .int .i64 h.old, .int .i64 h.eden, .int .i64 h.surv, .bool h.flip, .int .i64 h.hash, .slice (some ⟨g3, 0, none⟩) h.kept.length d3, .int .i64 0, .int .i64 0, .slice (some ⟨gt, 0, none⟩) 3200 3200, .slice none 0 0, .bool false] 148)
  exact ⟨row_congr (row_any W #[.slice (some ⟨g1, 0, none⟩) h.words.length d1, .slice (some ⟨g2, 0, none⟩) h.roots.length d2, .int .i64 h.old, .int .i64 h.eden, .int .i64 h.surv, .bool h.flip, .int .i64 h.hash, .slice (some ⟨g3, 0, none⟩) h.kept.length d3, .int .i64 0, .int .i64 0, .slice (some ⟨gt, 0, none⟩) 3200 3200, .slice none 0 0, .bool false] 148) (fun i hi => match i, hi with | 0, _ => rfl | 1, _ => rfl | 2, _ => rfl | 3, _ => rfl | 4, _ => rfl | 5, _ => rfl | 6, _ => rfl | 7, _ => rfl | 8, _ => rfl | 9, _ => rfl | 10, _ => rfl | 11, _ => rfl | 12, _ => rfl), r1.later b, r2.later b, r3.later b, rt.later b, r1.lt, r2.lt, r3.lt, rt.lt, d12, d13, d23, d1t, d2t, d3t, m1, m2⟩

set_option maxRecDepth 100000 in
set_option maxHeartbeats 12800000 in
theorem l9Scavenge_any (v : Value) (h : Hp) (l : List Nat) (R : RightAt h l) (w : World) (hv : HR w v h) :
    Calls Tryz.prog 106 #[v] w fun e w' => ((∃ u q0, e = .returned (.tuple #[u, q0, .bool false]) ∧ HM w.heap.size w' u zeroH ∧ ∃ i, i = (quS h i).q.length ∧ (quS h i).full = true) ∨ (∃ u qv fs l2, e = .returned (.tuple #[u, qv, .bool true]) ∧ HM w.heap.size w' u (finH h fs (rtL h h.roots.length) (ints (keptS (finW h fs.W) l2))) ∧ SI h l fs ∧ fs.full = false ∧ PartsAt (finH h fs (rtL h h.roots.length) h.kept) l2 ∧ IR w' qv (ints fs.q) ∧ ∃ i, i = fs.q.length ∧ quS h i = fs)) ∧ Below w.heap.size w w' := by
  obtain ⟨v1, v2, v3, rfl, i1, i2, i3⟩ := id hv
  obtain ⟨a1, c1, rfl, -⟩ := IRs i1
  obtain ⟨a2, c2, rfl, -⟩ := IRs i2
  obtain ⟨a3, c3, rfl, -⟩ := IRs i3
  have S0 := CS.new w (.slice a1 h.words.length c1) (.slice a2 h.roots.length c2) (.int .i64 h.old) (.int .i64 h.eden) (.int .i64 h.surv) (.bool h.flip) (.int .i64 h.hash) (.slice a3 h.kept.length c3)
  have hl : Hid (h.words.length = 3200) := R.1.1
  have hro : h.roots.length ≤ 1000000000000 := by have := R.2.2.2.2.2.1; omega
  have hke : h.kept.length ≤ 1000000000000 := by have := kept_short R; omega
  have CP := fun W (hb : Below w.heap.size w W) => l5Copy_any _ h W (hv.later hb) (by rw [hl.out]; omega) hro hke
  have MW := make_went
  go_enter Tryz.func106, Tryz.ntmps106
  go_wp2_with fail
  generalize ((w.alloc (.cells #[.slice a1 h.words.length c1, .slice a2 h.roots.length c2, .int .i64 h.old, .int .i64 h.eden, .int .i64 h.surv, .bool h.flip, .int .i64 h.hash, .slice a3 h.kept.length c3] 26)).alloc (.cells #[.slice none 0 0, .slice none 0 0, .int .i64 0, .int .i64 0, .int .i64 0, .bool false, .int .i64 0, .slice none 0 0] 26)) = w0 at *
  go_cut [5] (fun kv wc => ∃ K g1 g2 g3 gt d1 d2 d3, kv = .pointer (some ⟨K, 0, none⟩) ∧ K0W h wc K g1 g2 g3 gt d1 d2 d3 ∧ CS w wc (.slice a1 h.words.length c1) (.slice a2 h.roots.length c2) (.int .i64 h.old) (.int .i64 h.eden) (.int .i64 h.surv) (.bool h.flip) (.int .i64 h.hash) (.slice a3 h.kept.length c3) ∧ w.heap.size + 1 < g1 ∧ w.heap.size + 1 < g2 ∧ w.heap.size + 1 < g3 ∧ w.heap.size + 1 < gt)
  case first =>
    refine Disk.z_plain 99 (fun W' => (W'.cell? ⟨w.heap.size, 0, none⟩ = some (.slice a1 h.words.length c1) ∧ W'.cell? ⟨w.heap.size, 1, none⟩ = some (.slice a2 h.roots.length c2) ∧ W'.cell? ⟨w.heap.size, 2, none⟩ = some (.int .i64 h.old) ∧ W'.cell? ⟨w.heap.size, 3, none⟩ = some (.int .i64 h.eden) ∧ W'.cell? ⟨w.heap.size, 4, none⟩ = some (.int .i64 h.surv) ∧ W'.cell? ⟨w.heap.size, 5, none⟩ = some (.bool h.flip) ∧ W'.cell? ⟨w.heap.size, 6, none⟩ = some (.int .i64 h.hash) ∧ W'.cell? ⟨w.heap.size, 7, none⟩ = some (.slice a3 h.kept.length c3))) (by kernel_rfl) ⟨S0.c0, S0.c1, S0.c2, S0.c3, S0.c4, S0.c5, S0.c6, S0.c7⟩ fun hs => ?_
    refine Disk.z_take 0 17 (v := .agg #[.slice a1 h.words.length c1, .slice a2 h.roots.length c2, .int .i64 h.old, .int .i64 h.eden, .int .i64 h.surv, .bool h.flip, .int .i64 h.hash, .slice a3 h.kept.length c3]) rfl rfl (by kernel_rfl) (by kernel_rfl) (by kernel_rfl) (by kernel_rfl) (by rfl) hs (fun W' hSw => (by
      obtain ⟨s0, s1, s2, s3, s4, s5, s6, s7⟩ := hSw
      go_simp; first | done | with_reducible rfl)) ?_
    simp only [List.setIfInBounds_toArray, List.set_cons_zero, List.set_cons_succ]
    have Sd : CS w w0.drew (.slice a1 h.words.length c1) (.slice a2 h.roots.length c2) (.int .i64 h.old) (.int .i64 h.eden) (.int .i64 h.surv) (.bool h.flip) (.int .i64 h.hash) (.slice a3 h.kept.length c3) := S0.later (Below.refl _ _).drew
    clear S0 hs
    generalize w0.drew = wd at *
    refine z_or (i := 1) (j := 2) (by kernel_rfl) ?_ ?_
    · refine o_call 1 18 (f := 30) (args := #[.agg #[.slice a1 h.words.length c1, .slice a2 h.roots.length c2, .int .i64 h.old, .int .i64 h.eden, .int .i64 h.surv, .bool h.flip, .int .i64 h.hash, .slice a3 h.kept.length c3]]) (w0 := wd) rfl rfl (by rfl) (by go_simp; first | done | with_reducible rfl) ?_
      refine (CP wd Sd.bel).mono ?_
      rintro e w1 ⟨⟨g1, d1, g2, d2, g3, d3, rfl, ⟨q1, q2, q3⟩, ⟨l0, l1, l2⟩, ⟨m1, m2, m3⟩⟩, hb1⟩
      have S1 : CS w w1 (.slice a1 h.words.length c1) (.slice a2 h.roots.length c2) (.int .i64 h.old) (.int .i64 h.eden) (.int .i64 h.surv) (.bool h.flip) (.int .i64 h.hash) (.slice a3 h.kept.length c3) := Sd.later hb1
      refine ⟨_, rfl, .inr ⟨S1.c0, S1.c1, S1.c2, S1.c3, S1.c4, S1.c5, S1.c6, S1.c7⟩, ?_⟩
      simp only [List.setIfInBounds_toArray, List.set_cons_zero, List.set_cons_succ]
      have al := bel_one w1 wentObj
      have S2 := S1.later al
      have SX : ((w1.alloc wentObj).cell? ⟨w.heap.size, 0, none⟩ = some (.slice a1 h.words.length c1) ∧ (w1.alloc wentObj).cell? ⟨w.heap.size, 1, none⟩ = some (.slice a2 h.roots.length c2) ∧ (w1.alloc wentObj).cell? ⟨w.heap.size, 2, none⟩ = some (.int .i64 h.old) ∧ (w1.alloc wentObj).cell? ⟨w.heap.size, 3, none⟩ = some (.int .i64 h.eden) ∧ (w1.alloc wentObj).cell? ⟨w.heap.size, 4, none⟩ = some (.int .i64 h.surv) ∧ (w1.alloc wentObj).cell? ⟨w.heap.size, 5, none⟩ = some (.bool h.flip) ∧ (w1.alloc wentObj).cell? ⟨w.heap.size, 6, none⟩ = some (.int .i64 h.hash) ∧ (w1.alloc wentObj).cell? ⟨w.heap.size, 7, none⟩ = some (.slice a3 h.kept.length c3)) := ⟨S2.c0, S2.c1, S2.c2, S2.c3, S2.c4, S2.c5, S2.c6, S2.c7⟩
      refine Disk.z_run 2 19 (w' := w1.alloc wentObj) (v := .slice (some ⟨w1.heap.size, 0, none⟩) 3200 3200) rfl rfl (by kernel_rfl) (by rfl) (by go_simp; first | done | with_reducible rfl) (.inr SX) ?_
      simp only [List.setIfInBounds_toArray, List.set_cons_zero, List.set_cons_succ]
      have T2 := went_row w1
      have lt1 := q1.lt
      have lt2 := q2.lt
      have lt3 := q3.lt
      have KN := k0_new (h := h) (q1.later al) (q2.later al) (q3.later al) T2 (by omega) (by omega) (by omega) (by omega) (by omega) (by omega) m1 m2
      have S3 := S2.later (bel_one _ (.cells #[.slice (some ⟨g1, 0, none⟩) h.words.length d1, .slice (some ⟨g2, 0, none⟩) h.roots.length d2, .int .i64 h.old, .int .i64 h.eden, .int .i64 h.surv, .bool h.flip, .int .i64 h.hash, .slice (some ⟨g3, 0, none⟩) h.kept.length d3, .int .i64 0, .int .i64 0, .slice (some ⟨w1.heap.size, 0, none⟩) 3200 3200, .slice none 0 0, .bool false] 148))
      have SY : (((w1.alloc wentObj).alloc (.cells #[.slice (some ⟨g1, 0, none⟩) h.words.length d1, .slice (some ⟨g2, 0, none⟩) h.roots.length d2, .int .i64 h.old, .int .i64 h.eden, .int .i64 h.surv, .bool h.flip, .int .i64 h.hash, .slice (some ⟨g3, 0, none⟩) h.kept.length d3, .int .i64 0, .int .i64 0, .slice (some ⟨w1.heap.size, 0, none⟩) 3200 3200, .slice none 0 0, .bool false] 148)).cell? ⟨w.heap.size, 0, none⟩ = some (.slice a1 h.words.length c1) ∧ ((w1.alloc wentObj).alloc (.cells #[.slice (some ⟨g1, 0, none⟩) h.words.length d1, .slice (some ⟨g2, 0, none⟩) h.roots.length d2, .int .i64 h.old, .int .i64 h.eden, .int .i64 h.surv, .bool h.flip, .int .i64 h.hash, .slice (some ⟨g3, 0, none⟩) h.kept.length d3, .int .i64 0, .int .i64 0, .slice (some ⟨w1.heap.size, 0, none⟩) 3200 3200, .slice none 0 0, .bool false] 148)).cell? ⟨w.heap.size, 1, none⟩ = some (.slice a2 h.roots.length c2) ∧ ((w1.alloc wentObj).alloc (.cells #[.slice (some ⟨g1, 0, none⟩) h.words.length d1, .slice (some ⟨g2, 0, none⟩) h.roots.length d2, .int .i64 h.old, .int .i64 h.eden, .int .i64 h.surv, .bool h.flip, .int .i64 h.hash, .slice (some ⟨g3, 0, none⟩) h.kept.length d3, .int .i64 0, .int .i64 0, .slice (some ⟨w1.heap.size, 0, none⟩) 3200 3200, .slice none 0 0, .bool false] 148)).cell? ⟨w.heap.size, 2, none⟩ = some (.int .i64 h.old) ∧ ((w1.alloc wentObj).alloc (.cells #[.slice (some ⟨g1, 0, none⟩) h.words.length d1, .slice (some ⟨g2, 0, none⟩) h.roots.length d2, .int .i64 h.old, .int .i64 h.eden, .int .i64 h.surv, .bool h.flip, .int .i64 h.hash, .slice (some ⟨g3, 0, none⟩) h.kept.length d3, .int .i64 0, .int .i64 0, .slice (some ⟨w1.heap.size, 0, none⟩) 3200 3200, .slice none 0 0, .bool false] 148)).cell? ⟨w.heap.size, 3, none⟩ = some (.int .i64 h.eden) ∧ ((w1.alloc wentObj).alloc (.cells #[.slice (some ⟨g1, 0, none⟩) h.words.length d1, .slice (some ⟨g2, 0, none⟩) h.roots.length d2, .int .i64 h.old, .int .i64 h.eden, .int .i64 h.surv, .bool h.flip, .int .i64 h.hash, .slice (some ⟨g3, 0, none⟩) h.kept.length d3, .int .i64 0, .int .i64 0, .slice (some ⟨w1.heap.size, 0, none⟩) 3200 3200, .slice none 0 0, .bool false] 148)).cell? ⟨w.heap.size, 4, none⟩ = some (.int .i64 h.surv) ∧ ((w1.alloc wentObj).alloc (.cells #[.slice (some ⟨g1, 0, none⟩) h.words.length d1, .slice (some ⟨g2, 0, none⟩) h.roots.length d2, .int .i64 h.old, .int .i64 h.eden, .int .i64 h.surv, .bool h.flip, .int .i64 h.hash, .slice (some ⟨g3, 0, none⟩) h.kept.length d3, .int .i64 0, .int .i64 0, .slice (some ⟨w1.heap.size, 0, none⟩) 3200 3200, .slice none 0 0, .bool false] 148)).cell? ⟨w.heap.size, 5, none⟩ = some (.bool h.flip) ∧ ((w1.alloc wentObj).alloc (.cells #[.slice (some ⟨g1, 0, none⟩) h.words.length d1, .slice (some ⟨g2, 0, none⟩) h.roots.length d2, .int .i64 h.old, .int .i64 h.eden, .int .i64 h.surv, .bool h.flip, .int .i64 h.hash, .slice (some ⟨g3, 0, none⟩) h.kept.length d3, .int .i64 0, .int .i64 0, .slice (some ⟨w1.heap.size, 0, none⟩) 3200 3200, .slice none 0 0, .bool false] 148)).cell? ⟨w.heap.size, 6, none⟩ = some (.int .i64 h.hash) ∧ ((w1.alloc wentObj).alloc (.cells #[.slice (some ⟨g1, 0, none⟩) h.words.length d1, .slice (some ⟨g2, 0, none⟩) h.roots.length d2, .int .i64 h.old, .int .i64 h.eden, .int .i64 h.surv, .bool h.flip, .int .i64 h.hash, .slice (some ⟨g3, 0, none⟩) h.kept.length d3, .int .i64 0, .int .i64 0, .slice (some ⟨w1.heap.size, 0, none⟩) 3200 3200, .slice none 0 0, .bool false] 148)).cell? ⟨w.heap.size, 7, none⟩ = some (.slice a3 h.kept.length c3)) := ⟨S3.c0, S3.c1, S3.c2, S3.c3, S3.c4, S3.c5, S3.c6, S3.c7⟩
      have sl := S1.lt
      have s0l : w.heap.size + 1 < wd.heap.size := Sd.lt
      have g1b : w.heap.size + 1 < g1 := by omega
      refine Disk.z_run 3 20 (w' := (w1.alloc wentObj)) (v := .agg #[.slice (some ⟨g1, 0, none⟩) h.words.length d1, .slice (some ⟨g2, 0, none⟩) h.roots.length d2, .int .i64 h.old, .int .i64 h.eden, .int .i64 h.surv, .bool h.flip, .int .i64 h.hash, .slice (some ⟨g3, 0, none⟩) h.kept.length d3, .int .i64 0, .int .i64 0, .slice (some ⟨w1.heap.size, 0, none⟩) 3200 3200, .slice none 0 0, .bool false]) rfl rfl (by kernel_rfl) (by rfl) (by go_simp; first | done | with_reducible rfl) (.inr SX) ?_
      simp only [List.setIfInBounds_toArray, List.set_cons_zero, List.set_cons_succ]
      refine Disk.z_run 4 21 (w' := (w1.alloc wentObj).alloc (.cells #[.slice (some ⟨g1, 0, none⟩) h.words.length d1, .slice (some ⟨g2, 0, none⟩) h.roots.length d2, .int .i64 h.old, .int .i64 h.eden, .int .i64 h.surv, .bool h.flip, .int .i64 h.hash, .slice (some ⟨g3, 0, none⟩) h.kept.length d3, .int .i64 0, .int .i64 0, .slice (some ⟨w1.heap.size, 0, none⟩) 3200 3200, .slice none 0 0, .bool false] 148)) (v := .pointer (some ⟨(w1.alloc wentObj).heap.size, 0, none⟩)) rfl rfl (by kernel_rfl) (by rfl) (by go_simp; first | done | with_reducible rfl) (.inr SY) ?_
      simp only [List.setIfInBounds_toArray, List.set_cons_zero, List.set_cons_succ]
      refine Disk.z_run 5 5 (w' := (w1.alloc wentObj).alloc (.cells #[.slice (some ⟨g1, 0, none⟩) h.words.length d1, .slice (some ⟨g2, 0, none⟩) h.roots.length d2, .int .i64 h.old, .int .i64 h.eden, .int .i64 h.surv, .bool h.flip, .int .i64 h.hash, .slice (some ⟨g3, 0, none⟩) h.kept.length d3, .int .i64 0, .int .i64 0, .slice (some ⟨w1.heap.size, 0, none⟩) 3200 3200, .slice none 0 0, .bool false] 148)) (v := .pointer (some ⟨(w1.alloc wentObj).heap.size, 0, none⟩)) rfl rfl (by kernel_rfl) (by rfl) (by go_simp; first | done | with_reducible rfl) (.inr SY) ?_
      simp only [List.setIfInBounds_toArray, List.set_cons_zero, List.set_cons_succ]
      refine Disk.z_done (by kernel_rfl) ?_ _
      go_wp2_with fail
      go_meet
      exact ⟨_, g1, g2, g3, w1.heap.size, d1, d2, d3, rfl, KN, S3, g1b, by omega, by omega, by omega⟩
    · have alm := bel_one wd wentObj
      have Sm : CS w (wd.alloc wentObj) (.slice a1 h.words.length c1) (.slice a2 h.roots.length c2) (.int .i64 h.old) (.int .i64 h.eden) (.int .i64 h.surv) (.bool h.flip) (.int .i64 h.hash) (.slice a3 h.kept.length c3) := Sd.later alm
      refine o_run 2 19 (w' := wd.alloc wentObj) (v := .slice (some ⟨wd.heap.size, 0, none⟩) 3200 3200) rfl rfl (by rfl) (by go_simp; first | done | with_reducible rfl) (.inr ⟨Sm.c0, Sm.c1, Sm.c2, Sm.c3, Sm.c4, Sm.c5, Sm.c6, Sm.c7⟩) ?_
      simp only [List.setIfInBounds_toArray, List.set_cons_zero, List.set_cons_succ]
      refine Disk.z_call 1 18 rfl rfl (by kernel_rfl) (by rfl) (f := 30) (args := #[.agg #[.slice a1 h.words.length c1, .slice a2 h.roots.length c2, .int .i64 h.old, .int .i64 h.eden, .int .i64 h.surv, .bool h.flip, .int .i64 h.hash, .slice a3 h.kept.length c3]]) (w0 := wd.alloc wentObj) (by go_simp; first | done | with_reducible rfl) ?_
      refine (CP _ Sm.bel).mono ?_
      rintro e w1 ⟨⟨g1, d1, g2, d2, g3, d3, rfl, ⟨q1, q2, q3⟩, ⟨l0, l1, l2⟩, ⟨m1, m2, m3⟩⟩, hb1⟩
      have S2 := Sm.later hb1
      have SX : (w1.cell? ⟨w.heap.size, 0, none⟩ = some (.slice a1 h.words.length c1) ∧ w1.cell? ⟨w.heap.size, 1, none⟩ = some (.slice a2 h.roots.length c2) ∧ w1.cell? ⟨w.heap.size, 2, none⟩ = some (.int .i64 h.old) ∧ w1.cell? ⟨w.heap.size, 3, none⟩ = some (.int .i64 h.eden) ∧ w1.cell? ⟨w.heap.size, 4, none⟩ = some (.int .i64 h.surv) ∧ w1.cell? ⟨w.heap.size, 5, none⟩ = some (.bool h.flip) ∧ w1.cell? ⟨w.heap.size, 6, none⟩ = some (.int .i64 h.hash) ∧ w1.cell? ⟨w.heap.size, 7, none⟩ = some (.slice a3 h.kept.length c3)) := ⟨S2.c0, S2.c1, S2.c2, S2.c3, S2.c4, S2.c5, S2.c6, S2.c7⟩
      refine ⟨_, rfl, .inr SX, ?_⟩
      simp only [List.setIfInBounds_toArray, List.set_cons_zero, List.set_cons_succ]
      have T2 := (went_row wd).later hb1
      have lt1 := q1.lt
      have lt2 := q2.lt
      have lt3 := q3.lt
      have szm : (wd.alloc wentObj).heap.size = wd.heap.size + 1 := World.size_alloc _ _
      rw [szm] at l0
      have KN := k0_new (h := h) q1 q2 q3 T2 (by omega) (by omega) (by omega) (by omega) (by omega) (by omega) m1 m2
      have S3 := S2.later (bel_one _ (.cells #[.slice (some ⟨g1, 0, none⟩) h.words.length d1, .slice (some ⟨g2, 0, none⟩) h.roots.length d2, .int .i64 h.old, .int .i64 h.eden, .int .i64 h.surv, .bool h.flip, .int .i64 h.hash, .slice (some ⟨g3, 0, none⟩) h.kept.length d3, .int .i64 0, .int .i64 0, .slice (some ⟨wd.heap.size, 0, none⟩) 3200 3200, .slice none 0 0, .bool false] 148))
      have SY : ((w1.alloc (.cells #[.slice (some ⟨g1, 0, none⟩) h.words.length d1, .slice (some ⟨g2, 0, none⟩) h.roots.length d2, .int .i64 h.old, .int .i64 h.eden, .int .i64 h.surv, .bool h.flip, .int .i64 h.hash, .slice (some ⟨g3, 0, none⟩) h.kept.length d3, .int .i64 0, .int .i64 0, .slice (some ⟨wd.heap.size, 0, none⟩) 3200 3200, .slice none 0 0, .bool false] 148)).cell? ⟨w.heap.size, 0, none⟩ = some (.slice a1 h.words.length c1) ∧ (w1.alloc (.cells #[.slice (some ⟨g1, 0, none⟩) h.words.length d1, .slice (some ⟨g2, 0, none⟩) h.roots.length d2, .int .i64 h.old, .int .i64 h.eden, .int .i64 h.surv, .bool h.flip, .int .i64 h.hash, .slice (some ⟨g3, 0, none⟩) h.kept.length d3, .int .i64 0, .int .i64 0, .slice (some ⟨wd.heap.size, 0, none⟩) 3200 3200, .slice none 0 0, .bool false] 148)).cell? ⟨w.heap.size, 1, none⟩ = some (.slice a2 h.roots.length c2) ∧ (w1.alloc (.cells #[.slice (some ⟨g1, 0, none⟩) h.words.length d1, .slice (some ⟨g2, 0, none⟩) h.roots.length d2, .int .i64 h.old, .int .i64 h.eden, .int .i64 h.surv, .bool h.flip, .int .i64 h.hash, .slice (some ⟨g3, 0, none⟩) h.kept.length d3, .int .i64 0, .int .i64 0, .slice (some ⟨wd.heap.size, 0, none⟩) 3200 3200, .slice none 0 0, .bool false] 148)).cell? ⟨w.heap.size, 2, none⟩ = some (.int .i64 h.old) ∧ (w1.alloc (.cells #[.slice (some ⟨g1, 0, none⟩) h.words.length d1, .slice (some ⟨g2, 0, none⟩) h.roots.length d2, .int .i64 h.old, .int .i64 h.eden, .int .i64 h.surv, .bool h.flip, .int .i64 h.hash, .slice (some ⟨g3, 0, none⟩) h.kept.length d3, .int .i64 0, .int .i64 0, .slice (some ⟨wd.heap.size, 0, none⟩) 3200 3200, .slice none 0 0, .bool false] 148)).cell? ⟨w.heap.size, 3, none⟩ = some (.int .i64 h.eden) ∧ (w1.alloc (.cells #[.slice (some ⟨g1, 0, none⟩) h.words.length d1, .slice (some ⟨g2, 0, none⟩) h.roots.length d2, .int .i64 h.old, .int .i64 h.eden, .int .i64 h.surv, .bool h.flip, .int .i64 h.hash, .slice (some ⟨g3, 0, none⟩) h.kept.length d3, .int .i64 0, .int .i64 0, .slice (some ⟨wd.heap.size, 0, none⟩) 3200 3200, .slice none 0 0, .bool false] 148)).cell? ⟨w.heap.size, 4, none⟩ = some (.int .i64 h.surv) ∧ (w1.alloc (.cells #[.slice (some ⟨g1, 0, none⟩) h.words.length d1, .slice (some ⟨g2, 0, none⟩) h.roots.length d2, .int .i64 h.old, .int .i64 h.eden, .int .i64 h.surv, .bool h.flip, .int .i64 h.hash, .slice (some ⟨g3, 0, none⟩) h.kept.length d3, .int .i64 0, .int .i64 0, .slice (some ⟨wd.heap.size, 0, none⟩) 3200 3200, .slice none 0 0, .bool false] 148)).cell? ⟨w.heap.size, 5, none⟩ = some (.bool h.flip) ∧ (w1.alloc (.cells #[.slice (some ⟨g1, 0, none⟩) h.words.length d1, .slice (some ⟨g2, 0, none⟩) h.roots.length d2, .int .i64 h.old, .int .i64 h.eden, .int .i64 h.surv, .bool h.flip, .int .i64 h.hash, .slice (some ⟨g3, 0, none⟩) h.kept.length d3, .int .i64 0, .int .i64 0, .slice (some ⟨wd.heap.size, 0, none⟩) 3200 3200, .slice none 0 0, .bool false] 148)).cell? ⟨w.heap.size, 6, none⟩ = some (.int .i64 h.hash) ∧ (w1.alloc (.cells #[.slice (some ⟨g1, 0, none⟩) h.words.length d1, .slice (some ⟨g2, 0, none⟩) h.roots.length d2, .int .i64 h.old, .int .i64 h.eden, .int .i64 h.surv, .bool h.flip, .int .i64 h.hash, .slice (some ⟨g3, 0, none⟩) h.kept.length d3, .int .i64 0, .int .i64 0, .slice (some ⟨wd.heap.size, 0, none⟩) 3200 3200, .slice none 0 0, .bool false] 148)).cell? ⟨w.heap.size, 7, none⟩ = some (.slice a3 h.kept.length c3)) := ⟨S3.c0, S3.c1, S3.c2, S3.c3, S3.c4, S3.c5, S3.c6, S3.c7⟩
      have s0l : w.heap.size + 1 < wd.heap.size := Sd.lt
      refine Disk.z_run 3 20 (w' := w1) (v := .agg #[.slice (some ⟨g1, 0, none⟩) h.words.length d1, .slice (some ⟨g2, 0, none⟩) h.roots.length d2, .int .i64 h.old, .int .i64 h.eden, .int .i64 h.surv, .bool h.flip, .int .i64 h.hash, .slice (some ⟨g3, 0, none⟩) h.kept.length d3, .int .i64 0, .int .i64 0, .slice (some ⟨wd.heap.size, 0, none⟩) 3200 3200, .slice none 0 0, .bool false]) rfl rfl (by kernel_rfl) (by rfl) (by go_simp; first | done | with_reducible rfl) (.inr SX) ?_
      simp only [List.setIfInBounds_toArray, List.set_cons_zero, List.set_cons_succ]
      refine Disk.z_run 4 21 (w' := w1.alloc (.cells #[.slice (some ⟨g1, 0, none⟩) h.words.length d1, .slice (some ⟨g2, 0, none⟩) h.roots.length d2, .int .i64 h.old, .int .i64 h.eden, .int .i64 h.surv, .bool h.flip, .int .i64 h.hash, .slice (some ⟨g3, 0, none⟩) h.kept.length d3, .int .i64 0, .int .i64 0, .slice (some ⟨wd.heap.size, 0, none⟩) 3200 3200, .slice none 0 0, .bool false] 148)) (v := .pointer (some ⟨w1.heap.size, 0, none⟩)) rfl rfl (by kernel_rfl) (by rfl) (by go_simp; first | done | with_reducible rfl) (.inr SY) ?_
      simp only [List.setIfInBounds_toArray, List.set_cons_zero, List.set_cons_succ]
      refine Disk.z_run 5 5 (w' := w1.alloc (.cells #[.slice (some ⟨g1, 0, none⟩) h.words.length d1, .slice (some ⟨g2, 0, none⟩) h.roots.length d2, .int .i64 h.old, .int .i64 h.eden, .int .i64 h.surv, .bool h.flip, .int .i64 h.hash, .slice (some ⟨g3, 0, none⟩) h.kept.length d3, .int .i64 0, .int .i64 0, .slice (some ⟨wd.heap.size, 0, none⟩) 3200 3200, .slice none 0 0, .bool false] 148)) (v := .pointer (some ⟨w1.heap.size, 0, none⟩)) rfl rfl (by kernel_rfl) (by rfl) (by go_simp; first | done | with_reducible rfl) (.inr SY) ?_
      simp only [List.setIfInBounds_toArray, List.set_cons_zero, List.set_cons_succ]
      refine Disk.z_done (by kernel_rfl) ?_ _
      go_wp2_with fail
      go_meet
      exact ⟨_, g1, g2, g3, wd.heap.size, d1, d2, d3, rfl, KN, S3, by omega, by omega, by omega, by omega⟩
  case rest =>
    obtain ⟨K, g1, g2, g3, gt, d1, d2, d3, rfl, KN, S1, b1, b2, b3, bt⟩ := hcut
    have mx1 : Hid (d1 ≤ maxLen) := KN.x1
    have mx2 : Hid (d2 ≤ maxLen) := KN.x2
    have k8 : wc.cell? ⟨K, 8, none⟩ = some (.int .i64 0) := KN.row.cell (i := 8) (by omega)
    have k9 : wc.cell? ⟨K, 9, none⟩ = some (.int .i64 0) := KN.row.cell (i := 9) (by omega)
    have fK := fun j => KN.row.frozen j
    have ltK := KN.row.lt
    have tb32 : tb h + 300 ≤ 3200 := by have := tb_two h; omega
    have c5 := S1.c5
    have nK : ¬ w.heap.size = K := by have := S1.lt; have := KN.n1; omega
    have nK' : ¬ K = w.heap.size := by have := S1.lt; have := KN.n1; omega
    have K3 : KW h ((wc.setCell ⟨K, 8, none⟩ (.int .i64 (tb h : Int))).setCell ⟨K, 9, none⟩ (.int .i64 ((tb h : Int) + 300))) K g1 g2 g3 gt d1 d2 d3 (.slice none 0 0) h.roots (sv0 h) := by
      have ho : h.old = ((h.old.toNat : Nat) : Int) := by have := R.1.2.1; omega
      refine ⟨row_congr ((KN.row.set 8 (.int .i64 (tb h : Int))).set 9 (.int .i64 ((tb h : Int) + 300))) (fun i hi => match i, hi with | 0, _ => (by show Value.slice (some ⟨g1, 0, none⟩) h.words.length d1 = _; rw [hl.out]; rfl) | 1, _ => rfl | 2, _ => (by show Value.int .i64 h.old = .int .i64 ((h.old.toNat : Nat) : Int); rw [← ho]) | 3, _ => rfl | 4, _ => rfl | 5, _ => rfl | 6, _ => rfl | 7, _ => rfl | 8, _ => rfl | 9, _ => rfl | 10, _ => rfl | 11, _ => rfl | 12, _ => rfl), (KN.r1.setOther (by have := KN.n1; omega) _).setOther (by have := KN.n1; omega) _, (KN.r2.setOther (by have := KN.n2; omega) _).setOther (by have := KN.n2; omega) _, (KN.rt.setOther (by have := KN.nt; omega) _).setOther (by have := KN.nt; omega) _, ⟨rfl, .inl ⟨rfl, rfl⟩⟩, KN.n1, KN.n2, KN.nt, KN.d12, KN.d1t, KN.d2t⟩
    have G3 : Grew wc ((wc.setCell ⟨K, 8, none⟩ (.int .i64 (tb h : Int))).setCell ⟨K, 9, none⟩ (.int .i64 ((tb h : Int) + 300))) (fun b => b = K) := (Grew.set wc K 8 _).trans (Grew.set _ K 9 _)
    have S3 : CS w ((wc.setCell ⟨K, 8, none⟩ (.int .i64 (tb h : Int))).setCell ⟨K, 9, none⟩ (.int .i64 ((tb h : Int) + 300))) (.slice a1 h.words.length c1) (.slice a2 h.roots.length c2) (.int .i64 h.old) (.int .i64 h.eden) (.int .i64 h.surv) (.bool h.flip) (.int .i64 h.hash) (.slice a3 h.kept.length c3) := S1.grew G3 (fun b e => by have := S1.lt; have := KN.n1; omega)
    have R33 : RI ((wc.setCell ⟨K, 8, none⟩ (.int .i64 (tb h : Int))).setCell ⟨K, 9, none⟩ (.int .i64 ((tb h : Int) + 300))) g3 h.kept d3 := (KN.r3.setOther (by have := KN.n3; omega) _).setOther (by have := KN.n3; omega) _
    have P3 : PA h l (rtS h 0) 0 := sv0_si R
    have LS := fun W => l5Surv_any (!h.flip) W
    rw [show survB (!h.flip) = tb h from rfl] at LS
    have n3K := KN.n3
    have d13 := KN.d13
    have d23 := KN.d23
    have d3t := KN.d3t
    clear KN S1 MW CP
    go_wp2_with (go_at_call 55; refine (LS _).mono ?_; rintro e wq ⟨rfl, hq⟩; obtain rfl := hq.symm)
    clear k8 k9 fK c5 G3
    generalize ((wc.setCell ⟨K, 8, none⟩ (.int .i64 (tb h : Int))).setCell ⟨K, 9, none⟩ (.int .i64 ((tb h : Int) + 300))) = wd at *
    go_loopw [6] (fun iv wr => ∃ (i : Nat) (qv : Value), iv = .int .i64 i ∧ i ≤ h.roots.length ∧ KW h wr K g1 g2 g3 gt d1 d2 d3 qv (rtL h i) (rtS h i) ∧ PA h l (rtS h i) 0 ∧ CS w wr (.slice a1 h.words.length c1) (.slice a2 h.roots.length c2) (.int .i64 h.old) (.int .i64 h.eden) (.int .i64 h.surv) (.bool h.flip) (.int .i64 h.hash) (.slice a3 h.kept.length c3) ∧ RI wr g3 h.kept d3) (fun iv _ => h.roots.length - (intOf iv).toNat)
    case atStart => exact ⟨0, _, rfl, Nat.zero_le _, by rw [show rtL h 0 = h.roots from by simp [rtL]]; exact K3, P3, S3, R33⟩
    case round =>
      obtain ⟨i, qv, rfl, hi, kw, pa, S2, r3⟩ := hrel
      clear K3 P3 S3 R33
      have e1c := S2.c1
      by_cases hlt : i < h.roots.length
      · obtain ⟨b, o, ea2, ci⟩ := IRcell (i2.later S2.bel) i hlt
        subst ea2
        have hli : (i : Int) < h.roots.length := by omega
        have kc1 : wr.cell? ⟨K, 1, none⟩ = some (.slice (some ⟨g2, 0, none⟩) h.roots.length d2) := kw.row.cell (i := 1) (by omega)
        have bl : b < w.heap.size := World.block_lt_of_cell? _ _ (IRcell' i2 hlt)
        have MV : Calls Tryz.prog 126 #[.pointer (some ⟨K, 0, none⟩), .int .i64 (h.roots.getD i 0)] wr.drew fun e w' => (∃ qv', e = .returned (.int .i64 (rtY h i)) ∧ KW h w' K g1 g2 g3 gt d1 d2 d3 qv' (rtL h i) (rtS h (i + 1))) ∧ Grew wr.drew w' (fun b => b = K ∨ b = g1 ∨ b = gt ∨ K < b) := move_any h l R K g1 g2 g3 gt d1 d2 d3 qv (rtL h i) (rtS h i) (h.roots.getD i 0) wr.drew (kw.low (Below.refl _ _).drew) pa.1 (R.2.2.2.2.2.2.1 _ (by simp [hlt]))
        have ST := rt_step R hlt pa
        have LSet : Hid ((rtL h i).set i (rtY h i) = rtL h (i + 1)) := rtL_set h hlt
        have lRL : (rtL h i).length = h.roots.length := rtL_len h hi
        have ST1 := ST.1
        clear ST
        generalize rtY h i = y at *
        generalize h.roots.getD i 0 = x at *
        go_wp2_with fail
        refine Disk.z_plain 14 (fun W' => W'.cell? ⟨K, 1, none⟩ = some (.slice (some ⟨g2, 0, none⟩) h.roots.length d2) ∧ W'.cell? ⟨w.heap.size, 1, none⟩ = some (.slice (some ⟨b, o, none⟩) h.roots.length c2) ∧ W'.cell? ⟨b, o + i, none⟩ = some (.int .i64 (x))) (by kernel_rfl) ⟨kc1, e1c, ci⟩ fun hs => ?_
        refine Disk.z_take 0 44 (v := .pointer (some ⟨K, 0, none⟩)) rfl rfl (by kernel_rfl) (by kernel_rfl) (by kernel_rfl) (by kernel_rfl) (by rfl) hs (fun W' hSw => (by
          obtain ⟨s0, s1, s2⟩ := hSw
          go_simp; first | done | with_reducible rfl)) ?_
        simp only [List.setIfInBounds_toArray, List.set_cons_zero, List.set_cons_succ]
        refine Disk.z_take 1 45 (v := .pointer (some ⟨K, 0, none⟩)) rfl rfl (by kernel_rfl) (by kernel_rfl) (by kernel_rfl) (by kernel_rfl) (by rfl) hs (fun W' hSw => (by
          obtain ⟨s0, s1, s2⟩ := hSw
          go_simp; first | done | with_reducible rfl)) ?_
        simp only [List.setIfInBounds_toArray, List.set_cons_zero, List.set_cons_succ]
        refine Disk.z_take 2 46 (v := .pointer (some ⟨K, 0, none⟩)) rfl rfl (by kernel_rfl) (by kernel_rfl) (by kernel_rfl) (by kernel_rfl) (by rfl) hs (fun W' hSw => (by
          obtain ⟨s0, s1, s2⟩ := hSw
          go_simp; first | done | with_reducible rfl)) ?_
        simp only [List.setIfInBounds_toArray, List.set_cons_zero, List.set_cons_succ]
        refine Disk.z_take 3 47 (v := .pointer (some ⟨K, 1, none⟩)) rfl rfl (by kernel_rfl) (by kernel_rfl) (by kernel_rfl) (by kernel_rfl) (by rfl) hs (fun W' hSw => (by
          obtain ⟨s0, s1, s2⟩ := hSw
          go_simp; first | done | with_reducible rfl)) ?_
        simp only [List.setIfInBounds_toArray, List.set_cons_zero, List.set_cons_succ]
        refine Disk.z_take 4 48 (v := .slice (some ⟨g2, 0, none⟩) h.roots.length d2) rfl rfl (by kernel_rfl) (by kernel_rfl) (by kernel_rfl) (by kernel_rfl) (by rfl) hs (fun W' hSw => (by
          obtain ⟨s0, s1, s2⟩ := hSw
          go_simp; first | done | with_reducible rfl)) ?_
        simp only [List.setIfInBounds_toArray, List.set_cons_zero, List.set_cons_succ]
        refine Disk.z_take 5 49 (v := .int .i64 (i : Int)) rfl rfl (by kernel_rfl) (by kernel_rfl) (by kernel_rfl) (by kernel_rfl) (by rfl) hs (fun W' hSw => (by
          obtain ⟨s0, s1, s2⟩ := hSw
          go_simp; first | done | with_reducible rfl)) ?_
        simp only [List.setIfInBounds_toArray, List.set_cons_zero, List.set_cons_succ]
        refine Disk.z_take 6 50 (v := .pointer (some ⟨K, 0, none⟩)) rfl rfl (by kernel_rfl) (by kernel_rfl) (by kernel_rfl) (by kernel_rfl) (by rfl) hs (fun W' hSw => (by
          obtain ⟨s0, s1, s2⟩ := hSw
          go_simp; first | done | with_reducible rfl)) ?_
        simp only [List.setIfInBounds_toArray, List.set_cons_zero, List.set_cons_succ]
        refine Disk.z_take 7 51 (v := .pointer (some ⟨w.heap.size, 1, none⟩)) rfl rfl (by kernel_rfl) (by kernel_rfl) (by kernel_rfl) (by kernel_rfl) (by rfl) hs (fun W' hSw => (by
          obtain ⟨s0, s1, s2⟩ := hSw
          go_simp; first | done | with_reducible rfl)) ?_
        simp only [List.setIfInBounds_toArray, List.set_cons_zero, List.set_cons_succ]
        refine Disk.z_take 8 52 (v := .slice (some ⟨b, o, none⟩) h.roots.length c2) rfl rfl (by kernel_rfl) (by kernel_rfl) (by kernel_rfl) (by kernel_rfl) (by rfl) hs (fun W' hSw => (by
          obtain ⟨s0, s1, s2⟩ := hSw
          go_simp; first | done | with_reducible rfl)) ?_
        simp only [List.setIfInBounds_toArray, List.set_cons_zero, List.set_cons_succ]
        refine Disk.z_take 9 53 (v := .int .i64 (i : Int)) rfl rfl (by kernel_rfl) (by kernel_rfl) (by kernel_rfl) (by kernel_rfl) (by rfl) hs (fun W' hSw => (by
          obtain ⟨s0, s1, s2⟩ := hSw
          go_simp; first | done | with_reducible rfl)) ?_
        simp only [List.setIfInBounds_toArray, List.set_cons_zero, List.set_cons_succ]
        refine Disk.z_take 10 54 (v := .pointer (some ⟨b, o + i, none⟩)) rfl rfl (by kernel_rfl) (by kernel_rfl) (by kernel_rfl) (by kernel_rfl) (by rfl) hs (fun W' hSw => (by
          obtain ⟨s0, s1, s2⟩ := hSw
          go_simp; first | done | with_reducible rfl)) ?_
        simp only [List.setIfInBounds_toArray, List.set_cons_zero, List.set_cons_succ]
        refine Disk.z_take 11 55 (v := .int .i64 x) rfl rfl (by kernel_rfl) (by kernel_rfl) (by kernel_rfl) (by kernel_rfl) (by rfl) hs (fun W' hSw => (by
          obtain ⟨s0, s1, s2⟩ := hSw
          go_simp; first | done | with_reducible rfl)) ?_
        simp only [List.setIfInBounds_toArray, List.set_cons_zero, List.set_cons_succ]
        refine Disk.z_call 12 56 rfl rfl (by kernel_rfl) (by rfl) (f := 126) (args := #[.pointer (some ⟨K, 0, none⟩), .int .i64 (x)]) (w0 := wr.drew) (by go_simp) ?_
        refine MV.mono ?_
        rintro e w6 ⟨⟨qv', rfl, k6⟩, G6⟩
        have Gr : Grew wr w6 (fun b => b = K ∨ b = g1 ∨ b = gt ∨ K < b) := (Grew.refl wr _).drew.trans G6
        have big : ∀ b, (b = K ∨ b = g1 ∨ b = gt ∨ K < b) → w.heap.size + 1 < b := fun b e => by have := k6.n1; omega
        have S6 := S2.grew Gr big
        have hs6 : w6.cell? ⟨K, 1, none⟩ = some (.slice (some ⟨g2, 0, none⟩) h.roots.length d2) ∧ w6.cell? ⟨w.heap.size, 1, none⟩ = some (.slice (some ⟨b, o, none⟩) h.roots.length c2) ∧ w6.cell? ⟨b, o + i, none⟩ = some (.int .i64 (x)) := ⟨k6.row.cell (i := 1) (by omega), S6.c1, Gr.cell ci (fun e => by have := big b e; omega)⟩
        refine ⟨_, rfl, .inr hs6, ?_⟩
        simp only [List.setIfInBounds_toArray, List.set_cons_zero, List.set_cons_succ]
        refine Disk.z_run 13 57 (w' := w6) (v := .pointer (some ⟨g2, i, none⟩)) rfl rfl (by kernel_rfl) (by rfl) (by go_simp; first | done | with_reducible rfl) (.inr hs6) ?_
        simp only [List.setIfInBounds_toArray, List.set_cons_zero, List.set_cons_succ]
        have ci2 := k6.r2.cell (i := i) (by rw [lRL]; exact hlt)
        have fi2 := fun j => k6.r2.frozen j
        have lg2 := k6.r2.lt
        refine Disk.z_skip 14 (w' := w6.setCell ⟨g2, i, none⟩ (.int .i64 (y))) rfl rfl (by kernel_rfl) (by rfl) (by go_simp; first | done | with_reducible rfl) (.inl rfl) ?_
        refine Disk.z_done (by kernel_rfl) ?_ _
        have K7 : KW h (w6.setCell ⟨g2, i, none⟩ (.int .i64 (y))) K g1 g2 g3 gt d1 d2 d3 qv' (rtL h (i + 1)) (rtS h (i + 1)) := by
          refine ⟨k6.row.setOther (a := ⟨g2, i, none⟩) (by show K ≠ g2; have := k6.n2; omega) _, k6.r1.setOther k6.d12 _, ?_, k6.rt.setOther (fun e => k6.d2t e.symm) _, (Grew.set w6 g2 i _).own k6.rq (fun q hq e => by have := own_low k6.rq hq; have := k6.n2; omega), k6.n1, k6.n2, k6.nt, k6.d12, k6.d1t, k6.d2t⟩
          rw [← LSet.out]
          exact k6.r2.set i (y)
        have S7 := S6.grew (Grew.set w6 g2 i (.int .i64 (y))) (fun q e => by omega)
        have r37 := (r3.block (Gr.block _ r3.lt (by omega))).setOther (b := g2) (i := i) (by exact fun e => d23 e.symm) (.int .i64 (y))
        clear ci2 fi2 hs hs6 k6 S6 MV G6 Gr kw S2 r3 kc1 e1c ci
        generalize w6.setCell ⟨g2, i, none⟩ (.int .i64 (y)) = w7 at *
        go_wp2
        exact ⟨⟨i + 1, qv', by go_num, by omega, K7, ST1, S7, r37⟩, by simp [intOf]; omega⟩
      · obtain rfl : i = h.roots.length := by omega
        have hRL : (rtL h h.roots.length).length = h.roots.length := rtL_len h (Nat.le_refl _)
        generalize hRLe : rtL h h.roots.length = RL at *
        replace hRLe : Hid (rtL h h.roots.length = RL) := hRLe
        replace kw : KW h wr K g1 g2 g3 gt d1 d2 d3 qv RL (kpS h 0) := kw
        replace pa : PA h l (kpS h 0) 0 := pa
        clear hlt
        go_wp2
        go_loopw [7, 8, 9] (fun iv _ _ wr => ∃ (i f : Nat) (qv : Value), iv = .int .i64 i ∧ i ≤ h.kept.length ∧ KW h wr K g1 g2 g3 gt d1 d2 d3 qv RL (kpS h i) ∧ PA h l (kpS h i) f ∧ (i < h.kept.length → (f : Int) ≤ h.kept.getD i 0) ∧ CS w wr (.slice a1 h.words.length c1) (.slice a2 h.roots.length c2) (.int .i64 h.old) (.int .i64 h.eden) (.int .i64 h.surv) (.bool h.flip) (.int .i64 h.hash) (.slice a3 h.kept.length c3) ∧ RI wr g3 h.kept d3) (fun iv _ _ _ => h.kept.length - (intOf iv).toNat)
        case atStart => exact ⟨0, 0, qv, rfl, Nat.zero_le _, kw, pa, fun q => (by have := kept_mem R (x := h.kept.getD 0 0) (by simp [q]); obtain ⟨a, e, _⟩ := this; omega), S2, r3⟩
        case round =>
          clear kw pa S2 r3 e1c qv
          obtain ⟨i, f, qv, rfl, hi, kw, pa, hf, S2, r3⟩ := hrel
          have e7c := S2.c7
          have e0c := S2.c0
          by_cases hlt : i < h.kept.length
          · obtain ⟨b, o, ea3, ci⟩ := IRcell (i3.later S2.bel) i hlt
            subst ea3
            have hli : (i : Int) < h.kept.length := by omega
            obtain ⟨a, ka, ha, a20⟩ := kept_mem R (x := h.kept.getD i 0) (by simp [hlt])
            have hfa := hf hlt
            rw [ka] at ci hfa
            obtain ⟨q1', q2', q3'⟩ := R.1.obj ha
            have sz := size_of q3'
            obtain ⟨n, hn⟩ := Int.eq_ofNat_of_zero_le sz.1
            have nb : n ≤ 60 := by omega
            obtain ⟨bw, ow, ea1, cw⟩ := IRcell (i1.later S2.bel) a (by rw [hl.out]; omega)
            subst ea1
            have gwn : h.words.getD a 0 = (n : Int) := hn
            have nxe : nx h.words a = a + 4 + n := by unfold nx; rw [hn]; rfl
            have oa := old_area R ha a20
            rw [nxe] at q2' oa
            have pa' : PA h l (kpS h i) (a + 4) := ⟨pa.1, pa.2.1.up (by omega), pa.2.2⟩
            have KP : Hid (kpS h (i + 1) = fdS (tb h + 300) (kpS h i) (a + 4) n) := (by show fdS (tb h + 300) (kpS h i) ((h.kept.getD i 0).toNat + 4) (gw h.words (h.kept.getD i 0).toNat).toNat = _; rw [ka, Int.toNat_natCast, hn]; rfl : kpS h (i + 1) = fdS (tb h + 300) (kpS h i) (a + 4) n)
            have HF : Hid (i + 1 < h.kept.length → ((a + 4 + n : Nat) : Int) ≤ h.kept.getD (i + 1) 0) := fun q => by
              obtain ⟨a', ka', ha', _⟩ := kept_mem R (x := h.kept.getD (i + 1) 0) (by simp [q])
              have := kept_lt R (i := i) q (by omega)
              rw [ka, ka'] at this
              have := R.1.apart ha ha' (by omega)
              rw [nxe] at this
              omega
            have ha32 : (a : Int) < h.words.length := by rw [hl.out]; omega
            have ha3 : a < h.words.length := by rw [hl.out]; omega
            have GN : Hid (gw h.words a = n) := hn
            replace ka : Hid (h.kept.getD i 0 = a) := ka
            rw [gwn] at cw
            clear hn gwn nxe sz q3' pa hf
            go_wp2
            go_loopw [9] (fun fv wr3 => ∃ (j : Nat) (qv : Value), fv = .int .i64 ((a + 4 + j : Nat) : Int) ∧ j ≤ n ∧ KW h wr3 K g1 g2 g3 gt d1 d2 d3 qv RL (fdS (tb h + 300) (kpS h i) (a + 4) j) ∧ PA h l (fdS (tb h + 300) (kpS h i) (a + 4) j) (a + 4 + j) ∧ CS w wr3 (.slice (some ⟨bw, ow, none⟩) h.words.length c1) (.slice a2 h.roots.length c2) (.int .i64 h.old) (.int .i64 h.eden) (.int .i64 h.surv) (.bool h.flip) (.int .i64 h.hash) (.slice (some ⟨b, o, none⟩) h.kept.length c3) ∧ RI wr3 g3 h.kept d3) (fun fv _ => a + 4 + n - (intOf fv).toNat)
            case atStart => exact ⟨0, qv, by go_num, Nat.zero_le _, kw, pa', S2, r3⟩
            case round =>
              clear kw pa' S2 r3 e7c e0c ci cw qv
              obtain ⟨j, qv, rfl, hj, kw, pa, S2, r3⟩ := hrel
              have e0c := S2.c0
              have cw := IRcell' (i1.later S2.bel) (i := a) ha3
              rw [show h.words.getD a 0 = (n : Int) from GN.out] at cw
              by_cases hjn : j < n
              · have st := fd_step R ha a20 (s := kpS h i) (j := j) (by rw [GN.out]; omega) pa
                have ff := R.2.2.2.2.2.2.2.1 a ha (a + 4 + j) (by omega) (by unfold nx; rw [GN.out]; show a + 4 + j < a + 4 + n; omega)
                have ex := pa.2.1 (a + 4 + j) (Nat.le_refl _) (by omega)
                rw [← ex] at ff
                have mk := mv_keep R pa.1 ff
                have MV : Calls Tryz.prog 126 #[.pointer (some ⟨K, 0, none⟩), .int .i64 (gw (fdS (tb h + 300) (kpS h i) (a + 4) j).W (a + 4 + j))] wr.drew fun e w' => (∃ qv', e = .returned (.int .i64 (mv (tb h + 300) (fdS (tb h + 300) (kpS h i) (a + 4) j) (gw (fdS (tb h + 300) (kpS h i) (a + 4) j).W (a + 4 + j))).2) ∧ KW h w' K g1 g2 g3 gt d1 d2 d3 qv' RL (mv (tb h + 300) (fdS (tb h + 300) (kpS h i) (a + 4) j) (gw (fdS (tb h + 300) (kpS h i) (a + 4) j).W (a + 4 + j))).1) ∧ Grew wr.drew w' (fun b => b = K ∨ b = g1 ∨ b = gt ∨ K < b) := move_any h l R K g1 g2 g3 gt d1 d2 d3 qv RL _ _ wr.drew (kw.low (Below.refl _ _).drew) pa.1 ff
                have cx := kw.r1.cell (i := a + 4 + j) (by rw [pa.1.len]; omega)
                have cx2 : gw (mv (tb h + 300) (fdS (tb h + 300) (kpS h i) (a + 4) j) (gw (fdS (tb h + 300) (kpS h i) (a + 4) j).W (a + 4 + j))).1.W (a + 4 + j) = gw (fdS (tb h + 300) (kpS h i) (a + 4) j).W (a + 4 + j) := mk.1.out _ (by have := pa.1.old0; omega) (by have := pa.1.to0; have := tb_two h; omega)
                have len1 := mk.1.si.len
                have st1 : PA h l (fdS (tb h + 300) (kpS h i) (a + 4) (j + 1)) (a + 4 + (j + 1)) := st.1
                have FD : Hid (fdS (tb h + 300) (kpS h i) (a + 4) (j + 1) = fd1 (tb h + 300) (fdS (tb h + 300) (kpS h i) (a + 4) j) (a + 4 + j)) := (rfl : _ = _)
                unfold fd1 at FD
                replace cx : wr.cell? ⟨g1, a + 4 + j, none⟩ = some (.int .i64 (gw (fdS (tb h + 300) (kpS h i) (a + 4) j).W (a + 4 + j))) := cx
                clear st mk ff ex
                generalize hT : fdS (tb h + 300) (kpS h i) (a + 4) (j + 1) = t' at *
                replace hT : Hid (fdS (tb h + 300) (kpS h i) (a + 4) (j + 1) = t') := hT
                generalize fdS (tb h + 300) (kpS h i) (a + 4) j = t at *
                generalize (mv (tb h + 300) t (gw t.W (a + 4 + j))).2 = y at *
                generalize (mv (tb h + 300) t (gw t.W (a + 4 + j))).1 = t1 at *
                generalize gw t.W (a + 4 + j) = x at *
                have kc0 : wr.cell? ⟨K, 0, none⟩ = some (.slice (some ⟨g1, 0, none⟩) 3200 d1) := kw.row.cell (i := 0) (by omega)
                have f32 : a + 4 + j < 3200 := by omega
                have f32i : (a : Int) + 4 + j < 3200 := by omega
                have f0i : (0 : Int) ≤ (a : Int) + 4 + j := by omega
                go_wp2_with fail
                refine Disk.z_plain 17 (fun W' => W'.cell? ⟨K, 0, none⟩ = some (.slice (some ⟨g1, 0, none⟩) 3200 d1) ∧ W'.cell? ⟨g1, a + 4 + j, none⟩ = some (.int .i64 x)) (by kernel_rfl) ⟨kc0, cx⟩ fun hs => ?_
                refine Disk.z_take 0 84 (v := .pointer (some ⟨K, 0, none⟩)) rfl rfl (by kernel_rfl) (by kernel_rfl) (by kernel_rfl) (by kernel_rfl) (by rfl) hs (fun W' hSw => (by
                  obtain ⟨s0, s1⟩ := hSw
                  go_simp; first | done | with_reducible rfl)) ?_
                simp only [List.setIfInBounds_toArray, List.set_cons_zero, List.set_cons_succ]
                refine Disk.z_take 1 85 (v := .pointer (some ⟨K, 0, none⟩)) rfl rfl (by kernel_rfl) (by kernel_rfl) (by kernel_rfl) (by kernel_rfl) (by rfl) hs (fun W' hSw => (by
                  obtain ⟨s0, s1⟩ := hSw
                  go_simp; first | done | with_reducible rfl)) ?_
                simp only [List.setIfInBounds_toArray, List.set_cons_zero, List.set_cons_succ]
                refine Disk.z_take 2 86 (v := .pointer (some ⟨K, 0, none⟩)) rfl rfl (by kernel_rfl) (by kernel_rfl) (by kernel_rfl) (by kernel_rfl) (by rfl) hs (fun W' hSw => (by
                  obtain ⟨s0, s1⟩ := hSw
                  go_simp; first | done | with_reducible rfl)) ?_
                simp only [List.setIfInBounds_toArray, List.set_cons_zero, List.set_cons_succ]
                refine Disk.z_take 3 87 (v := .pointer (some ⟨K, 0, none⟩)) rfl rfl (by kernel_rfl) (by kernel_rfl) (by kernel_rfl) (by kernel_rfl) (by rfl) hs (fun W' hSw => (by
                  obtain ⟨s0, s1⟩ := hSw
                  go_simp; first | done | with_reducible rfl)) ?_
                simp only [List.setIfInBounds_toArray, List.set_cons_zero, List.set_cons_succ]
                refine Disk.z_take 4 88 (v := .slice (some ⟨g1, 0, none⟩) 3200 d1) rfl rfl (by kernel_rfl) (by kernel_rfl) (by kernel_rfl) (by kernel_rfl) (by rfl) hs (fun W' hSw => (by
                  obtain ⟨s0, s1⟩ := hSw
                  go_simp; first | done | with_reducible rfl)) ?_
                simp only [List.setIfInBounds_toArray, List.set_cons_zero, List.set_cons_succ]
                refine Disk.z_take 5 89 (v := .int .i64 ((a : Int) + 4 + j)) rfl rfl (by kernel_rfl) (by kernel_rfl) (by kernel_rfl) (by kernel_rfl) (by rfl) hs (fun W' hSw => (by
                  obtain ⟨s0, s1⟩ := hSw
                  go_simp; first | done | with_reducible rfl)) ?_
                simp only [List.setIfInBounds_toArray, List.set_cons_zero, List.set_cons_succ]
                refine Disk.z_take 6 90 (v := .pointer (some ⟨K, 0, none⟩)) rfl rfl (by kernel_rfl) (by kernel_rfl) (by kernel_rfl) (by kernel_rfl) (by rfl) hs (fun W' hSw => (by
                  obtain ⟨s0, s1⟩ := hSw
                  go_simp; first | done | with_reducible rfl)) ?_
                simp only [List.setIfInBounds_toArray, List.set_cons_zero, List.set_cons_succ]
                refine Disk.z_take 7 91 (v := .pointer (some ⟨K, 0, none⟩)) rfl rfl (by kernel_rfl) (by kernel_rfl) (by kernel_rfl) (by kernel_rfl) (by rfl) hs (fun W' hSw => (by
                  obtain ⟨s0, s1⟩ := hSw
                  go_simp; first | done | with_reducible rfl)) ?_
                simp only [List.setIfInBounds_toArray, List.set_cons_zero, List.set_cons_succ]
                refine Disk.z_take 8 92 (v := .pointer (some ⟨K, 0, none⟩)) rfl rfl (by kernel_rfl) (by kernel_rfl) (by kernel_rfl) (by kernel_rfl) (by rfl) hs (fun W' hSw => (by
                  obtain ⟨s0, s1⟩ := hSw
                  go_simp; first | done | with_reducible rfl)) ?_
                simp only [List.setIfInBounds_toArray, List.set_cons_zero, List.set_cons_succ]
                refine Disk.z_take 9 93 (v := .pointer (some ⟨K, 0, none⟩)) rfl rfl (by kernel_rfl) (by kernel_rfl) (by kernel_rfl) (by kernel_rfl) (by rfl) hs (fun W' hSw => (by
                  obtain ⟨s0, s1⟩ := hSw
                  go_simp; first | done | with_reducible rfl)) ?_
                simp only [List.setIfInBounds_toArray, List.set_cons_zero, List.set_cons_succ]
                refine Disk.z_take 10 94 (v := .pointer (some ⟨K, 0, none⟩)) rfl rfl (by kernel_rfl) (by kernel_rfl) (by kernel_rfl) (by kernel_rfl) (by rfl) hs (fun W' hSw => (by
                  obtain ⟨s0, s1⟩ := hSw
                  go_simp; first | done | with_reducible rfl)) ?_
                simp only [List.setIfInBounds_toArray, List.set_cons_zero, List.set_cons_succ]
                refine Disk.z_take 11 95 (v := .slice (some ⟨g1, 0, none⟩) 3200 d1) rfl rfl (by kernel_rfl) (by kernel_rfl) (by kernel_rfl) (by kernel_rfl) (by rfl) hs (fun W' hSw => (by
                  obtain ⟨s0, s1⟩ := hSw
                  go_simp; first | done | with_reducible rfl)) ?_
                simp only [List.setIfInBounds_toArray, List.set_cons_zero, List.set_cons_succ]
                refine Disk.z_take 12 96 (v := .int .i64 ((a : Int) + 4 + j)) rfl rfl (by kernel_rfl) (by kernel_rfl) (by kernel_rfl) (by kernel_rfl) (by rfl) hs (fun W' hSw => (by
                  obtain ⟨s0, s1⟩ := hSw
                  go_simp; first | done | with_reducible rfl)) ?_
                simp only [List.setIfInBounds_toArray, List.set_cons_zero, List.set_cons_succ]
                refine Disk.z_take 13 97 (v := .pointer (some ⟨g1, a + 4 + j, none⟩)) rfl rfl (by kernel_rfl) (by kernel_rfl) (by kernel_rfl) (by kernel_rfl) (by rfl) hs (fun W' hSw => (by
                  obtain ⟨s0, s1⟩ := hSw
                  go_simp; first | done | with_reducible rfl)) ?_
                simp only [List.setIfInBounds_toArray, List.set_cons_zero, List.set_cons_succ]
                refine Disk.z_take 14 98 (v := .int .i64 x) rfl rfl (by kernel_rfl) (by kernel_rfl) (by kernel_rfl) (by kernel_rfl) (by rfl) hs (fun W' hSw => (by
                  obtain ⟨s0, s1⟩ := hSw
                  go_simp; first | done | with_reducible rfl)) ?_
                simp only [List.setIfInBounds_toArray, List.set_cons_zero, List.set_cons_succ]
                refine Disk.z_call 15 99 rfl rfl (by kernel_rfl) (by rfl) (f := 126) (args := #[.pointer (some ⟨K, 0, none⟩), .int .i64 x]) (w0 := wr.drew) (by go_simp) ?_
                refine MV.mono ?_
                rintro e w6 ⟨⟨qv', rfl, k6⟩, G6⟩
                have Gr : Grew wr w6 (fun b => b = K ∨ b = g1 ∨ b = gt ∨ K < b) := (Grew.refl wr _).drew.trans G6
                have big : ∀ b, (b = K ∨ b = g1 ∨ b = gt ∨ K < b) → w.heap.size + 1 < b := fun b e => by have := k6.n1; omega
                have S6 := S2.grew Gr big
                have cx6 := k6.r1.cell (i := a + 4 + j) (by rw [len1]; omega)
                replace cx6 : w6.cell? ⟨g1, a + 4 + j, none⟩ = some (.int .i64 (gw t1.W (a + 4 + j))) := cx6
                rw [cx2] at cx6
                have hs6 : w6.cell? ⟨K, 0, none⟩ = some (.slice (some ⟨g1, 0, none⟩) 3200 d1) ∧ w6.cell? ⟨g1, a + 4 + j, none⟩ = some (.int .i64 x) := ⟨k6.row.cell (i := 0) (by omega), cx6⟩
                refine ⟨_, rfl, .inr hs6, ?_⟩
                simp only [List.setIfInBounds_toArray, List.set_cons_zero, List.set_cons_succ]
                refine Disk.z_run 16 100 (w' := w6) (v := .pointer (some ⟨g1, a + 4 + j, none⟩)) rfl rfl (by kernel_rfl) (by rfl) (by go_simp; first | done | with_reducible rfl) (.inr hs6) ?_
                simp only [List.setIfInBounds_toArray, List.set_cons_zero, List.set_cons_succ]
                have fi2 := fun j => k6.r1.frozen j
                have lg2 := k6.r1.lt
                refine Disk.z_skip 17 (w' := w6.setCell ⟨g1, a + 4 + j, none⟩ (.int .i64 y)) rfl rfl (by kernel_rfl) (by rfl) (by go_simp; first | done | with_reducible rfl) (.inl rfl) ?_
                refine Disk.z_done (by kernel_rfl) ?_ _
                have K7 : KW h (w6.setCell ⟨g1, a + 4 + j, none⟩ (.int .i64 y)) K g1 g2 g3 gt d1 d2 d3 qv' RL t' := by
                  rw [FD.out]
                  exact ⟨row_congr (k6.row.setOther (a := ⟨g1, a + 4 + j, none⟩) (by show K ≠ g1; have := k6.n1; omega) _) (fun i hi => match i, hi with | 0, _ => rfl | 1, _ => rfl | 2, _ => rfl | 3, _ => rfl | 4, _ => rfl | 5, _ => rfl | 6, _ => rfl | 7, _ => rfl | 8, _ => rfl | 9, _ => rfl | 10, _ => rfl | 11, _ => rfl | 12, _ => rfl), k6.r1.set (a + 4 + j) y, k6.r2.setOther (fun e => k6.d12 e.symm) _, k6.rt.setOther (fun e => k6.d1t e.symm) _, (Grew.set w6 g1 (a + 4 + j) _).own k6.rq (fun q hq e => by have := own_low k6.rq hq; have := k6.n1; omega), k6.n1, k6.n2, k6.nt, k6.d12, k6.d1t, k6.d2t⟩
                have S7 := S6.grew (Grew.set w6 g1 (a + 4 + j) (.int .i64 y)) (fun q e => by omega)
                have r37 := (r3.block (Gr.block _ r3.lt (by omega))).setOther (b := g1) (i := a + 4 + j) (by exact fun e => d13 e.symm) (.int .i64 y)
                clear fi2 hs hs6 k6 S6 MV G6 Gr kw S2 r3 kc0 cx cx6 FD
                generalize w6.setCell ⟨g1, a + 4 + j, none⟩ (.int .i64 y) = w7 at *
                go_wp2
                exact ⟨⟨j + 1, qv', by go_num, by omega, by rw [hT.out]; exact K7, by rw [hT.out]; exact st1, S7, r37⟩, by simp [intOf]; omega⟩
              · obtain rfl : j = n := by omega
                have pa2 : PA h l (kpS h (i + 1)) (a + 4 + j) := by rw [KP.out]; exact pa
                have kw2 : KW h wr K g1 g2 g3 gt d1 d2 d3 qv RL (kpS h (i + 1)) := by rw [KP.out]; exact kw
                clear pa kw
                go_wp2
                exact ⟨⟨i + 1, a + 4 + j, qv, by go_num, by omega, kw2, pa2, HF.out, S2, r3⟩, by simp [intOf]; omega⟩
          · obtain rfl : i = h.kept.length := by omega
            clear hlt hf
            replace kw : KW h wr K g1 g2 g3 gt d1 d2 d3 qv RL (quS h 0) := kw
            have pc : PC h l (quS h 0) 0 0 := pc_start pa
            clear pa
            go_wp2
            go_loopw [10, 11, 12] (fun iv _ _ wr => ∃ (i : Nat) (qv : Value), iv = .int .i64 i ∧ i ≤ (quS h i).q.length ∧ KW h wr K g1 g2 g3 gt d1 d2 d3 qv RL (quS h i) ∧ PC h l (quS h i) i 0 ∧ CS w wr (.slice a1 h.words.length c1) (.slice a2 h.roots.length c2) (.int .i64 h.old) (.int .i64 h.eden) (.int .i64 h.surv) (.bool h.flip) (.int .i64 h.hash) (.slice a3 h.kept.length c3) ∧ RI wr g3 h.kept d3) (fun iv _ _ _ => 1000 - (intOf iv).toNat)
            case atStart => exact ⟨0, qv, rfl, Nat.zero_le _, kw, pc, S2, r3⟩
            case round =>
              clear kw pc S2 r3 e7c e0c qv
              obtain ⟨i, qv, rfl, hi, kw, pc, S2, r3⟩ := hrel
              have ql : (quS h i).q.length ≤ 600 := by have := pc.1.qlen; have := pc.1.old1; have := pc.1.to1; have := tb_two h; omega
              obtain ⟨qo, qc, eqv⟩ := own_shape kw.rq
              subst eqv
              have k11 : wr.cell? ⟨K, 11, none⟩ = some (.slice qo (quS h i).q.length qc) := kw.row.cell (i := 11) (by omega)
              by_cases hlt : i < (quS h i).q.length
              · have iq := IR_of_owns' kw.rq
                obtain ⟨b, o, eo, ci⟩ := IRcell iq i (by rw [ints_length]; exact hlt)
                subst eo
                rw [ints_get _ _ hlt] at ci
                have hli : (i : Int) < (quS h i).q.length := by omega
                have ar := pc.1.ar _ (getD_mem hlt)
                obtain ⟨n, hn⟩ := Int.eq_ofNat_of_zero_le ar.1.1
                have nxe : nx (quS h i).W ((quS h i).q.getD i 0) = (quS h i).q.getD i 0 + 4 + n := by unfold nx; rw [hn]; rfl
                have QU : Hid (quS h (i + 1) = qdS h (quS h i) ((quS h i).q.getD i 0 + 4) n) := (by show (if i < (quS h i).q.length then qdS h (quS h i) ((quS h i).q.getD i 0 + 4) (gw (quS h i).W ((quS h i).q.getD i 0)).toNat else quS h i) = _; rw [if_pos hlt, hn]; rfl : quS h (i + 1) = qdS h (quS h i) ((quS h i).q.getD i 0 + 4) n)
                have pc4 := pc_in pc
                have nb : n ≤ 60 := by omega
                have d32 : (quS h i).q.getD i 0 + 4 + n ≤ 3200 := by have := ar.2; have := pc.1.old1; have := pc.1.to1; have := tb_two h; omega
                have hqd0 : Hid ((quS h i).q.getD i 0 = (quS h i).q.getD i 0) := (rfl : _ = _)
                have hsz0 : Hid (gw (quS h i).W ((quS h i).q.getD i 0) = n) := hn
                clear ar hn nxe pc iq
                generalize hdd : (quS h i).q.getD i 0 = d at *
                clear hqd0
                replace hdd : Hid ((quS h i).q.getD i 0 = d) := hdd
                go_wp2
                go_loopw [12] (fun fv wr => ∃ (j : Nat) (qv : Value), fv = .int .i64 ((d + 4 + j : Nat) : Int) ∧ j ≤ n ∧ KW h wr K g1 g2 g3 gt d1 d2 d3 qv RL (qdS h (quS h i) (d + 4) j) ∧ PC h l (qdS h (quS h i) (d + 4) j) i (d + 4 + j) ∧ i < (qdS h (quS h i) (d + 4) j).q.length ∧ (qdS h (quS h i) (d + 4) j).q.getD i 0 = d ∧ gw (qdS h (quS h i) (d + 4) j).W d = n ∧ CS w wr (.slice a1 h.words.length c1) (.slice a2 h.roots.length c2) (.int .i64 h.old) (.int .i64 h.eden) (.int .i64 h.surv) (.bool h.flip) (.int .i64 h.hash) (.slice a3 h.kept.length c3) ∧ RI wr g3 h.kept d3) (fun fv _ => d + 4 + n - (intOf fv).toNat)
                case atStart => exact ⟨0, _, by go_num, Nat.zero_le _, kw, pc4, hlt, hdd.out, hsz0.out, S2, r3⟩
                case round =>
                  clear kw pc4 S2 r3 k11 ci
                  obtain ⟨j, qv, rfl, hj, kw, pc, hil, hqd, hsz, S2, r3⟩ := hrel
                  have kc0 : wr.cell? ⟨K, 0, none⟩ = some (.slice (some ⟨g1, 0, none⟩) 3200 d1) := kw.row.cell (i := 0) (by omega)
                  have cd := kw.r1.cell (i := d) (by rw [pc.1.len]; omega)
                  replace cd : wr.cell? ⟨g1, d, none⟩ = some (.int .i64 (gw (qdS h (quS h i) (d + 4) j).W d)) := cd
                  rw [hsz] at cd
                  have d3i : (d : Int) < 3200 := by omega
                  have d3n : d < 3200 := by omega
                  by_cases hjn : j < n
                  · have nxd : nx (qdS h (quS h i) (d + 4) j).W d = d + 4 + n := by unfold nx; rw [hsz]; rfl
                    have qk := qd_keep R pc.1 (i := i) (f := d + 4 + j) hil (by rw [hqd]; omega) (by rw [hqd, nxd]; omega) pc.2
                    have ff := pc.2 i (Nat.le_refl _) hil (d + 4 + j) (by rw [hqd]; omega) (fun _ => Nat.le_refl _) (by rw [hqd, nxd]; omega)
                    have cx := kw.r1.cell (i := d + 4 + j) (by rw [pc.1.len]; omega)
                    replace cx : wr.cell? ⟨g1, d + 4 + j, none⟩ = some (.int .i64 (gw (qdS h (quS h i) (d + 4) j).W (d + 4 + j))) := cx
                    have PCn : PC h l (qdS h (quS h i) (d + 4) (j + 1)) i (d + 4 + (j + 1)) := ⟨qk.1, qk.2.1⟩
                    have hiln : i < (qdS h (quS h i) (d + 4) (j + 1)).q.length := Nat.lt_of_lt_of_le hil qk.2.2.1
                    have hqdn : (qdS h (quS h i) (d + 4) (j + 1)).q.getD i 0 = d := qk.2.2.2.1.trans hqd
                    have hszn : gw (qdS h (quS h i) (d + 4) (j + 1)).W d = n := by
                      have e1 : nx (qdS h (quS h i) (d + 4) (j + 1)).W d = d + 4 + n := by
                        have q := qk.2.2.2.2
                        rw [hqd, nxd] at q
                        exact q
                      have e2 : nx (qdS h (quS h i) (d + 4) (j + 1)).W d = d + 4 + (gw (qdS h (quS h i) (d + 4) (j + 1)).W d).toNat := rfl
                      have md := getD_mem hiln
                      rw [hqdn] at md
                      have e3 := (PCn.1.ar d md).1.1
                      omega
                    have QD : Hid ((qdS h (quS h i) (d + 4) (j + 1)) = if (!decide (gw (qdS h (quS h i) (d + 4) j).W (d + 4 + j) % 2 = 0) && frB h (gw (qdS h (quS h i) (d + 4) j).W (d + 4 + j) / 2)) = true then fd1 (tb h + 300) (qdS h (quS h i) (d + 4) j) (d + 4 + j) else (qdS h (quS h i) (d + 4) j)) := (rfl : _ = _)
                    have f32 : d + 4 + j < 3200 := by omega
                    have f32i : (d : Int) + 4 + j < 3200 := by omega
                    have f0i : (0 : Int) ≤ (d : Int) + 4 + j := by omega
                    have mk := mv_keep R pc.1 ff
                    have mdt := getD_mem hil
                    rw [hqd] at mdt
                    have MV0 := fun W (q : KW h W K g1 g2 g3 gt d1 d2 d3 qv RL (qdS h (quS h i) (d + 4) j)) => move_any h l R K g1 g2 g3 gt d1 d2 d3 qv RL _ _ W q pc.1 ff
                    have cx2 : gw (mv (tb h + 300) (qdS h (quS h i) (d + 4) j) (gw (qdS h (quS h i) (d + 4) j).W (d + 4 + j))).1.W (d + 4 + j) = gw (qdS h (quS h i) (d + 4) j).W (d + 4 + j) := mk.1.in pc.1 mdt (by omega) (by rw [nxd]; omega)
                    have len1 := mk.1.si.len
                    have bx := small_fit ff
                    have TM := tmod_two (gw (qdS h (quS h i) (d + 4) j).W (d + 4 + j))
                    have k0 := fit_kind ff
                    unfold fd1 at QD
                    clear qk ff mk pc hqd hil hsz nxd mdt
                    generalize hT : (qdS h (quS h i) (d + 4) (j + 1)) = t' at *
                    replace hT : Hid ((qdS h (quS h i) (d + 4) (j + 1)) = t') := hT
                    generalize (qdS h (quS h i) (d + 4) j) = t at *
                    generalize (mv (tb h + 300) t (gw t.W (d + 4 + j))).2 = y at *
                    generalize (mv (tb h + 300) t (gw t.W (d + 4 + j))).1 = t1 at *
                    generalize gw t.W (d + 4 + j) = x at *
                    by_cases hev : x % 2 = 0
                    · have FD : Hid (t' = t) := (by rw [QD.out, decide_eq_true hev]; rfl : t' = t)
                      have TN : (x.tmod 2 != 0) = false := by show (!(x.tmod 2 == 0)) = false; rw [TM, decide_eq_true hev]; rfl
                      clear TM QD MV0 cx2 len1 k0
                      go_wp2_with fail
                      refine Disk.z_plain 99 (fun W' => W'.cell? ⟨K, 0, none⟩ = some (.slice (some ⟨g1, 0, none⟩) 3200 d1) ∧ W'.cell? ⟨g1, d + 4 + j, none⟩ = some (.int .i64 x) ∧ W'.cell? ⟨w.heap.size, 0, none⟩ = some (.slice a1 h.words.length c1) ∧ W'.cell? ⟨w.heap.size, 1, none⟩ = some (.slice a2 h.roots.length c2) ∧ W'.cell? ⟨w.heap.size, 2, none⟩ = some (.int .i64 h.old) ∧ W'.cell? ⟨w.heap.size, 3, none⟩ = some (.int .i64 h.eden) ∧ W'.cell? ⟨w.heap.size, 4, none⟩ = some (.int .i64 h.surv) ∧ W'.cell? ⟨w.heap.size, 5, none⟩ = some (.bool h.flip) ∧ W'.cell? ⟨w.heap.size, 6, none⟩ = some (.int .i64 h.hash) ∧ W'.cell? ⟨w.heap.size, 7, none⟩ = some (.slice a3 h.kept.length c3)) (by kernel_rfl) ⟨kc0, cx, S2.c0, S2.c1, S2.c2, S2.c3, S2.c4, S2.c5, S2.c6, S2.c7⟩ fun hs => ?_
                      refine Disk.z_take 0 134 (v := .pointer (some ⟨K, 0, none⟩)) rfl rfl (by kernel_rfl) (by kernel_rfl) (by kernel_rfl) (by kernel_rfl) (by rfl) hs (fun W' hSw => (by
                        obtain ⟨s0, s1, s2, s3, s4, s5, s6, s7, s8, s9⟩ := hSw
                        go_simp; first | done | with_reducible rfl)) ?_
                      simp only [List.setIfInBounds_toArray, List.set_cons_zero, List.set_cons_succ]
                      refine Disk.z_take 1 135 (v := .pointer (some ⟨K, 0, none⟩)) rfl rfl (by kernel_rfl) (by kernel_rfl) (by kernel_rfl) (by kernel_rfl) (by rfl) hs (fun W' hSw => (by
                        obtain ⟨s0, s1, s2, s3, s4, s5, s6, s7, s8, s9⟩ := hSw
                        go_simp; first | done | with_reducible rfl)) ?_
                      simp only [List.setIfInBounds_toArray, List.set_cons_zero, List.set_cons_succ]
                      refine Disk.z_take 2 136 (v := .pointer (some ⟨K, 0, none⟩)) rfl rfl (by kernel_rfl) (by kernel_rfl) (by kernel_rfl) (by kernel_rfl) (by rfl) hs (fun W' hSw => (by
                        obtain ⟨s0, s1, s2, s3, s4, s5, s6, s7, s8, s9⟩ := hSw
                        go_simp; first | done | with_reducible rfl)) ?_
                      simp only [List.setIfInBounds_toArray, List.set_cons_zero, List.set_cons_succ]
                      refine Disk.z_take 3 137 (v := .pointer (some ⟨K, 0, none⟩)) rfl rfl (by kernel_rfl) (by kernel_rfl) (by kernel_rfl) (by kernel_rfl) (by rfl) hs (fun W' hSw => (by
                        obtain ⟨s0, s1, s2, s3, s4, s5, s6, s7, s8, s9⟩ := hSw
                        go_simp; first | done | with_reducible rfl)) ?_
                      simp only [List.setIfInBounds_toArray, List.set_cons_zero, List.set_cons_succ]
                      refine Disk.z_take 4 138 (v := .slice (some ⟨g1, 0, none⟩) 3200 d1) rfl rfl (by kernel_rfl) (by kernel_rfl) (by kernel_rfl) (by kernel_rfl) (by rfl) hs (fun W' hSw => (by
                        obtain ⟨s0, s1, s2, s3, s4, s5, s6, s7, s8, s9⟩ := hSw
                        go_simp; first | done | with_reducible rfl)) ?_
                      simp only [List.setIfInBounds_toArray, List.set_cons_zero, List.set_cons_succ]
                      refine Disk.z_take 5 139 (v := .int .i64 ((d : Int) + 4 + j)) rfl rfl (by kernel_rfl) (by kernel_rfl) (by kernel_rfl) (by kernel_rfl) (by rfl) hs (fun W' hSw => (by
                        obtain ⟨s0, s1, s2, s3, s4, s5, s6, s7, s8, s9⟩ := hSw
                        go_simp; first | done | with_reducible rfl)) ?_
                      simp only [List.setIfInBounds_toArray, List.set_cons_zero, List.set_cons_succ]
                      refine Disk.z_take 6 140 (v := .pointer (some ⟨g1, d + 4 + j, none⟩)) rfl rfl (by kernel_rfl) (by kernel_rfl) (by kernel_rfl) (by kernel_rfl) (by rfl) hs (fun W' hSw => (by
                        obtain ⟨s0, s1, s2, s3, s4, s5, s6, s7, s8, s9⟩ := hSw
                        go_simp; first | done | with_reducible rfl)) ?_
                      simp only [List.setIfInBounds_toArray, List.set_cons_zero, List.set_cons_succ]
                      refine Disk.z_take 7 141 (v := .int .i64 x) rfl rfl (by kernel_rfl) (by kernel_rfl) (by kernel_rfl) (by kernel_rfl) (by rfl) hs (fun W' hSw => (by
                        obtain ⟨s0, s1, s2, s3, s4, s5, s6, s7, s8, s9⟩ := hSw
                        go_simp; first | done | with_reducible rfl)) ?_
                      simp only [List.setIfInBounds_toArray, List.set_cons_zero, List.set_cons_succ]
                      refine Disk.z_take 8 142 (v := .int .i64 (x.tmod 2)) rfl rfl (by kernel_rfl) (by kernel_rfl) (by kernel_rfl) (by kernel_rfl) (by rfl) hs (fun W' hSw => (by
                        obtain ⟨s0, s1, s2, s3, s4, s5, s6, s7, s8, s9⟩ := hSw
                        go_simp; first | done | with_reducible rfl)) ?_
                      simp only [List.setIfInBounds_toArray, List.set_cons_zero, List.set_cons_succ]
                      refine Disk.z_take 9 143 (v := .bool false) rfl rfl (by kernel_rfl) (by kernel_rfl) (by kernel_rfl) (by kernel_rfl) (by rfl) hs (fun W' hSw => (by
                        obtain ⟨s0, s1, s2, s3, s4, s5, s6, s7, s8, s9⟩ := hSw
                        go_simp; first | done | with_reducible rfl)) ?_
                      simp only [List.setIfInBounds_toArray, List.set_cons_zero, List.set_cons_succ]
                      refine Disk.z_take 10 144 (v := .bool false) rfl rfl (by kernel_rfl) (by kernel_rfl) (by kernel_rfl) (by kernel_rfl) (by rfl) hs (fun W' hSw => (by
                        obtain ⟨s0, s1, s2, s3, s4, s5, s6, s7, s8, s9⟩ := hSw
                        go_simp; first | done | with_reducible rfl)) ?_
                      simp only [List.setIfInBounds_toArray, List.set_cons_zero, List.set_cons_succ]
                      refine Disk.z_pass 11 145 rfl rfl (by kernel_rfl) (by kernel_rfl) (by kernel_rfl) (by kernel_rfl) (by rfl) hs ?_
                      simp only [List.setIfInBounds_toArray, List.set_cons_zero, List.set_cons_succ]
                      refine Disk.z_pass 12 146 rfl rfl (by kernel_rfl) (by kernel_rfl) (by kernel_rfl) (by kernel_rfl) (by rfl) hs ?_
                      simp only [List.setIfInBounds_toArray, List.set_cons_zero, List.set_cons_succ]
                      refine Disk.z_pass 13 147 rfl rfl (by kernel_rfl) (by kernel_rfl) (by kernel_rfl) (by kernel_rfl) (by rfl) hs ?_
                      simp only [List.setIfInBounds_toArray, List.set_cons_zero, List.set_cons_succ]
                      refine Disk.z_pass 14 148 rfl rfl (by kernel_rfl) (by kernel_rfl) (by kernel_rfl) (by kernel_rfl) (by rfl) hs ?_
                      simp only [List.setIfInBounds_toArray, List.set_cons_zero, List.set_cons_succ]
                      refine Disk.z_pass 15 149 rfl rfl (by kernel_rfl) (by kernel_rfl) (by kernel_rfl) (by kernel_rfl) (by rfl) hs ?_
                      simp only [List.setIfInBounds_toArray, List.set_cons_zero, List.set_cons_succ]
                      refine Disk.z_pass 16 150 rfl rfl (by kernel_rfl) (by kernel_rfl) (by kernel_rfl) (by kernel_rfl) (by rfl) hs ?_
                      simp only [List.setIfInBounds_toArray, List.set_cons_zero, List.set_cons_succ]
                      refine Disk.z_pass 17 151 rfl rfl (by kernel_rfl) (by kernel_rfl) (by kernel_rfl) (by kernel_rfl) (by rfl) hs ?_
                      simp only [List.setIfInBounds_toArray, List.set_cons_zero, List.set_cons_succ]
                      refine Disk.z_pass 18 152 rfl rfl (by kernel_rfl) (by kernel_rfl) (by kernel_rfl) (by kernel_rfl) (by rfl) hs ?_
                      simp only [List.setIfInBounds_toArray, List.set_cons_zero, List.set_cons_succ]
                      refine Disk.z_pass 19 153 rfl rfl (by kernel_rfl) (by kernel_rfl) (by kernel_rfl) (by kernel_rfl) (by rfl) hs ?_
                      simp only [List.setIfInBounds_toArray, List.set_cons_zero, List.set_cons_succ]
                      refine Disk.z_pass 20 154 rfl rfl (by kernel_rfl) (by kernel_rfl) (by kernel_rfl) (by kernel_rfl) (by rfl) hs ?_
                      simp only [List.setIfInBounds_toArray, List.set_cons_zero, List.set_cons_succ]
                      refine Disk.z_pass 21 155 rfl rfl (by kernel_rfl) (by kernel_rfl) (by kernel_rfl) (by kernel_rfl) (by rfl) hs ?_
                      simp only [List.setIfInBounds_toArray, List.set_cons_zero, List.set_cons_succ]
                      refine Disk.z_take 22 156 (v := .bool false) rfl rfl (by kernel_rfl) (by kernel_rfl) (by kernel_rfl) (by kernel_rfl) (by rfl) hs (fun W' hSw => (by
                        obtain ⟨s0, s1, s2, s3, s4, s5, s6, s7, s8, s9⟩ := hSw
                        go_simp; first | done | with_reducible rfl)) ?_
                      simp only [List.setIfInBounds_toArray, List.set_cons_zero, List.set_cons_succ]
                      refine Disk.z_done (by kernel_rfl) ?_ _
                      have bd : Below wr.heap.size wr wr.drew := (Below.refl _ _).drew
                      have kw5 := kw.low bd
                      have S5 := S2.later bd
                      have r35 := r3.later bd
                      clear kw S2 r3 kc0 cx cd hs bd
                      generalize wr.drew = w5 at *
                      go_wp2
                      exact ⟨⟨j + 1, qv, by go_num, by omega, by rw [hT.out, FD.out]; exact kw5, by rw [hT.out]; exact PCn, by rw [hT.out]; exact hiln, by rw [hT.out]; exact hqdn, by rw [hT.out]; exact hszn, S5, r35⟩, by simp [intOf]; omega⟩
                    · have TN : (x.tmod 2 != 0) = true := by show (!(x.tmod 2 == 0)) = true; rw [TM, decide_eq_false hev]; rfl
                      have hp : 1 ≤ x := by
                        rw [kind_odd hev] at k0
                        split at k0
                        · rename_i q
                          have := of_decide_eq_true q
                          omega
                        · exact absurd rfl k0
                      have td : x.tdiv 2 = x / 2 := Int.tdiv_eq_ediv_of_nonneg (by omega)
                      have LF : ∀ W, Below w.heap.size w W → Calls Tryz.prog 127 #[.agg #[.slice a1 h.words.length c1, .slice a2 h.roots.length c2, .int .i64 h.old, .int .i64 h.eden, .int .i64 h.surv, .bool h.flip, .int .i64 h.hash, .slice a3 h.kept.length c3], .int .i64 (x.tdiv 2)] W fun e w' => e = .returned (.bool (frB h (x / 2))) ∧ Below W.heap.size W w' := fun W hb => by rw [td]; exact l9From_any _ h (x / 2) W (hv.later hb)
                      obtain ⟨x1, x2⟩ := bx
                      have wd : IntKind.i64.wrap (x.tdiv 2) = x.tdiv 2 := by rw [td, IntKind.wrap_i64]; omega
                      replace td : Hid (x.tdiv 2 = x / 2) := td
                      cases hfr : frB h (x / 2)
                      · have FD : Hid (t' = t) := (by rw [QD.out, hfr, Bool.and_false]; rfl : t' = t)
                        rw [hfr] at LF
                        clear TM QD MV0 cx2 len1 k0 hev
                        go_wp2_with fail
                        refine Disk.z_plain 99 (fun W' => W'.cell? ⟨K, 0, none⟩ = some (.slice (some ⟨g1, 0, none⟩) 3200 d1) ∧ W'.cell? ⟨g1, d + 4 + j, none⟩ = some (.int .i64 x) ∧ W'.cell? ⟨w.heap.size, 0, none⟩ = some (.slice a1 h.words.length c1) ∧ W'.cell? ⟨w.heap.size, 1, none⟩ = some (.slice a2 h.roots.length c2) ∧ W'.cell? ⟨w.heap.size, 2, none⟩ = some (.int .i64 h.old) ∧ W'.cell? ⟨w.heap.size, 3, none⟩ = some (.int .i64 h.eden) ∧ W'.cell? ⟨w.heap.size, 4, none⟩ = some (.int .i64 h.surv) ∧ W'.cell? ⟨w.heap.size, 5, none⟩ = some (.bool h.flip) ∧ W'.cell? ⟨w.heap.size, 6, none⟩ = some (.int .i64 h.hash) ∧ W'.cell? ⟨w.heap.size, 7, none⟩ = some (.slice a3 h.kept.length c3)) (by kernel_rfl) ⟨kc0, cx, S2.c0, S2.c1, S2.c2, S2.c3, S2.c4, S2.c5, S2.c6, S2.c7⟩ fun hs => ?_
                        refine Disk.z_take 0 134 (v := .pointer (some ⟨K, 0, none⟩)) rfl rfl (by kernel_rfl) (by kernel_rfl) (by kernel_rfl) (by kernel_rfl) (by rfl) hs (fun W' hSw => (by
                          obtain ⟨s0, s1, s2, s3, s4, s5, s6, s7, s8, s9⟩ := hSw
                          go_simp; first | done | with_reducible rfl)) ?_
                        simp only [List.setIfInBounds_toArray, List.set_cons_zero, List.set_cons_succ]
                        refine Disk.z_take 1 135 (v := .pointer (some ⟨K, 0, none⟩)) rfl rfl (by kernel_rfl) (by kernel_rfl) (by kernel_rfl) (by kernel_rfl) (by rfl) hs (fun W' hSw => (by
                          obtain ⟨s0, s1, s2, s3, s4, s5, s6, s7, s8, s9⟩ := hSw
                          go_simp; first | done | with_reducible rfl)) ?_
                        simp only [List.setIfInBounds_toArray, List.set_cons_zero, List.set_cons_succ]
                        refine Disk.z_take 2 136 (v := .pointer (some ⟨K, 0, none⟩)) rfl rfl (by kernel_rfl) (by kernel_rfl) (by kernel_rfl) (by kernel_rfl) (by rfl) hs (fun W' hSw => (by
                          obtain ⟨s0, s1, s2, s3, s4, s5, s6, s7, s8, s9⟩ := hSw
                          go_simp; first | done | with_reducible rfl)) ?_
                        simp only [List.setIfInBounds_toArray, List.set_cons_zero, List.set_cons_succ]
                        refine Disk.z_take 3 137 (v := .pointer (some ⟨K, 0, none⟩)) rfl rfl (by kernel_rfl) (by kernel_rfl) (by kernel_rfl) (by kernel_rfl) (by rfl) hs (fun W' hSw => (by
                          obtain ⟨s0, s1, s2, s3, s4, s5, s6, s7, s8, s9⟩ := hSw
                          go_simp; first | done | with_reducible rfl)) ?_
                        simp only [List.setIfInBounds_toArray, List.set_cons_zero, List.set_cons_succ]
                        refine Disk.z_take 4 138 (v := .slice (some ⟨g1, 0, none⟩) 3200 d1) rfl rfl (by kernel_rfl) (by kernel_rfl) (by kernel_rfl) (by kernel_rfl) (by rfl) hs (fun W' hSw => (by
                          obtain ⟨s0, s1, s2, s3, s4, s5, s6, s7, s8, s9⟩ := hSw
                          go_simp; first | done | with_reducible rfl)) ?_
                        simp only [List.setIfInBounds_toArray, List.set_cons_zero, List.set_cons_succ]
                        refine Disk.z_take 5 139 (v := .int .i64 ((d : Int) + 4 + j)) rfl rfl (by kernel_rfl) (by kernel_rfl) (by kernel_rfl) (by kernel_rfl) (by rfl) hs (fun W' hSw => (by
                          obtain ⟨s0, s1, s2, s3, s4, s5, s6, s7, s8, s9⟩ := hSw
                          go_simp; first | done | with_reducible rfl)) ?_
                        simp only [List.setIfInBounds_toArray, List.set_cons_zero, List.set_cons_succ]
                        refine Disk.z_take 6 140 (v := .pointer (some ⟨g1, d + 4 + j, none⟩)) rfl rfl (by kernel_rfl) (by kernel_rfl) (by kernel_rfl) (by kernel_rfl) (by rfl) hs (fun W' hSw => (by
                          obtain ⟨s0, s1, s2, s3, s4, s5, s6, s7, s8, s9⟩ := hSw
                          go_simp; first | done | with_reducible rfl)) ?_
                        simp only [List.setIfInBounds_toArray, List.set_cons_zero, List.set_cons_succ]
                        refine Disk.z_take 7 141 (v := .int .i64 x) rfl rfl (by kernel_rfl) (by kernel_rfl) (by kernel_rfl) (by kernel_rfl) (by rfl) hs (fun W' hSw => (by
                          obtain ⟨s0, s1, s2, s3, s4, s5, s6, s7, s8, s9⟩ := hSw
                          go_simp; first | done | with_reducible rfl)) ?_
                        simp only [List.setIfInBounds_toArray, List.set_cons_zero, List.set_cons_succ]
                        refine Disk.z_take 8 142 (v := .int .i64 (x.tmod 2)) rfl rfl (by kernel_rfl) (by kernel_rfl) (by kernel_rfl) (by kernel_rfl) (by rfl) hs (fun W' hSw => (by
                          obtain ⟨s0, s1, s2, s3, s4, s5, s6, s7, s8, s9⟩ := hSw
                          go_simp; first | done | with_reducible rfl)) ?_
                        simp only [List.setIfInBounds_toArray, List.set_cons_zero, List.set_cons_succ]
                        refine Disk.z_take 9 143 (v := .bool true) rfl rfl (by kernel_rfl) (by kernel_rfl) (by kernel_rfl) (by kernel_rfl) (by rfl) hs (fun W' hSw => (by
                          obtain ⟨s0, s1, s2, s3, s4, s5, s6, s7, s8, s9⟩ := hSw
                          go_simp; first | done | with_reducible rfl)) ?_
                        simp only [List.setIfInBounds_toArray, List.set_cons_zero, List.set_cons_succ]
                        refine Disk.z_take 10 144 (v := .bool true) rfl rfl (by kernel_rfl) (by kernel_rfl) (by kernel_rfl) (by kernel_rfl) (by rfl) hs (fun W' hSw => (by
                          obtain ⟨s0, s1, s2, s3, s4, s5, s6, s7, s8, s9⟩ := hSw
                          go_simp; first | done | with_reducible rfl)) ?_
                        simp only [List.setIfInBounds_toArray, List.set_cons_zero, List.set_cons_succ]
                        refine Disk.z_take 11 145 (v := .agg #[.slice a1 h.words.length c1, .slice a2 h.roots.length c2, .int .i64 h.old, .int .i64 h.eden, .int .i64 h.surv, .bool h.flip, .int .i64 h.hash, .slice a3 h.kept.length c3]) rfl rfl (by kernel_rfl) (by kernel_rfl) (by kernel_rfl) (by kernel_rfl) (by rfl) hs (fun W' hSw => (by
                          obtain ⟨s0, s1, s2, s3, s4, s5, s6, s7, s8, s9⟩ := hSw
                          go_simp; first | done | with_reducible rfl)) ?_
                        simp only [List.setIfInBounds_toArray, List.set_cons_zero, List.set_cons_succ]
                        refine Disk.z_take 12 146 (v := .pointer (some ⟨K, 0, none⟩)) rfl rfl (by kernel_rfl) (by kernel_rfl) (by kernel_rfl) (by kernel_rfl) (by rfl) hs (fun W' hSw => (by
                          obtain ⟨s0, s1, s2, s3, s4, s5, s6, s7, s8, s9⟩ := hSw
                          go_simp; first | done | with_reducible rfl)) ?_
                        simp only [List.setIfInBounds_toArray, List.set_cons_zero, List.set_cons_succ]
                        refine Disk.z_take 13 147 (v := .pointer (some ⟨K, 0, none⟩)) rfl rfl (by kernel_rfl) (by kernel_rfl) (by kernel_rfl) (by kernel_rfl) (by rfl) hs (fun W' hSw => (by
                          obtain ⟨s0, s1, s2, s3, s4, s5, s6, s7, s8, s9⟩ := hSw
                          go_simp; first | done | with_reducible rfl)) ?_
                        simp only [List.setIfInBounds_toArray, List.set_cons_zero, List.set_cons_succ]
                        refine Disk.z_take 14 148 (v := .pointer (some ⟨K, 0, none⟩)) rfl rfl (by kernel_rfl) (by kernel_rfl) (by kernel_rfl) (by kernel_rfl) (by rfl) hs (fun W' hSw => (by
                          obtain ⟨s0, s1, s2, s3, s4, s5, s6, s7, s8, s9⟩ := hSw
                          go_simp; first | done | with_reducible rfl)) ?_
                        simp only [List.setIfInBounds_toArray, List.set_cons_zero, List.set_cons_succ]
                        refine Disk.z_take 15 149 (v := .pointer (some ⟨K, 0, none⟩)) rfl rfl (by kernel_rfl) (by kernel_rfl) (by kernel_rfl) (by kernel_rfl) (by rfl) hs (fun W' hSw => (by
                          obtain ⟨s0, s1, s2, s3, s4, s5, s6, s7, s8, s9⟩ := hSw
                          go_simp; first | done | with_reducible rfl)) ?_
                        simp only [List.setIfInBounds_toArray, List.set_cons_zero, List.set_cons_succ]
                        refine Disk.z_take 16 150 (v := .slice (some ⟨g1, 0, none⟩) 3200 d1) rfl rfl (by kernel_rfl) (by kernel_rfl) (by kernel_rfl) (by kernel_rfl) (by rfl) hs (fun W' hSw => (by
                          obtain ⟨s0, s1, s2, s3, s4, s5, s6, s7, s8, s9⟩ := hSw
                          go_simp; first | done | with_reducible rfl)) ?_
                        simp only [List.setIfInBounds_toArray, List.set_cons_zero, List.set_cons_succ]
                        refine Disk.z_take 17 151 (v := .int .i64 ((d : Int) + 4 + j)) rfl rfl (by kernel_rfl) (by kernel_rfl) (by kernel_rfl) (by kernel_rfl) (by rfl) hs (fun W' hSw => (by
                          obtain ⟨s0, s1, s2, s3, s4, s5, s6, s7, s8, s9⟩ := hSw
                          go_simp; first | done | with_reducible rfl)) ?_
                        simp only [List.setIfInBounds_toArray, List.set_cons_zero, List.set_cons_succ]
                        refine Disk.z_take 18 152 (v := .pointer (some ⟨g1, d + 4 + j, none⟩)) rfl rfl (by kernel_rfl) (by kernel_rfl) (by kernel_rfl) (by kernel_rfl) (by rfl) hs (fun W' hSw => (by
                          obtain ⟨s0, s1, s2, s3, s4, s5, s6, s7, s8, s9⟩ := hSw
                          go_simp; first | done | with_reducible rfl)) ?_
                        simp only [List.setIfInBounds_toArray, List.set_cons_zero, List.set_cons_succ]
                        refine Disk.z_take 19 153 (v := .int .i64 x) rfl rfl (by kernel_rfl) (by kernel_rfl) (by kernel_rfl) (by kernel_rfl) (by rfl) hs (fun W' hSw => (by
                          obtain ⟨s0, s1, s2, s3, s4, s5, s6, s7, s8, s9⟩ := hSw
                          go_simp; first | done | with_reducible rfl)) ?_
                        simp only [List.setIfInBounds_toArray, List.set_cons_zero, List.set_cons_succ]
                        refine Disk.z_take 20 154 (v := .int .i64 (x.tdiv 2)) rfl rfl (by kernel_rfl) (by kernel_rfl) (by kernel_rfl) (by kernel_rfl) (by rfl) hs (fun W' hSw => (by
                          obtain ⟨s0, s1, s2, s3, s4, s5, s6, s7, s8, s9⟩ := hSw
                          go_simp; first | done | with_reducible rfl)) ?_
                        simp only [List.setIfInBounds_toArray, List.set_cons_zero, List.set_cons_succ]
                        refine Disk.z_call 21 155 rfl rfl (by kernel_rfl) (by rfl) (f := 127) (args := #[.agg #[.slice a1 h.words.length c1, .slice a2 h.roots.length c2, .int .i64 h.old, .int .i64 h.eden, .int .i64 h.surv, .bool h.flip, .int .i64 h.hash, .slice a3 h.kept.length c3], .int .i64 (x.tdiv 2)]) (w0 := wr.drew) (by go_simp) ?_
                        refine (LF wr.drew (S2.bel.drew)).mono ?_
                        rintro e w5 ⟨rfl, hb5⟩
                        have b5 : Below wr.heap.size wr w5 := bel_after (Below.refl _ _).drew hb5
                        have S5 := S2.later b5
                        have kw5 := kw.low b5
                        have r35 := r3.later b5
                        have cx5 := cell_later b5 cx
                        have kc5 := cell_later b5 kc0
                        have hs5 : w5.cell? ⟨K, 0, none⟩ = some (.slice (some ⟨g1, 0, none⟩) 3200 d1) ∧ w5.cell? ⟨g1, d + 4 + j, none⟩ = some (.int .i64 x) ∧ w5.cell? ⟨w.heap.size, 0, none⟩ = some (.slice a1 h.words.length c1) ∧ w5.cell? ⟨w.heap.size, 1, none⟩ = some (.slice a2 h.roots.length c2) ∧ w5.cell? ⟨w.heap.size, 2, none⟩ = some (.int .i64 h.old) ∧ w5.cell? ⟨w.heap.size, 3, none⟩ = some (.int .i64 h.eden) ∧ w5.cell? ⟨w.heap.size, 4, none⟩ = some (.int .i64 h.surv) ∧ w5.cell? ⟨w.heap.size, 5, none⟩ = some (.bool h.flip) ∧ w5.cell? ⟨w.heap.size, 6, none⟩ = some (.int .i64 h.hash) ∧ w5.cell? ⟨w.heap.size, 7, none⟩ = some (.slice a3 h.kept.length c3) := ⟨kc5, cx5, S5.c0, S5.c1, S5.c2, S5.c3, S5.c4, S5.c5, S5.c6, S5.c7⟩
                        refine ⟨_, rfl, .inr hs5, ?_⟩
                        simp only [List.setIfInBounds_toArray, List.set_cons_zero, List.set_cons_succ]
                        refine Disk.z_take 22 156 (v := .bool false) rfl rfl (by kernel_rfl) (by kernel_rfl) (by kernel_rfl) (by kernel_rfl) (by rfl) hs5 (fun W' hSw => (by
                          obtain ⟨s0, s1, s2, s3, s4, s5, s6, s7, s8, s9⟩ := hSw
                          go_simp; first | done | with_reducible rfl)) ?_
                        simp only [List.setIfInBounds_toArray, List.set_cons_zero, List.set_cons_succ]
                        refine Disk.z_done (by kernel_rfl) ?_ _
                        clear kw S2 r3 kc0 cx cd hs hs5 cx5 kc5 LF b5
                        go_wp2
                        exact ⟨⟨j + 1, qv, by go_num, by omega, by rw [hT.out, FD.out]; exact kw5, by rw [hT.out]; exact PCn, by rw [hT.out]; exact hiln, by rw [hT.out]; exact hqdn, by rw [hT.out]; exact hszn, S5, r35⟩, by simp [intOf]; omega⟩
                      · have FD : Hid (t' = { t1 with W := t1.W.set (d + 4 + j) y }) := (by rw [QD.out, hfr, decide_eq_false hev]; rfl : t' = { t1 with W := t1.W.set (d + 4 + j) y })
                        rw [hfr] at LF
                        clear TM QD k0 hev
                        go_wp2_with fail
                        refine Disk.z_plain 99 (fun W' => W'.cell? ⟨K, 0, none⟩ = some (.slice (some ⟨g1, 0, none⟩) 3200 d1) ∧ W'.cell? ⟨g1, d + 4 + j, none⟩ = some (.int .i64 x) ∧ W'.cell? ⟨w.heap.size, 0, none⟩ = some (.slice a1 h.words.length c1) ∧ W'.cell? ⟨w.heap.size, 1, none⟩ = some (.slice a2 h.roots.length c2) ∧ W'.cell? ⟨w.heap.size, 2, none⟩ = some (.int .i64 h.old) ∧ W'.cell? ⟨w.heap.size, 3, none⟩ = some (.int .i64 h.eden) ∧ W'.cell? ⟨w.heap.size, 4, none⟩ = some (.int .i64 h.surv) ∧ W'.cell? ⟨w.heap.size, 5, none⟩ = some (.bool h.flip) ∧ W'.cell? ⟨w.heap.size, 6, none⟩ = some (.int .i64 h.hash) ∧ W'.cell? ⟨w.heap.size, 7, none⟩ = some (.slice a3 h.kept.length c3)) (by kernel_rfl) ⟨kc0, cx, S2.c0, S2.c1, S2.c2, S2.c3, S2.c4, S2.c5, S2.c6, S2.c7⟩ fun hs => ?_
                        refine Disk.z_take 0 134 (v := .pointer (some ⟨K, 0, none⟩)) rfl rfl (by kernel_rfl) (by kernel_rfl) (by kernel_rfl) (by kernel_rfl) (by rfl) hs (fun W' hSw => (by
                          obtain ⟨s0, s1, s2, s3, s4, s5, s6, s7, s8, s9⟩ := hSw
                          go_simp; first | done | with_reducible rfl)) ?_
                        simp only [List.setIfInBounds_toArray, List.set_cons_zero, List.set_cons_succ]
                        refine Disk.z_take 1 135 (v := .pointer (some ⟨K, 0, none⟩)) rfl rfl (by kernel_rfl) (by kernel_rfl) (by kernel_rfl) (by kernel_rfl) (by rfl) hs (fun W' hSw => (by
                          obtain ⟨s0, s1, s2, s3, s4, s5, s6, s7, s8, s9⟩ := hSw
                          go_simp; first | done | with_reducible rfl)) ?_
                        simp only [List.setIfInBounds_toArray, List.set_cons_zero, List.set_cons_succ]
                        refine Disk.z_take 2 136 (v := .pointer (some ⟨K, 0, none⟩)) rfl rfl (by kernel_rfl) (by kernel_rfl) (by kernel_rfl) (by kernel_rfl) (by rfl) hs (fun W' hSw => (by
                          obtain ⟨s0, s1, s2, s3, s4, s5, s6, s7, s8, s9⟩ := hSw
                          go_simp; first | done | with_reducible rfl)) ?_
                        simp only [List.setIfInBounds_toArray, List.set_cons_zero, List.set_cons_succ]
                        refine Disk.z_take 3 137 (v := .pointer (some ⟨K, 0, none⟩)) rfl rfl (by kernel_rfl) (by kernel_rfl) (by kernel_rfl) (by kernel_rfl) (by rfl) hs (fun W' hSw => (by
                          obtain ⟨s0, s1, s2, s3, s4, s5, s6, s7, s8, s9⟩ := hSw
                          go_simp; first | done | with_reducible rfl)) ?_
                        simp only [List.setIfInBounds_toArray, List.set_cons_zero, List.set_cons_succ]
                        refine Disk.z_take 4 138 (v := .slice (some ⟨g1, 0, none⟩) 3200 d1) rfl rfl (by kernel_rfl) (by kernel_rfl) (by kernel_rfl) (by kernel_rfl) (by rfl) hs (fun W' hSw => (by
                          obtain ⟨s0, s1, s2, s3, s4, s5, s6, s7, s8, s9⟩ := hSw
                          go_simp; first | done | with_reducible rfl)) ?_
                        simp only [List.setIfInBounds_toArray, List.set_cons_zero, List.set_cons_succ]
                        refine Disk.z_take 5 139 (v := .int .i64 ((d : Int) + 4 + j)) rfl rfl (by kernel_rfl) (by kernel_rfl) (by kernel_rfl) (by kernel_rfl) (by rfl) hs (fun W' hSw => (by
                          obtain ⟨s0, s1, s2, s3, s4, s5, s6, s7, s8, s9⟩ := hSw
                          go_simp; first | done | with_reducible rfl)) ?_
                        simp only [List.setIfInBounds_toArray, List.set_cons_zero, List.set_cons_succ]
                        refine Disk.z_take 6 140 (v := .pointer (some ⟨g1, d + 4 + j, none⟩)) rfl rfl (by kernel_rfl) (by kernel_rfl) (by kernel_rfl) (by kernel_rfl) (by rfl) hs (fun W' hSw => (by
                          obtain ⟨s0, s1, s2, s3, s4, s5, s6, s7, s8, s9⟩ := hSw
                          go_simp; first | done | with_reducible rfl)) ?_
                        simp only [List.setIfInBounds_toArray, List.set_cons_zero, List.set_cons_succ]
                        refine Disk.z_take 7 141 (v := .int .i64 x) rfl rfl (by kernel_rfl) (by kernel_rfl) (by kernel_rfl) (by kernel_rfl) (by rfl) hs (fun W' hSw => (by
                          obtain ⟨s0, s1, s2, s3, s4, s5, s6, s7, s8, s9⟩ := hSw
                          go_simp; first | done | with_reducible rfl)) ?_
                        simp only [List.setIfInBounds_toArray, List.set_cons_zero, List.set_cons_succ]
                        refine Disk.z_take 8 142 (v := .int .i64 (x.tmod 2)) rfl rfl (by kernel_rfl) (by kernel_rfl) (by kernel_rfl) (by kernel_rfl) (by rfl) hs (fun W' hSw => (by
                          obtain ⟨s0, s1, s2, s3, s4, s5, s6, s7, s8, s9⟩ := hSw
                          go_simp; first | done | with_reducible rfl)) ?_
                        simp only [List.setIfInBounds_toArray, List.set_cons_zero, List.set_cons_succ]
                        refine Disk.z_take 9 143 (v := .bool true) rfl rfl (by kernel_rfl) (by kernel_rfl) (by kernel_rfl) (by kernel_rfl) (by rfl) hs (fun W' hSw => (by
                          obtain ⟨s0, s1, s2, s3, s4, s5, s6, s7, s8, s9⟩ := hSw
                          go_simp; first | done | with_reducible rfl)) ?_
                        simp only [List.setIfInBounds_toArray, List.set_cons_zero, List.set_cons_succ]
                        refine Disk.z_take 10 144 (v := .bool true) rfl rfl (by kernel_rfl) (by kernel_rfl) (by kernel_rfl) (by kernel_rfl) (by rfl) hs (fun W' hSw => (by
                          obtain ⟨s0, s1, s2, s3, s4, s5, s6, s7, s8, s9⟩ := hSw
                          go_simp; first | done | with_reducible rfl)) ?_
                        simp only [List.setIfInBounds_toArray, List.set_cons_zero, List.set_cons_succ]
                        refine Disk.z_take 11 145 (v := .agg #[.slice a1 h.words.length c1, .slice a2 h.roots.length c2, .int .i64 h.old, .int .i64 h.eden, .int .i64 h.surv, .bool h.flip, .int .i64 h.hash, .slice a3 h.kept.length c3]) rfl rfl (by kernel_rfl) (by kernel_rfl) (by kernel_rfl) (by kernel_rfl) (by rfl) hs (fun W' hSw => (by
                          obtain ⟨s0, s1, s2, s3, s4, s5, s6, s7, s8, s9⟩ := hSw
                          go_simp; first | done | with_reducible rfl)) ?_
                        simp only [List.setIfInBounds_toArray, List.set_cons_zero, List.set_cons_succ]
                        refine Disk.z_take 12 146 (v := .pointer (some ⟨K, 0, none⟩)) rfl rfl (by kernel_rfl) (by kernel_rfl) (by kernel_rfl) (by kernel_rfl) (by rfl) hs (fun W' hSw => (by
                          obtain ⟨s0, s1, s2, s3, s4, s5, s6, s7, s8, s9⟩ := hSw
                          go_simp; first | done | with_reducible rfl)) ?_
                        simp only [List.setIfInBounds_toArray, List.set_cons_zero, List.set_cons_succ]
                        refine Disk.z_take 13 147 (v := .pointer (some ⟨K, 0, none⟩)) rfl rfl (by kernel_rfl) (by kernel_rfl) (by kernel_rfl) (by kernel_rfl) (by rfl) hs (fun W' hSw => (by
                          obtain ⟨s0, s1, s2, s3, s4, s5, s6, s7, s8, s9⟩ := hSw
                          go_simp; first | done | with_reducible rfl)) ?_
                        simp only [List.setIfInBounds_toArray, List.set_cons_zero, List.set_cons_succ]
                        refine Disk.z_take 14 148 (v := .pointer (some ⟨K, 0, none⟩)) rfl rfl (by kernel_rfl) (by kernel_rfl) (by kernel_rfl) (by kernel_rfl) (by rfl) hs (fun W' hSw => (by
                          obtain ⟨s0, s1, s2, s3, s4, s5, s6, s7, s8, s9⟩ := hSw
                          go_simp; first | done | with_reducible rfl)) ?_
                        simp only [List.setIfInBounds_toArray, List.set_cons_zero, List.set_cons_succ]
                        refine Disk.z_take 15 149 (v := .pointer (some ⟨K, 0, none⟩)) rfl rfl (by kernel_rfl) (by kernel_rfl) (by kernel_rfl) (by kernel_rfl) (by rfl) hs (fun W' hSw => (by
                          obtain ⟨s0, s1, s2, s3, s4, s5, s6, s7, s8, s9⟩ := hSw
                          go_simp; first | done | with_reducible rfl)) ?_
                        simp only [List.setIfInBounds_toArray, List.set_cons_zero, List.set_cons_succ]
                        refine Disk.z_take 16 150 (v := .slice (some ⟨g1, 0, none⟩) 3200 d1) rfl rfl (by kernel_rfl) (by kernel_rfl) (by kernel_rfl) (by kernel_rfl) (by rfl) hs (fun W' hSw => (by
                          obtain ⟨s0, s1, s2, s3, s4, s5, s6, s7, s8, s9⟩ := hSw
                          go_simp; first | done | with_reducible rfl)) ?_
                        simp only [List.setIfInBounds_toArray, List.set_cons_zero, List.set_cons_succ]
                        refine Disk.z_take 17 151 (v := .int .i64 ((d : Int) + 4 + j)) rfl rfl (by kernel_rfl) (by kernel_rfl) (by kernel_rfl) (by kernel_rfl) (by rfl) hs (fun W' hSw => (by
                          obtain ⟨s0, s1, s2, s3, s4, s5, s6, s7, s8, s9⟩ := hSw
                          go_simp; first | done | with_reducible rfl)) ?_
                        simp only [List.setIfInBounds_toArray, List.set_cons_zero, List.set_cons_succ]
                        refine Disk.z_take 18 152 (v := .pointer (some ⟨g1, d + 4 + j, none⟩)) rfl rfl (by kernel_rfl) (by kernel_rfl) (by kernel_rfl) (by kernel_rfl) (by rfl) hs (fun W' hSw => (by
                          obtain ⟨s0, s1, s2, s3, s4, s5, s6, s7, s8, s9⟩ := hSw
                          go_simp; first | done | with_reducible rfl)) ?_
                        simp only [List.setIfInBounds_toArray, List.set_cons_zero, List.set_cons_succ]
                        refine Disk.z_take 19 153 (v := .int .i64 x) rfl rfl (by kernel_rfl) (by kernel_rfl) (by kernel_rfl) (by kernel_rfl) (by rfl) hs (fun W' hSw => (by
                          obtain ⟨s0, s1, s2, s3, s4, s5, s6, s7, s8, s9⟩ := hSw
                          go_simp; first | done | with_reducible rfl)) ?_
                        simp only [List.setIfInBounds_toArray, List.set_cons_zero, List.set_cons_succ]
                        refine Disk.z_take 20 154 (v := .int .i64 (x.tdiv 2)) rfl rfl (by kernel_rfl) (by kernel_rfl) (by kernel_rfl) (by kernel_rfl) (by rfl) hs (fun W' hSw => (by
                          obtain ⟨s0, s1, s2, s3, s4, s5, s6, s7, s8, s9⟩ := hSw
                          go_simp; first | done | with_reducible rfl)) ?_
                        simp only [List.setIfInBounds_toArray, List.set_cons_zero, List.set_cons_succ]
                        refine Disk.z_call 21 155 rfl rfl (by kernel_rfl) (by rfl) (f := 127) (args := #[.agg #[.slice a1 h.words.length c1, .slice a2 h.roots.length c2, .int .i64 h.old, .int .i64 h.eden, .int .i64 h.surv, .bool h.flip, .int .i64 h.hash, .slice a3 h.kept.length c3], .int .i64 (x.tdiv 2)]) (w0 := wr.drew) (by go_simp) ?_
                        refine (LF wr.drew (S2.bel.drew)).mono ?_
                        rintro e w5 ⟨rfl, hb5⟩
                        have b5 : Below wr.heap.size wr w5 := bel_after (Below.refl _ _).drew hb5
                        have S5 := S2.later b5
                        have kw5 := kw.low b5
                        have r35 := r3.later b5
                        have cx5 := cell_later b5 cx
                        have kc5 := cell_later b5 kc0
                        have hs5 : w5.cell? ⟨K, 0, none⟩ = some (.slice (some ⟨g1, 0, none⟩) 3200 d1) ∧ w5.cell? ⟨g1, d + 4 + j, none⟩ = some (.int .i64 x) ∧ w5.cell? ⟨w.heap.size, 0, none⟩ = some (.slice a1 h.words.length c1) ∧ w5.cell? ⟨w.heap.size, 1, none⟩ = some (.slice a2 h.roots.length c2) ∧ w5.cell? ⟨w.heap.size, 2, none⟩ = some (.int .i64 h.old) ∧ w5.cell? ⟨w.heap.size, 3, none⟩ = some (.int .i64 h.eden) ∧ w5.cell? ⟨w.heap.size, 4, none⟩ = some (.int .i64 h.surv) ∧ w5.cell? ⟨w.heap.size, 5, none⟩ = some (.bool h.flip) ∧ w5.cell? ⟨w.heap.size, 6, none⟩ = some (.int .i64 h.hash) ∧ w5.cell? ⟨w.heap.size, 7, none⟩ = some (.slice a3 h.kept.length c3) := ⟨kc5, cx5, S5.c0, S5.c1, S5.c2, S5.c3, S5.c4, S5.c5, S5.c6, S5.c7⟩
                        refine ⟨_, rfl, .inr hs5, ?_⟩
                        simp only [List.setIfInBounds_toArray, List.set_cons_zero, List.set_cons_succ]
                        refine Disk.z_take 22 156 (v := .bool true) rfl rfl (by kernel_rfl) (by kernel_rfl) (by kernel_rfl) (by kernel_rfl) (by rfl) hs5 (fun W' hSw => (by
                          obtain ⟨s0, s1, s2, s3, s4, s5, s6, s7, s8, s9⟩ := hSw
                          go_simp; first | done | with_reducible rfl)) ?_
                        simp only [List.setIfInBounds_toArray, List.set_cons_zero, List.set_cons_succ]
                        refine Disk.z_done (by kernel_rfl) ?_ _
                        clear kw S2 r3 kc0 cx cd hs hs5 LF b5
                        have MV := MV0 w5.drew (kw5.low (Below.refl _ _).drew)
                        have kc0 := kc5
                        have cx := cx5
                        have S2 := S5
                        have r3 := r35
                        have kw := kw5
                        clear MV0 kc5 cx5 S5 r35 kw5
                        go_wp2_with fail
                        refine Disk.z_plain 17 (fun W' => W'.cell? ⟨K, 0, none⟩ = some (.slice (some ⟨g1, 0, none⟩) 3200 d1) ∧ W'.cell? ⟨g1, d + 4 + j, none⟩ = some (.int .i64 x)) (by kernel_rfl) ⟨kc0, cx⟩ fun hs => ?_
                        refine Disk.z_take 0 157 (v := .pointer (some ⟨K, 0, none⟩)) rfl rfl (by kernel_rfl) (by kernel_rfl) (by kernel_rfl) (by kernel_rfl) (by rfl) hs (fun W' hSw => (by
                          obtain ⟨s0, s1⟩ := hSw
                          go_simp; first | done | with_reducible rfl)) ?_
                        simp only [List.setIfInBounds_toArray, List.set_cons_zero, List.set_cons_succ]
                        refine Disk.z_take 1 158 (v := .pointer (some ⟨K, 0, none⟩)) rfl rfl (by kernel_rfl) (by kernel_rfl) (by kernel_rfl) (by kernel_rfl) (by rfl) hs (fun W' hSw => (by
                          obtain ⟨s0, s1⟩ := hSw
                          go_simp; first | done | with_reducible rfl)) ?_
                        simp only [List.setIfInBounds_toArray, List.set_cons_zero, List.set_cons_succ]
                        refine Disk.z_take 2 159 (v := .pointer (some ⟨K, 0, none⟩)) rfl rfl (by kernel_rfl) (by kernel_rfl) (by kernel_rfl) (by kernel_rfl) (by rfl) hs (fun W' hSw => (by
                          obtain ⟨s0, s1⟩ := hSw
                          go_simp; first | done | with_reducible rfl)) ?_
                        simp only [List.setIfInBounds_toArray, List.set_cons_zero, List.set_cons_succ]
                        refine Disk.z_take 3 160 (v := .pointer (some ⟨K, 0, none⟩)) rfl rfl (by kernel_rfl) (by kernel_rfl) (by kernel_rfl) (by kernel_rfl) (by rfl) hs (fun W' hSw => (by
                          obtain ⟨s0, s1⟩ := hSw
                          go_simp; first | done | with_reducible rfl)) ?_
                        simp only [List.setIfInBounds_toArray, List.set_cons_zero, List.set_cons_succ]
                        refine Disk.z_take 4 161 (v := .slice (some ⟨g1, 0, none⟩) 3200 d1) rfl rfl (by kernel_rfl) (by kernel_rfl) (by kernel_rfl) (by kernel_rfl) (by rfl) hs (fun W' hSw => (by
                          obtain ⟨s0, s1⟩ := hSw
                          go_simp; first | done | with_reducible rfl)) ?_
                        simp only [List.setIfInBounds_toArray, List.set_cons_zero, List.set_cons_succ]
                        refine Disk.z_take 5 162 (v := .int .i64 ((d : Int) + 4 + j)) rfl rfl (by kernel_rfl) (by kernel_rfl) (by kernel_rfl) (by kernel_rfl) (by rfl) hs (fun W' hSw => (by
                          obtain ⟨s0, s1⟩ := hSw
                          go_simp; first | done | with_reducible rfl)) ?_
                        simp only [List.setIfInBounds_toArray, List.set_cons_zero, List.set_cons_succ]
                        refine Disk.z_take 6 163 (v := .pointer (some ⟨K, 0, none⟩)) rfl rfl (by kernel_rfl) (by kernel_rfl) (by kernel_rfl) (by kernel_rfl) (by rfl) hs (fun W' hSw => (by
                          obtain ⟨s0, s1⟩ := hSw
                          go_simp; first | done | with_reducible rfl)) ?_
                        simp only [List.setIfInBounds_toArray, List.set_cons_zero, List.set_cons_succ]
                        refine Disk.z_take 7 164 (v := .pointer (some ⟨K, 0, none⟩)) rfl rfl (by kernel_rfl) (by kernel_rfl) (by kernel_rfl) (by kernel_rfl) (by rfl) hs (fun W' hSw => (by
                          obtain ⟨s0, s1⟩ := hSw
                          go_simp; first | done | with_reducible rfl)) ?_
                        simp only [List.setIfInBounds_toArray, List.set_cons_zero, List.set_cons_succ]
                        refine Disk.z_take 8 165 (v := .pointer (some ⟨K, 0, none⟩)) rfl rfl (by kernel_rfl) (by kernel_rfl) (by kernel_rfl) (by kernel_rfl) (by rfl) hs (fun W' hSw => (by
                          obtain ⟨s0, s1⟩ := hSw
                          go_simp; first | done | with_reducible rfl)) ?_
                        simp only [List.setIfInBounds_toArray, List.set_cons_zero, List.set_cons_succ]
                        refine Disk.z_take 9 166 (v := .pointer (some ⟨K, 0, none⟩)) rfl rfl (by kernel_rfl) (by kernel_rfl) (by kernel_rfl) (by kernel_rfl) (by rfl) hs (fun W' hSw => (by
                          obtain ⟨s0, s1⟩ := hSw
                          go_simp; first | done | with_reducible rfl)) ?_
                        simp only [List.setIfInBounds_toArray, List.set_cons_zero, List.set_cons_succ]
                        refine Disk.z_take 10 167 (v := .pointer (some ⟨K, 0, none⟩)) rfl rfl (by kernel_rfl) (by kernel_rfl) (by kernel_rfl) (by kernel_rfl) (by rfl) hs (fun W' hSw => (by
                          obtain ⟨s0, s1⟩ := hSw
                          go_simp; first | done | with_reducible rfl)) ?_
                        simp only [List.setIfInBounds_toArray, List.set_cons_zero, List.set_cons_succ]
                        refine Disk.z_take 11 168 (v := .slice (some ⟨g1, 0, none⟩) 3200 d1) rfl rfl (by kernel_rfl) (by kernel_rfl) (by kernel_rfl) (by kernel_rfl) (by rfl) hs (fun W' hSw => (by
                          obtain ⟨s0, s1⟩ := hSw
                          go_simp; first | done | with_reducible rfl)) ?_
                        simp only [List.setIfInBounds_toArray, List.set_cons_zero, List.set_cons_succ]
                        refine Disk.z_take 12 169 (v := .int .i64 ((d : Int) + 4 + j)) rfl rfl (by kernel_rfl) (by kernel_rfl) (by kernel_rfl) (by kernel_rfl) (by rfl) hs (fun W' hSw => (by
                          obtain ⟨s0, s1⟩ := hSw
                          go_simp; first | done | with_reducible rfl)) ?_
                        simp only [List.setIfInBounds_toArray, List.set_cons_zero, List.set_cons_succ]
                        refine Disk.z_take 13 170 (v := .pointer (some ⟨g1, d + 4 + j, none⟩)) rfl rfl (by kernel_rfl) (by kernel_rfl) (by kernel_rfl) (by kernel_rfl) (by rfl) hs (fun W' hSw => (by
                          obtain ⟨s0, s1⟩ := hSw
                          go_simp; first | done | with_reducible rfl)) ?_
                        simp only [List.setIfInBounds_toArray, List.set_cons_zero, List.set_cons_succ]
                        refine Disk.z_take 14 171 (v := .int .i64 x) rfl rfl (by kernel_rfl) (by kernel_rfl) (by kernel_rfl) (by kernel_rfl) (by rfl) hs (fun W' hSw => (by
                          obtain ⟨s0, s1⟩ := hSw
                          go_simp; first | done | with_reducible rfl)) ?_
                        simp only [List.setIfInBounds_toArray, List.set_cons_zero, List.set_cons_succ]
                        refine Disk.z_call 15 172 rfl rfl (by kernel_rfl) (by rfl) (f := 126) (args := #[.pointer (some ⟨K, 0, none⟩), .int .i64 x]) (w0 := w5.drew) (by go_simp) ?_
                        refine MV.mono ?_
                        rintro e w6 ⟨⟨qv', rfl, k6⟩, G6⟩
                        have Gr : Grew w5 w6 (fun b => b = K ∨ b = g1 ∨ b = gt ∨ K < b) := (Grew.refl w5 _).drew.trans G6
                        have big : ∀ b, (b = K ∨ b = g1 ∨ b = gt ∨ K < b) → w.heap.size + 1 < b := fun b e => by have := k6.n1; omega
                        have S6 := S2.grew Gr big
                        have cx6 := k6.r1.cell (i := d + 4 + j) (by rw [len1]; omega)
                        replace cx6 : w6.cell? ⟨g1, d + 4 + j, none⟩ = some (.int .i64 (gw t1.W (d + 4 + j))) := cx6
                        rw [cx2] at cx6
                        have hs6 : w6.cell? ⟨K, 0, none⟩ = some (.slice (some ⟨g1, 0, none⟩) 3200 d1) ∧ w6.cell? ⟨g1, d + 4 + j, none⟩ = some (.int .i64 x) := ⟨k6.row.cell (i := 0) (by omega), cx6⟩
                        refine ⟨_, rfl, .inr hs6, ?_⟩
                        simp only [List.setIfInBounds_toArray, List.set_cons_zero, List.set_cons_succ]
                        refine Disk.z_run 16 173 (w' := w6) (v := .pointer (some ⟨g1, d + 4 + j, none⟩)) rfl rfl (by kernel_rfl) (by rfl) (by go_simp; first | done | with_reducible rfl) (.inr hs6) ?_
                        simp only [List.setIfInBounds_toArray, List.set_cons_zero, List.set_cons_succ]
                        have fi2 := fun j => k6.r1.frozen j
                        have lg2 := k6.r1.lt
                        refine Disk.z_skip 17 (w' := w6.setCell ⟨g1, d + 4 + j, none⟩ (.int .i64 y)) rfl rfl (by kernel_rfl) (by rfl) (by go_simp; first | done | with_reducible rfl) (.inl rfl) ?_
                        refine Disk.z_done (by kernel_rfl) ?_ _
                        have K7 : KW h (w6.setCell ⟨g1, d + 4 + j, none⟩ (.int .i64 y)) K g1 g2 g3 gt d1 d2 d3 qv' RL t' := by
                          rw [FD.out]
                          exact ⟨row_congr (k6.row.setOther (a := ⟨g1, d + 4 + j, none⟩) (by show K ≠ g1; have := k6.n1; omega) _) (fun i hi => match i, hi with | 0, _ => rfl | 1, _ => rfl | 2, _ => rfl | 3, _ => rfl | 4, _ => rfl | 5, _ => rfl | 6, _ => rfl | 7, _ => rfl | 8, _ => rfl | 9, _ => rfl | 10, _ => rfl | 11, _ => rfl | 12, _ => rfl), k6.r1.set (d + 4 + j) y, k6.r2.setOther (fun e => k6.d12 e.symm) _, k6.rt.setOther (fun e => k6.d1t e.symm) _, (Grew.set w6 g1 (d + 4 + j) _).own k6.rq (fun q hq e => by have := own_low k6.rq hq; have := k6.n1; omega), k6.n1, k6.n2, k6.nt, k6.d12, k6.d1t, k6.d2t⟩
                        have S7 := S6.grew (Grew.set w6 g1 (d + 4 + j) (.int .i64 y)) (fun q e => by omega)
                        have r37 := (r3.block (Gr.block _ r3.lt (by omega))).setOther (b := g1) (i := d + 4 + j) (by exact fun e => d13 e.symm) (.int .i64 y)
                        clear fi2 hs hs6 k6 S6 MV G6 Gr kw S2 r3 kc0 cx cx6 FD
                        generalize w6.setCell ⟨g1, d + 4 + j, none⟩ (.int .i64 y) = w7 at *
                        go_wp2
                        exact ⟨⟨j + 1, qv', by go_num, by omega, by rw [hT.out]; exact K7, by rw [hT.out]; exact PCn, by rw [hT.out]; exact hiln, by rw [hT.out]; exact hqdn, by rw [hT.out]; exact hszn, S7, r37⟩, by simp [intOf]; omega⟩
                  · obtain rfl : j = n := by omega
                    have kw2 : KW h wr K g1 g2 g3 gt d1 d2 d3 qv RL (quS h (i + 1)) := by rw [QU.out]; exact kw
                    have pc2 : PC h l (quS h (i + 1)) (i + 1) 0 := by rw [QU.out]; exact pc_next pc
                    have il2 : i + 1 ≤ (quS h (i + 1)).q.length := by rw [QU.out]; exact hil
                    clear kw pc hqd hsz hil
                    go_wp2
                    exact ⟨⟨i + 1, qv, by go_num, il2, kw2, pc2, S2, r3⟩, by simp [intOf]; omega⟩
              · have hI : Hid (i = (quS h i).q.length) := (by omega : i = (quS h i).q.length)
                have hni : ¬ (i : Int) < (quS h i).q.length := by omega
                have SF := pc.1
                have iqv := IR_of_owns' kw.rq
                clear pc hlt hi
                generalize hfs : quS h i = fs at *
                replace hfs : Hid (quS h i = fs) := hfs
                have k0 : wr.cell? ⟨K, 0, none⟩ = some (.slice (some ⟨g1, 0, none⟩) 3200 d1) := kw.row.cell (i := 0) (by omega)
                have k1 : wr.cell? ⟨K, 1, none⟩ = some (.slice (some ⟨g2, 0, none⟩) h.roots.length d2) := kw.row.cell (i := 1) (by omega)
                have k2 : wr.cell? ⟨K, 2, none⟩ = some (.int .i64 (fs.old : Int)) := kw.row.cell (i := 2) (by omega)
                have k3 : wr.cell? ⟨K, 3, none⟩ = some (.int .i64 h.eden) := kw.row.cell (i := 3) (by omega)
                have k4 : wr.cell? ⟨K, 4, none⟩ = some (.int .i64 h.surv) := kw.row.cell (i := 4) (by omega)
                have k5 : wr.cell? ⟨K, 5, none⟩ = some (.bool h.flip) := kw.row.cell (i := 5) (by omega)
                have k6 : wr.cell? ⟨K, 6, none⟩ = some (.int .i64 h.hash) := kw.row.cell (i := 6) (by omega)
                have k7 : wr.cell? ⟨K, 7, none⟩ = some (.slice (some ⟨g3, 0, none⟩) h.kept.length d3) := kw.row.cell (i := 7) (by omega)
                have k12 : wr.cell? ⟨K, 12, none⟩ = some (.bool fs.full) := kw.row.cell (i := 12) (by omega)
                have ltK := kw.row.lt
                cases hfull : fs.full
                · rw [hfull] at k12
                  have al := bel_one wr (.cells #[.slice (some ⟨g1, 0, none⟩) 3200 d1, .slice (some ⟨g2, 0, none⟩) h.roots.length d2, .int .i64 (fs.old : Int), .int .i64 h.eden, .int .i64 h.surv, .bool h.flip, .int .i64 h.hash, .slice (some ⟨g3, 0, none⟩) h.kept.length d3] 26)
                  have F0 : FW h w (wr.alloc (.cells #[.slice (some ⟨g1, 0, none⟩) 3200 d1, .slice (some ⟨g2, 0, none⟩) h.roots.length d2, .int .i64 (fs.old : Int), .int .i64 h.eden, .int .i64 h.surv, .bool h.flip, .int .i64 h.hash, .slice (some ⟨g3, 0, none⟩) h.kept.length d3] 26)) K wr.heap.size g1 g2 g3 gt d1 d2 d3 (.slice qo fs.q.length qc) RL fs fs.W (.slice a1 h.words.length c1) (.slice a2 h.roots.length c2) (.int .i64 h.old) (.int .i64 h.eden) (.int .i64 h.surv) (.bool h.flip) (.int .i64 h.hash) (.slice a3 h.kept.length c3) := ⟨row_congr (row_any wr #[.slice (some ⟨g1, 0, none⟩) 3200 d1, .slice (some ⟨g2, 0, none⟩) h.roots.length d2, .int .i64 (fs.old : Int), .int .i64 h.eden, .int .i64 h.surv, .bool h.flip, .int .i64 h.hash, .slice (some ⟨g3, 0, none⟩) h.kept.length d3] 26) (fun i hi => match i, hi with | 0, _ => rfl | 1, _ => rfl | 2, _ => rfl | 3, _ => rfl | 4, _ => rfl | 5, _ => rfl | 6, _ => rfl | 7, _ => rfl), kw.row.of_block (al.block _ ltK), kw.r1.later al, kw.r2.later al, r3.later al, own_later kw.rq al, S2.later al, kw.row.lt, fun q hq => (kw.rq.lt q hq).2⟩
                  have n1K := kw.n1
                  have n2K := kw.n2
                  have d12 := kw.d12
                  clear kw S2 r3
                  go_wp2
                  clear k0 k1 k2 k3 k4 k5 k6 k7 k11 k12 al
                  generalize hO : wr.heap.size = O at *
                  clear hO
                  generalize wr.alloc (.cells #[.slice (some ⟨g1, 0, none⟩) 3200 d1, .slice (some ⟨g2, 0, none⟩) h.roots.length d2, .int .i64 (fs.old : Int), .int .i64 h.eden, .int .i64 h.surv, .bool h.flip, .int .i64 h.hash, .slice (some ⟨g3, 0, none⟩) h.kept.length d3] 26) = wo at *
                  go_loopw [14] (fun iv wr => ∃ n : Nat, iv = .int .i64 n ∧ 2000 ≤ n ∧ n ≤ 2600 ∧ FW h w wr K O g1 g2 g3 gt d1 d2 d3 (.slice qo fs.q.length qc) RL fs (zr fs.W 2000 n) (.slice a1 h.words.length c1) (.slice a2 h.roots.length c2) (.int .i64 h.old) (.int .i64 h.eden) (.int .i64 h.surv) (.bool h.flip) (.int .i64 h.hash) (.slice a3 h.kept.length c3)) (fun iv _ => 2600 - (intOf iv).toNat)
                  case atStart => exact ⟨2000, rfl, Nat.le_refl _, by omega, by rw [zr_start]; exact F0⟩
                  case round =>
                    clear F0
                    obtain ⟨n, rfl, n1, n2, F⟩ := hrel
                    have o0 : wr.cell? ⟨O, 0, none⟩ = some (.slice (some ⟨g1, 0, none⟩) 3200 d1) := F.row.cell (i := 0) (by omega)
                    by_cases hlt : n < 2600
                    · have cn := F.r1.cell (i := n) (by rw [zr_len, SF.len]; omega)
                      have fn := fun q => F.r1.frozen q
                      have F1 := F.zero n n1K d12 d13 b1 (by have := F.lt; omega)
                      rw [zr_set _ _ _ n1 (by rw [SF.len]; omega)] at F1
                      have hli : (n : Int) < 3200 := by omega
                      have hl2 : (n : Int) < 2600 := by omega
                      generalize (zr fs.W 2000 n).getD n 0 = z at *
                      go_wp2
                      exact ⟨⟨n + 1, by go_num, by omega, by omega, F1⟩, by simp [intOf]; omega⟩
                    · obtain rfl : n = 2600 := by omega
                      have c5 := F.cs.c5
                      have LS := fun W => l5Surv_any h.flip W
                      have svt := tb_two h
                      have HSV : Hid (finW h fs.W = zr (zr fs.W 2000 2600) (survB h.flip) (survB h.flip + 300)) := (rfl : _ = _)
                      have lV : (zr fs.W 2000 2600).length = 3200 := by rw [zr_len]; exact SF.len
                      generalize zr fs.W 2000 2600 = V1 at *
                      have sv2 : survB h.flip + 300 ≤ 3200 := by omega
                      clear o0 hlt n1 n2
                      go_wp2_with (go_at_call 55; refine (LS _).mono ?_; rintro e wq ⟨rfl, hq⟩; obtain rfl := hq.symm)
                      generalize survB h.flip = sv at *
                      go_loopw [16] (fun iv wr => ∃ n : Nat, iv = .int .i64 n ∧ sv ≤ n ∧ n ≤ sv + 300 ∧ FW h w wr K O g1 g2 g3 gt d1 d2 d3 (.slice qo fs.q.length qc) RL fs (zr V1 sv n) (.slice a1 h.words.length c1) (.slice a2 h.roots.length c2) (.int .i64 h.old) (.int .i64 h.eden) (.int .i64 h.surv) (.bool h.flip) (.int .i64 h.hash) (.slice a3 h.kept.length c3)) (fun iv _ => sv + 300 - (intOf iv).toNat)
                      case atStart => exact ⟨sv, rfl, Nat.le_refl _, by omega, by rw [zr_start]; exact F⟩
                      case round =>
                        clear F c5
                        obtain ⟨n, rfl, n1, n2, F⟩ := hrel
                        have o0 : wr.cell? ⟨O, 0, none⟩ = some (.slice (some ⟨g1, 0, none⟩) 3200 d1) := F.row.cell (i := 0) (by omega)
                        by_cases hlt : n < sv + 300
                        · have cn := F.r1.cell (i := n) (by rw [zr_len, lV]; omega)
                          have fn := fun q => F.r1.frozen q
                          have F1 := F.zero n n1K d12 d13 b1 (by have := F.lt; omega)
                          rw [zr_set _ _ _ n1 (by rw [lV]; omega)] at F1
                          have hli : (n : Int) < 3200 := by omega
                          have hl2 : (n : Int) < (sv : Int) + 300 := by omega
                          generalize (zr V1 sv n).getD n 0 = z at *
                          go_wp2
                          exact ⟨⟨n + 1, by go_num, by omega, by omega, F1⟩, by simp [intOf]; omega⟩
                        · obtain rfl : n = sv + 300 := by omega
                          rw [← HSV.out] at F
                          have fo := fun q => F.row.frozen q
                          have ltO := F.row.lt
                          have ltKO := F.lt
                          have oo0 : wr.cell? ⟨O, 0, none⟩ = some (.slice (some ⟨g1, 0, none⟩) 3200 d1) := F.row.cell (i := 0) (by omega)
                          have o1 : wr.cell? ⟨O, 1, none⟩ = some (.slice (some ⟨g2, 0, none⟩) h.roots.length d2) := F.row.cell (i := 1) (by omega)
                          have o2 : wr.cell? ⟨O, 2, none⟩ = some (.int .i64 (fs.old : Int)) := F.row.cell (i := 2) (by omega)
                          have o3 : wr.cell? ⟨O, 3, none⟩ = some (.int .i64 h.eden) := F.row.cell (i := 3) (by omega)
                          have o4 : wr.cell? ⟨O, 4, none⟩ = some (.int .i64 h.surv) := F.row.cell (i := 4) (by omega)
                          have o5 : wr.cell? ⟨O, 5, none⟩ = some (.bool h.flip) := F.row.cell (i := 5) (by omega)
                          have o6 : wr.cell? ⟨O, 6, none⟩ = some (.int .i64 h.hash) := F.row.cell (i := 6) (by omega)
                          have o7 : wr.cell? ⟨O, 7, none⟩ = some (.slice (some ⟨g3, 0, none⟩) h.kept.length d3) := F.row.cell (i := 7) (by omega)
                          have k8 : wr.cell? ⟨K, 8, none⟩ = some (.int .i64 (fs.to : Int)) := F.krow.cell (i := 8) (by omega)
                          have c5 := F.cs.c5
                          have nON : ¬ O = w.heap.size := by omega
                          have nNO : ¬ w.heap.size = O := by omega
                          have nOK : ¬ O = K := by omega
                          have nKO : ¬ K = O := by omega
                          have hnl : ¬ ((sv : Int) + 300) < (sv : Int) + 300 := by omega
                          clear svt hlt HSV LS o0
                          go_wp2
                          have G3 : Grew wr (((wr.setCell ⟨O, 3, none⟩ (.int .i64 2000)).setCell ⟨O, 4, none⟩ (.int .i64 (fs.to : Int))).setCell ⟨O, 5, none⟩ (.bool (!h.flip))) (fun b => b = O) := ((Grew.set wr O 3 _).trans (Grew.set _ O 4 _)).trans (Grew.set _ O 5 _)
                          have RO := row_congr (g := of8 (.slice (some ⟨g1, 0, none⟩) 3200 d1) (.slice (some ⟨g2, 0, none⟩) h.roots.length d2) (.int .i64 (fs.old : Int)) (.int .i64 2000) (.int .i64 (fs.to : Int)) (.bool (!h.flip)) (.int .i64 h.hash) (.slice (some ⟨g3, 0, none⟩) h.kept.length d3)) (((F.row.set 3 (.int .i64 2000)).set 4 (.int .i64 (fs.to : Int))).set 5 (.bool (!h.flip))) (fun i hi => match i, hi with | 0, _ => rfl | 1, _ => rfl | 2, _ => rfl | 3, _ => rfl | 4, _ => rfl | 5, _ => rfl | 6, _ => rfl | 7, _ => rfl)
                          have KO := G3.row F.krow (by omega)
                          have R1 : RI (((wr.setCell ⟨O, 3, none⟩ (.int .i64 2000)).setCell ⟨O, 4, none⟩ (.int .i64 (fs.to : Int))).setCell ⟨O, 5, none⟩ (.bool (!h.flip))) g1 (finW h fs.W) d1 := F.r1.block (G3.block _ F.r1.lt (by omega))
                          have R2 : RI (((wr.setCell ⟨O, 3, none⟩ (.int .i64 2000)).setCell ⟨O, 4, none⟩ (.int .i64 (fs.to : Int))).setCell ⟨O, 5, none⟩ (.bool (!h.flip))) g2 RL d2 := F.r2.block (G3.block _ F.r2.lt (by omega))
                          have R3 : RI (((wr.setCell ⟨O, 3, none⟩ (.int .i64 2000)).setCell ⟨O, 4, none⟩ (.int .i64 (fs.to : Int))).setCell ⟨O, 5, none⟩ (.bool (!h.flip))) g3 h.kept d3 := F.r3.block (G3.block _ F.r3.lt (by omega))
                          have S3 := F.cs.grew G3 (fun q e => by omega)
                          have Q3 := G3.own F.rq (fun q hq e => by have := F.qlt q hq; omega)
                          have ltO3 := RO.lt
                          have PPx := fin_parts SF RL h.kept
                          have H5 : HR (((wr.setCell ⟨O, 3, none⟩ (.int .i64 2000)).setCell ⟨O, 4, none⟩ (.int .i64 (fs.to : Int))).setCell ⟨O, 5, none⟩ (.bool (!h.flip))) (.agg #[.slice (some ⟨g1, 0, none⟩) 3200 d1, .slice (some ⟨g2, 0, none⟩) h.roots.length d2, .int .i64 (fs.old : Int), .int .i64 2000, .int .i64 (fs.to : Int), .bool (!h.flip), .int .i64 h.hash, .slice (some ⟨g3, 0, none⟩) h.kept.length d3]) (finH h fs RL h.kept) := by
                            refine ⟨_, _, _, rfl, ?_, ?_, R3.ir R3.le⟩
                            · have q := R1.ir R1.le
                              rw [show (finW h fs.W).length = 3200 from by unfold finW; rw [zr_len, zr_len]; exact SF.len] at q
                              exact q
                            · have q := R2.ir R2.le
                              rw [hRL] at q
                              exact q
                          have lw32 : (finH h fs RL h.kept).words.length = 3200 := by show (finW h fs.W).length = 3200; unfold finW; rw [zr_len, zr_len]; exact SF.len
                          have qlt := F.qlt
                          clear F fo oo0 o1 o2 o3 o4 o5 o6 o7 k8 c5
                          generalize (((wr.setCell ⟨O, 3, none⟩ (.int .i64 2000)).setCell ⟨O, 4, none⟩ (.int .i64 (fs.to : Int))).setCell ⟨O, 5, none⟩ (.bool (!h.flip))) = wz at *
                          have o0 : wz.cell? ⟨O, 0, none⟩ = some (.slice (some ⟨g1, 0, none⟩) 3200 d1) := RO.cell (i := 0) (by omega)
                          have o1 : wz.cell? ⟨O, 1, none⟩ = some (.slice (some ⟨g2, 0, none⟩) h.roots.length d2) := RO.cell (i := 1) (by omega)
                          have o2 : wz.cell? ⟨O, 2, none⟩ = some (.int .i64 (fs.old : Int)) := RO.cell (i := 2) (by omega)
                          have o3 : wz.cell? ⟨O, 3, none⟩ = some (.int .i64 2000) := RO.cell (i := 3) (by omega)
                          have o4 : wz.cell? ⟨O, 4, none⟩ = some (.int .i64 (fs.to : Int)) := RO.cell (i := 4) (by omega)
                          have o5 : wz.cell? ⟨O, 5, none⟩ = some (.bool (!h.flip)) := RO.cell (i := 5) (by omega)
                          have o6 : wz.cell? ⟨O, 6, none⟩ = some (.int .i64 h.hash) := RO.cell (i := 6) (by omega)
                          have o7 : wz.cell? ⟨O, 7, none⟩ = some (.slice (some ⟨g3, 0, none⟩) h.kept.length d3) := RO.cell (i := 7) (by omega)
                          refine Disk.z_plain 5 (fun W' => W'.cell? ⟨O, 0, none⟩ = some (.slice (some ⟨g1, 0, none⟩) 3200 d1) ∧ W'.cell? ⟨O, 1, none⟩ = some (.slice (some ⟨g2, 0, none⟩) h.roots.length d2) ∧ W'.cell? ⟨O, 2, none⟩ = some (.int .i64 (fs.old : Int)) ∧ W'.cell? ⟨O, 3, none⟩ = some (.int .i64 2000) ∧ W'.cell? ⟨O, 4, none⟩ = some (.int .i64 (fs.to : Int)) ∧ W'.cell? ⟨O, 5, none⟩ = some (.bool (!h.flip)) ∧ W'.cell? ⟨O, 6, none⟩ = some (.int .i64 h.hash) ∧ W'.cell? ⟨O, 7, none⟩ = some (.slice (some ⟨g3, 0, none⟩) h.kept.length d3)) (by kernel_rfl) ⟨o0, o1, o2, o3, o4, o5, o6, o7⟩ fun hs => ?_
                          refine Disk.z_take 0 216 (v := .agg #[.slice (some ⟨g1, 0, none⟩) 3200 d1, .slice (some ⟨g2, 0, none⟩) h.roots.length d2, .int .i64 (fs.old : Int), .int .i64 2000, .int .i64 (fs.to : Int), .bool (!h.flip), .int .i64 h.hash, .slice (some ⟨g3, 0, none⟩) h.kept.length d3]) rfl rfl (by kernel_rfl) (by kernel_rfl) (by kernel_rfl) (by kernel_rfl) (by rfl) hs (fun W' hSw => (by
                            obtain ⟨s0, s1, s2, s3, s4, s5, s6, s7⟩ := hSw
                            go_simp; first | done | with_reducible rfl)) ?_
                          simp only [List.setIfInBounds_toArray, List.set_cons_zero, List.set_cons_succ]
                          refine Disk.z_take 1 217 (v := .agg #[.slice (some ⟨g1, 0, none⟩) 3200 d1, .slice (some ⟨g2, 0, none⟩) h.roots.length d2, .int .i64 (fs.old : Int), .int .i64 2000, .int .i64 (fs.to : Int), .bool (!h.flip), .int .i64 h.hash, .slice (some ⟨g3, 0, none⟩) h.kept.length d3]) rfl rfl (by kernel_rfl) (by kernel_rfl) (by kernel_rfl) (by kernel_rfl) (by rfl) hs (fun W' hSw => (by
                            obtain ⟨s0, s1, s2, s3, s4, s5, s6, s7⟩ := hSw
                            go_simp; first | done | with_reducible rfl)) ?_
                          simp only [List.setIfInBounds_toArray, List.set_cons_zero, List.set_cons_succ]
                          refine Disk.z_call 2 218 rfl rfl (by kernel_rfl) (by rfl) (f := 32) (args := #[.agg #[.slice (some ⟨g1, 0, none⟩) 3200 d1, .slice (some ⟨g2, 0, none⟩) h.roots.length d2, .int .i64 (fs.old : Int), .int .i64 2000, .int .i64 (fs.to : Int), .bool (!h.flip), .int .i64 h.hash, .slice (some ⟨g3, 0, none⟩) h.kept.length d3]]) (w0 := wz.drew) (by go_simp) ?_
                          refine (l5All_any _ _ _ (H5.later (Below.refl _ _).drew)).mono ?_
                          rintro e w6 ⟨⟨l2, v', hl3, rfl, ho, hP⟩, hb6⟩
                          have PL : PartsAt (finH h fs RL h.kept) l2 := by obtain ⟨m, q⟩ := PPx; exact hP m q
                          have b56 : Below wz.heap.size wz w6 := bel_after (Below.refl _ _).drew hb6
                          have X6 := RO.of_block (b56.block _ RO.lt)
                          have hs6 : w6.cell? ⟨O, 0, none⟩ = some (.slice (some ⟨g1, 0, none⟩) 3200 d1) ∧ w6.cell? ⟨O, 1, none⟩ = some (.slice (some ⟨g2, 0, none⟩) h.roots.length d2) ∧ w6.cell? ⟨O, 2, none⟩ = some (.int .i64 (fs.old : Int)) ∧ w6.cell? ⟨O, 3, none⟩ = some (.int .i64 2000) ∧ w6.cell? ⟨O, 4, none⟩ = some (.int .i64 (fs.to : Int)) ∧ w6.cell? ⟨O, 5, none⟩ = some (.bool (!h.flip)) ∧ w6.cell? ⟨O, 6, none⟩ = some (.int .i64 h.hash) ∧ w6.cell? ⟨O, 7, none⟩ = some (.slice (some ⟨g3, 0, none⟩) h.kept.length d3) := ⟨X6.cell (i := 0) (by omega), X6.cell (i := 1) (by omega), X6.cell (i := 2) (by omega), X6.cell (i := 3) (by omega), X6.cell (i := 4) (by omega), X6.cell (i := 5) (by omega), X6.cell (i := 6) (by omega), X6.cell (i := 7) (by omega)⟩
                          refine ⟨_, rfl, .inr hs6, ?_⟩
                          simp only [List.setIfInBounds_toArray, List.set_cons_zero, List.set_cons_succ]
                          refine Disk.z_call 3 219 rfl rfl (by kernel_rfl) (by rfl) (f := 31) (args := #[.agg #[.slice (some ⟨g1, 0, none⟩) 3200 d1, .slice (some ⟨g2, 0, none⟩) h.roots.length d2, .int .i64 (fs.old : Int), .int .i64 2000, .int .i64 (fs.to : Int), .bool (!h.flip), .int .i64 h.hash, .slice (some ⟨g3, 0, none⟩) h.kept.length d3], v']) (w0 := w6) (by go_simp) ?_
                          refine (l5Kept_own _ v' (finH h fs RL h.kept) l2 w6 (H5.later b56) (IR_of_owns' ho) lw32 hl3 (fun q hq => PL.obj hq) (fun q hq z hz => by obtain ⟨i2, _, rfl⟩ := List.mem_map.1 hz; exact small_half (fin_small SF _))).mono ?_
                          rintro e w7 ⟨⟨v3, rfl, o7w⟩, hb7⟩
                          have b57 := bel_after b56 hb7
                          have X7 := RO.of_block (b57.block _ RO.lt)
                          have hs7 : w7.cell? ⟨O, 0, none⟩ = some (.slice (some ⟨g1, 0, none⟩) 3200 d1) ∧ w7.cell? ⟨O, 1, none⟩ = some (.slice (some ⟨g2, 0, none⟩) h.roots.length d2) ∧ w7.cell? ⟨O, 2, none⟩ = some (.int .i64 (fs.old : Int)) ∧ w7.cell? ⟨O, 3, none⟩ = some (.int .i64 2000) ∧ w7.cell? ⟨O, 4, none⟩ = some (.int .i64 (fs.to : Int)) ∧ w7.cell? ⟨O, 5, none⟩ = some (.bool (!h.flip)) ∧ w7.cell? ⟨O, 6, none⟩ = some (.int .i64 h.hash) ∧ w7.cell? ⟨O, 7, none⟩ = some (.slice (some ⟨g3, 0, none⟩) h.kept.length d3) := ⟨X7.cell (i := 0) (by omega), X7.cell (i := 1) (by omega), X7.cell (i := 2) (by omega), X7.cell (i := 3) (by omega), X7.cell (i := 4) (by omega), X7.cell (i := 5) (by omega), X7.cell (i := 6) (by omega), X7.cell (i := 7) (by omega)⟩
                          refine ⟨_, rfl, .inr hs7, ?_⟩
                          simp only [List.setIfInBounds_toArray, List.set_cons_zero, List.set_cons_succ]
                          obtain ⟨ao3, cc3, e3⟩ := own_shape o7w
                          obtain ⟨nn, hnn⟩ : ∃ nn, nn = (keptS (finH h fs RL h.kept).words l2).length := ⟨_, rfl⟩
                          rw [← hnn] at e3 o7w
                          subst e3
                          replace hnn : Hid (nn = (keptS (finH h fs RL h.kept).words l2).length) := hnn
                          have fD := fun q => X7.frozen q
                          have lt7 := X7.lt
                          obtain ⟨t0, t1, t2, t3, t4, t5, t6, t7⟩ := id hs7
                          refine Disk.z_run 4 220 (w' := w7) (v := .pointer (some ⟨O, 7, none⟩)) rfl rfl (by kernel_rfl) (by rfl) (by go_simp; first | done | with_reducible rfl) (.inr hs7) ?_
                          simp only [List.setIfInBounds_toArray, List.set_cons_zero, List.set_cons_succ]
                          refine Disk.z_skip 5 (w' := w7.setCell ⟨O, 7, none⟩ (.slice ao3 nn cc3)) rfl rfl (by kernel_rfl) (by rfl) (by go_simp; first | done | with_reducible rfl) (.inl rfl) ?_
                          refine Disk.z_done (by kernel_rfl) ?_ _
                          have G8 := Grew.set w7 O 7 (.slice ao3 nn cc3)
                          have X8 := row_congr (g := of8 (.slice (some ⟨g1, 0, none⟩) 3200 d1) (.slice (some ⟨g2, 0, none⟩) h.roots.length d2) (.int .i64 (fs.old : Int)) (.int .i64 2000) (.int .i64 (fs.to : Int)) (.bool (!h.flip)) (.int .i64 h.hash) (.slice ao3 nn cc3)) (X7.set 7 (.slice ao3 nn cc3)) (fun i hi => match i, hi with | 0, _ => rfl | 1, _ => rfl | 2, _ => rfl | 3, _ => rfl | 4, _ => rfl | 5, _ => rfl | 6, _ => rfl | 7, _ => rfl)
                          have K8 := G8.row (KO.of_block (b57.block _ KO.lt)) (by omega)
                          have M1 : RI _ g1 _ d1 := (R1.later b57).setOther (b := O) (i := 7) (by omega) (.slice ao3 nn cc3)
                          have M2 : RI _ g2 RL d2 := (R2.later b57).setOther (b := O) (i := 7) (by omega) (.slice ao3 nn cc3)
                          have S8 := (S3.later b57).grew G8 (fun q e => by omega)
                          have sz6 := b56.size
                          have O8 := own_block (w' := w7.setCell ⟨O, 7, none⟩ (.slice ao3 nn cc3)) o7w (fun q hq => Below.heap_setCell _ _ _ _ (by show q ≠ O; omega))
                          have Q8 := G8.own (own_later Q3 b57) (fun q hq e => by have := qlt q hq; omega)
                          clear t0 t1 t2 t3 t4 t5 t6 t7 hs hs6 hs7 X6 X7 fD R1 R2 R3 H5 o7w ho hP PPx RO KO S3 Q3 G3 b57 hb7 hb6 o0 o1 o2 o3 o4 o5 o6 o7
                          generalize w7.setCell ⟨O, 7, none⟩ (.slice ao3 nn cc3) = w8 at *
                          go_wp2_with fail
                          have sO : K < O := by omega
                          have Ok0 := X8.cell (i := 0) (by omega)
                          have hs8 : (w8.cell? ⟨O, 0, none⟩ = some (.slice (some ⟨g1, 0, none⟩) 3200 d1) ∧ w8.cell? ⟨O, 1, none⟩ = some (.slice (some ⟨g2, 0, none⟩) h.roots.length d2) ∧ w8.cell? ⟨O, 2, none⟩ = some (.int .i64 (fs.old : Int)) ∧ w8.cell? ⟨O, 3, none⟩ = some (.int .i64 2000) ∧ w8.cell? ⟨O, 4, none⟩ = some (.int .i64 (fs.to : Int)) ∧ w8.cell? ⟨O, 5, none⟩ = some (.bool (!h.flip)) ∧ w8.cell? ⟨O, 6, none⟩ = some (.int .i64 h.hash) ∧ w8.cell? ⟨O, 7, none⟩ = some (.slice ao3 nn cc3)) ∧ w8.cell? ⟨K, 11, none⟩ = some (.slice qo fs.q.length qc) := ⟨⟨X8.cell (i := 0) (by omega), X8.cell (i := 1) (by omega), X8.cell (i := 2) (by omega), X8.cell (i := 3) (by omega), X8.cell (i := 4) (by omega), X8.cell (i := 5) (by omega), X8.cell (i := 6) (by omega), X8.cell (i := 7) (by omega)⟩, K8.cell (i := 11) (by omega)⟩
                          obtain ⟨fr, FR⟩ := S8.res
                          have OKC : (#[.slice (some ⟨g1, 0, none⟩) 3200 d1, .slice (some ⟨g2, 0, none⟩) h.roots.length d2, .int .i64 (fs.old : Int), .int .i64 2000, .int .i64 (fs.to : Int), .bool (!h.flip), .int .i64 h.hash, .slice ao3 nn cc3] : Array Value).all (·.oneCell') = true := by simp [Value.oneCell']
                          have bd8 : Below w8.heap.size w8 w8.drew := (Below.refl _ _).drew
                          have FRd := FR.of_block (bd8.block _ FR.lt)
                          have RUN := run_store_box w8.drew 26 26 (w.heap.size + 1) 8 #[.slice (some ⟨g1, 0, none⟩) 3200 d1, .slice (some ⟨g2, 0, none⟩) h.roots.length d2, .int .i64 (fs.old : Int), .int .i64 2000, .int .i64 (fs.to : Int), .bool (!h.flip), .int .i64 h.hash, .slice ao3 nn cc3] fr FRd rfl (by kernel_rfl) OKC
                          have G9 : w8.grownBy (w8.drew.setRow (w.heap.size + 1) #[.slice (some ⟨g1, 0, none⟩) 3200 d1, .slice (some ⟨g2, 0, none⟩) h.roots.length d2, .int .i64 (fs.old : Int), .int .i64 2000, .int .i64 (fs.to : Int), .bool (!h.flip), .int .i64 h.hash, .slice ao3 nn cc3]) (some (w.heap.size + 1)) := by have q := grown_setRow w8.drew (w.heap.size + 1) #[.slice (some ⟨g1, 0, none⟩) 3200 d1, .slice (some ⟨g2, 0, none⟩) h.roots.length d2, .int .i64 (fs.old : Int), .int .i64 2000, .int .i64 (fs.to : Int), .bool (!h.flip), .int .i64 h.hash, .slice ao3 nn cc3]; exact ⟨q.os, q.tape, q.output, q.size, q.block⟩
                          have F9 := row_set w8.drew (w.heap.size + 1) 26 8 #[.slice (some ⟨g1, 0, none⟩) 3200 d1, .slice (some ⟨g2, 0, none⟩) h.roots.length d2, .int .i64 (fs.old : Int), .int .i64 2000, .int .i64 (fs.to : Int), .bool (!h.flip), .int .i64 h.hash, .slice ao3 nn cc3] fr FRd rfl
                          have hs9 : ((w8.drew.setRow (w.heap.size + 1) #[.slice (some ⟨g1, 0, none⟩) 3200 d1, .slice (some ⟨g2, 0, none⟩) h.roots.length d2, .int .i64 (fs.old : Int), .int .i64 2000, .int .i64 (fs.to : Int), .bool (!h.flip), .int .i64 h.hash, .slice ao3 nn cc3]).cell? ⟨O, 0, none⟩ = some (.slice (some ⟨g1, 0, none⟩) 3200 d1) ∧ (w8.drew.setRow (w.heap.size + 1) #[.slice (some ⟨g1, 0, none⟩) 3200 d1, .slice (some ⟨g2, 0, none⟩) h.roots.length d2, .int .i64 (fs.old : Int), .int .i64 2000, .int .i64 (fs.to : Int), .bool (!h.flip), .int .i64 h.hash, .slice ao3 nn cc3]).cell? ⟨O, 1, none⟩ = some (.slice (some ⟨g2, 0, none⟩) h.roots.length d2) ∧ (w8.drew.setRow (w.heap.size + 1) #[.slice (some ⟨g1, 0, none⟩) 3200 d1, .slice (some ⟨g2, 0, none⟩) h.roots.length d2, .int .i64 (fs.old : Int), .int .i64 2000, .int .i64 (fs.to : Int), .bool (!h.flip), .int .i64 h.hash, .slice ao3 nn cc3]).cell? ⟨O, 2, none⟩ = some (.int .i64 (fs.old : Int)) ∧ (w8.drew.setRow (w.heap.size + 1) #[.slice (some ⟨g1, 0, none⟩) 3200 d1, .slice (some ⟨g2, 0, none⟩) h.roots.length d2, .int .i64 (fs.old : Int), .int .i64 2000, .int .i64 (fs.to : Int), .bool (!h.flip), .int .i64 h.hash, .slice ao3 nn cc3]).cell? ⟨O, 3, none⟩ = some (.int .i64 2000) ∧ (w8.drew.setRow (w.heap.size + 1) #[.slice (some ⟨g1, 0, none⟩) 3200 d1, .slice (some ⟨g2, 0, none⟩) h.roots.length d2, .int .i64 (fs.old : Int), .int .i64 2000, .int .i64 (fs.to : Int), .bool (!h.flip), .int .i64 h.hash, .slice ao3 nn cc3]).cell? ⟨O, 4, none⟩ = some (.int .i64 (fs.to : Int)) ∧ (w8.drew.setRow (w.heap.size + 1) #[.slice (some ⟨g1, 0, none⟩) 3200 d1, .slice (some ⟨g2, 0, none⟩) h.roots.length d2, .int .i64 (fs.old : Int), .int .i64 2000, .int .i64 (fs.to : Int), .bool (!h.flip), .int .i64 h.hash, .slice ao3 nn cc3]).cell? ⟨O, 5, none⟩ = some (.bool (!h.flip)) ∧ (w8.drew.setRow (w.heap.size + 1) #[.slice (some ⟨g1, 0, none⟩) 3200 d1, .slice (some ⟨g2, 0, none⟩) h.roots.length d2, .int .i64 (fs.old : Int), .int .i64 2000, .int .i64 (fs.to : Int), .bool (!h.flip), .int .i64 h.hash, .slice ao3 nn cc3]).cell? ⟨O, 6, none⟩ = some (.int .i64 h.hash) ∧ (w8.drew.setRow (w.heap.size + 1) #[.slice (some ⟨g1, 0, none⟩) 3200 d1, .slice (some ⟨g2, 0, none⟩) h.roots.length d2, .int .i64 (fs.old : Int), .int .i64 2000, .int .i64 (fs.to : Int), .bool (!h.flip), .int .i64 h.hash, .slice ao3 nn cc3]).cell? ⟨O, 7, none⟩ = some (.slice ao3 nn cc3)) ∧ (w8.drew.setRow (w.heap.size + 1) #[.slice (some ⟨g1, 0, none⟩) 3200 d1, .slice (some ⟨g2, 0, none⟩) h.roots.length d2, .int .i64 (fs.old : Int), .int .i64 2000, .int .i64 (fs.to : Int), .bool (!h.flip), .int .i64 h.hash, .slice ao3 nn cc3]).cell? ⟨K, 11, none⟩ = some (.slice qo fs.q.length qc) := by
                            have X9 := X8.of_block (G9.block _ X8.lt (by intro e; cases e; omega))
                            have K9 := K8.of_block (G9.block _ K8.lt (by intro e; cases e; omega))
                            exact ⟨⟨X9.cell (i := 0) (by omega), X9.cell (i := 1) (by omega), X9.cell (i := 2) (by omega), X9.cell (i := 3) (by omega), X9.cell (i := 4) (by omega), X9.cell (i := 5) (by omega), X9.cell (i := 6) (by omega), X9.cell (i := 7) (by omega)⟩, K9.cell (i := 11) (by omega)⟩
                          have N1 := M1.grown G9 (by intro e; cases e; omega)
                          have N2 := M2.grown G9 (by intro e; cases e; omega)
                          have O9 : (w8.drew.setRow (w.heap.size + 1) #[.slice (some ⟨g1, 0, none⟩) 3200 d1, .slice (some ⟨g2, 0, none⟩) h.roots.length d2, .int .i64 (fs.old : Int), .int .i64 2000, .int .i64 (fs.to : Int), .bool (!h.flip), .int .i64 h.hash, .slice ao3 nn cc3]).ownsRow (w6.heap.size + 1) 2 1 (.slice ao3 nn cc3) nn (icells (ints (keptS (finH h fs RL h.kept).words l2))) := by
                            obtain ⟨hlx, hx8⟩ := O8
                            refine ⟨hlx, ?_⟩
                            rcases hx8 with e | ⟨g, cap, cur, e, hB, hh, r⟩
                            · exact .inl e
                            · exact .inr ⟨g, cap, cur, e, hB, (G9.block g (Array.getElem?_eq_some_iff.1 hh).1 (by intro e; cases e; omega)).trans hh, r⟩
                          have Q9 := (Grew.grown G9).own Q8 (fun q hq e => by have := own_low Q8 hq; cases e; omega)
                          have B9 : Below w.heap.size w (w8.drew.setRow (w.heap.size + 1) #[.slice (some ⟨g1, 0, none⟩) 3200 d1, .slice (some ⟨g2, 0, none⟩) h.roots.length d2, .int .i64 (fs.old : Int), .int .i64 2000, .int .i64 (fs.to : Int), .bool (!h.flip), .int .i64 h.hash, .slice ao3 nn cc3]) := Below.grown S8.bel G9 S8.bel.size (fun q hq => by cases hq; omega)
                          have sw6 : wz.heap.size ≤ w6.heap.size := sz6
                          have HF : HM w.heap.size (w8.drew.setRow (w.heap.size + 1) #[.slice (some ⟨g1, 0, none⟩) 3200 d1, .slice (some ⟨g2, 0, none⟩) h.roots.length d2, .int .i64 (fs.old : Int), .int .i64 2000, .int .i64 (fs.to : Int), .bool (!h.flip), .int .i64 h.hash, .slice ao3 nn cc3]) (.agg #[.slice (some ⟨g1, 0, none⟩) 3200 d1, .slice (some ⟨g2, 0, none⟩) h.roots.length d2, .int .i64 (fs.old : Int), .int .i64 2000, .int .i64 (fs.to : Int), .bool (!h.flip), .int .i64 h.hash, .slice ao3 nn cc3]) (finH h fs RL (ints (keptS (finW h fs.W) l2))) := by
                            have q := HM.of_own3 (h := finH h fs RL (ints (keptS (finW h fs.W) l2))) (B := w.heap.size) N1 N2 mx1.out mx2.out (B3 := w6.heap.size + 1) (v3 := .slice ao3 nn cc3) (by show World.ownsRow _ _ 2 1 _ (ints (keptS (finW h fs.W) l2)).length _; rw [ints_length, show (keptS (finW h fs.W) l2).length = nn from hnn.out.symm]; exact O9) (by omega) (by omega) (by omega) d12 (by omega) (by omega)
                            rw [show (finH h fs RL (ints (keptS (finW h fs.W) l2))).words.length = 3200 from by show (finW h fs.W).length = 3200; unfold finW; rw [zr_len, zr_len]; exact SF.len, show (finH h fs RL (ints (keptS (finW h fs.W) l2))).roots.length = h.roots.length from hRL] at q
                            exact q
                          clear M1 M2 N1 N2 O8 O9 Q8 G9 X8 K8 S8 FR FRd G8
                          refine Disk.z_plain 99 (fun W' => (W'.cell? ⟨O, 0, none⟩ = some (.slice (some ⟨g1, 0, none⟩) 3200 d1) ∧ W'.cell? ⟨O, 1, none⟩ = some (.slice (some ⟨g2, 0, none⟩) h.roots.length d2) ∧ W'.cell? ⟨O, 2, none⟩ = some (.int .i64 (fs.old : Int)) ∧ W'.cell? ⟨O, 3, none⟩ = some (.int .i64 2000) ∧ W'.cell? ⟨O, 4, none⟩ = some (.int .i64 (fs.to : Int)) ∧ W'.cell? ⟨O, 5, none⟩ = some (.bool (!h.flip)) ∧ W'.cell? ⟨O, 6, none⟩ = some (.int .i64 h.hash) ∧ W'.cell? ⟨O, 7, none⟩ = some (.slice ao3 nn cc3)) ∧ W'.cell? ⟨K, 11, none⟩ = some (.slice qo fs.q.length qc)) (by kernel_rfl) (by obtain ⟨⟨s0, s1, s2, s3, s4, s5, s6, s7⟩, s8⟩ := hs8; exact ⟨⟨s0, s1, s2, s3, s4, s5, s6, s7⟩, s8⟩) fun hs => ?_
                          refine Disk.z_take 0 221 (v := .agg #[.slice (some ⟨g1, 0, none⟩) 3200 d1, .slice (some ⟨g2, 0, none⟩) h.roots.length d2, .int .i64 (fs.old : Int), .int .i64 2000, .int .i64 (fs.to : Int), .bool (!h.flip), .int .i64 h.hash, .slice ao3 nn cc3]) rfl rfl (by kernel_rfl) (by kernel_rfl) (by kernel_rfl) (by kernel_rfl) (by rfl) hs (fun W' hSw => (by
                            obtain ⟨⟨s0, s1, s2, s3, s4, s5, s6, s7⟩, s8⟩ := hSw
                            go_simp; first | done | with_reducible rfl)) ?_
                          simp only [List.setIfInBounds_toArray, List.set_cons_zero, List.set_cons_succ]
                          refine Disk.z_take 1 222 (v := .pointer (some ⟨K, 0, none⟩)) rfl rfl (by kernel_rfl) (by kernel_rfl) (by kernel_rfl) (by kernel_rfl) (by rfl) hs (fun W' hSw => (by
                            obtain ⟨⟨s0, s1, s2, s3, s4, s5, s6, s7⟩, s8⟩ := hSw
                            go_simp; first | done | with_reducible rfl)) ?_
                          simp only [List.setIfInBounds_toArray, List.set_cons_zero, List.set_cons_succ]
                          refine Disk.z_take 2 223 (v := .pointer (some ⟨K, 0, none⟩)) rfl rfl (by kernel_rfl) (by kernel_rfl) (by kernel_rfl) (by kernel_rfl) (by rfl) hs (fun W' hSw => (by
                            obtain ⟨⟨s0, s1, s2, s3, s4, s5, s6, s7⟩, s8⟩ := hSw
                            go_simp; first | done | with_reducible rfl)) ?_
                          simp only [List.setIfInBounds_toArray, List.set_cons_zero, List.set_cons_succ]
                          refine Disk.z_take 3 224 (v := .pointer (some ⟨K, 11, none⟩)) rfl rfl (by kernel_rfl) (by kernel_rfl) (by kernel_rfl) (by kernel_rfl) (by rfl) hs (fun W' hSw => (by
                            obtain ⟨⟨s0, s1, s2, s3, s4, s5, s6, s7⟩, s8⟩ := hSw
                            go_simp; first | done | with_reducible rfl)) ?_
                          simp only [List.setIfInBounds_toArray, List.set_cons_zero, List.set_cons_succ]
                          generalize hw9 : w8.drew.setRow (w.heap.size + 1) #[.slice (some ⟨g1, 0, none⟩) 3200 d1, .slice (some ⟨g2, 0, none⟩) h.roots.length d2, .int .i64 (fs.old : Int), .int .i64 2000, .int .i64 (fs.to : Int), .bool (!h.flip), .int .i64 h.hash, .slice ao3 nn cc3] = w9 at *
                          clear hw9
                          refine z_or (i := 4) (j := 5) (by kernel_rfl) ?_ ?_
                          · refine o_run 4 225 (w' := w8.drew) (v := .slice qo fs.q.length qc) rfl rfl (by rfl) (by obtain ⟨_, s8⟩ := hs; go_simp; first | done | with_reducible rfl) (.inr hs) ?_
                            simp only [List.setIfInBounds_toArray, List.set_cons_zero, List.set_cons_succ]
                            refine Disk.z_skip 5 (w' := w9) rfl rfl (by kernel_rfl) (by rfl) (exec_storeB _ _ rfl _ _ rfl rfl RUN) (.inr hs9) ?_
                            refine Disk.z_take 6 3 (v := .slice qo fs.q.length qc) rfl rfl (by kernel_rfl) (by kernel_rfl) (by kernel_rfl) (by kernel_rfl) (by rfl) hs9 (fun W' hSw => (by
                              obtain ⟨⟨s0, s1, s2, s3, s4, s5, s6, s7⟩, s8⟩ := hSw
                              go_simp; first | done | with_reducible rfl)) ?_
                            simp only [List.setIfInBounds_toArray, List.set_cons_zero, List.set_cons_succ]
                            refine Disk.z_take 7 4 (v := .bool true) rfl rfl (by kernel_rfl) (by kernel_rfl) (by kernel_rfl) (by kernel_rfl) (by rfl) hs9 (fun W' hSw => (by
                              obtain ⟨⟨s0, s1, s2, s3, s4, s5, s6, s7⟩, s8⟩ := hSw
                              go_simp; first | done | with_reducible rfl)) ?_
                            simp only [List.setIfInBounds_toArray, List.set_cons_zero, List.set_cons_succ]
                            refine Disk.z_done (by kernel_rfl) ?_ _
                            have r0 : w9.cell? ⟨w.heap.size + 1, 0, none⟩ = some (.slice (some ⟨g1, 0, none⟩) 3200 d1) := F9.cell (i := 0) (by omega)
                            have r1 : w9.cell? ⟨w.heap.size + 1, 1, none⟩ = some (.slice (some ⟨g2, 0, none⟩) h.roots.length d2) := F9.cell (i := 1) (by omega)
                            have r2 : w9.cell? ⟨w.heap.size + 1, 2, none⟩ = some (.int .i64 (fs.old : Int)) := F9.cell (i := 2) (by omega)
                            have r3 : w9.cell? ⟨w.heap.size + 1, 3, none⟩ = some (.int .i64 2000) := F9.cell (i := 3) (by omega)
                            have r4 : w9.cell? ⟨w.heap.size + 1, 4, none⟩ = some (.int .i64 (fs.to : Int)) := F9.cell (i := 4) (by omega)
                            have r5 : w9.cell? ⟨w.heap.size + 1, 5, none⟩ = some (.bool (!h.flip)) := F9.cell (i := 5) (by omega)
                            have r6 : w9.cell? ⟨w.heap.size + 1, 6, none⟩ = some (.int .i64 h.hash) := F9.cell (i := 6) (by omega)
                            have r7 : w9.cell? ⟨w.heap.size + 1, 7, none⟩ = some (.slice ao3 nn cc3) := F9.cell (i := 7) (by omega)
                            go_wp2
                            exact bodyPost_ret (v := .tuple #[.agg #[.slice (some ⟨g1, 0, none⟩) 3200 d1, .slice (some ⟨g2, 0, none⟩) h.roots.length d2, .int .i64 (fs.old : Int), .int .i64 2000, .int .i64 (fs.to : Int), .bool (!h.flip), .int .i64 h.hash, .slice ao3 nn cc3], .slice qo fs.q.length qc, .bool true]) (by simp [results, Tryz.results106, go_sem, r0, r1, r2, r3, r4, r5, r6, r7]) rfl ⟨.inr ⟨_, _, fs, l2, rfl, by rw [hRLe.out]; exact HF, SF, hfull, by rw [hRLe.out]; exact PL, IR_of_owns' Q9, i, hI.out, hfs.out⟩, B9⟩
                          · refine o_skip 5 (w' := w9) rfl rfl (by rfl) (exec_storeB _ _ rfl _ _ rfl rfl RUN) (.inr hs9) ?_
                            refine Disk.z_run 4 225 (w' := w9) (v := .slice qo fs.q.length qc) rfl rfl (by kernel_rfl) (by rfl) (by obtain ⟨_, s8⟩ := hs9; go_simp; first | done | with_reducible rfl) (.inr hs9) ?_
                            simp only [List.setIfInBounds_toArray, List.set_cons_zero, List.set_cons_succ]
                            refine Disk.z_take 6 3 (v := .slice qo fs.q.length qc) rfl rfl (by kernel_rfl) (by kernel_rfl) (by kernel_rfl) (by kernel_rfl) (by rfl) hs9 (fun W' hSw => (by
                              obtain ⟨⟨s0, s1, s2, s3, s4, s5, s6, s7⟩, s8⟩ := hSw
                              go_simp; first | done | with_reducible rfl)) ?_
                            simp only [List.setIfInBounds_toArray, List.set_cons_zero, List.set_cons_succ]
                            refine Disk.z_take 7 4 (v := .bool true) rfl rfl (by kernel_rfl) (by kernel_rfl) (by kernel_rfl) (by kernel_rfl) (by rfl) hs9 (fun W' hSw => (by
                              obtain ⟨⟨s0, s1, s2, s3, s4, s5, s6, s7⟩, s8⟩ := hSw
                              go_simp; first | done | with_reducible rfl)) ?_
                            simp only [List.setIfInBounds_toArray, List.set_cons_zero, List.set_cons_succ]
                            refine Disk.z_done (by kernel_rfl) ?_ _
                            have r0 : w9.cell? ⟨w.heap.size + 1, 0, none⟩ = some (.slice (some ⟨g1, 0, none⟩) 3200 d1) := F9.cell (i := 0) (by omega)
                            have r1 : w9.cell? ⟨w.heap.size + 1, 1, none⟩ = some (.slice (some ⟨g2, 0, none⟩) h.roots.length d2) := F9.cell (i := 1) (by omega)
                            have r2 : w9.cell? ⟨w.heap.size + 1, 2, none⟩ = some (.int .i64 (fs.old : Int)) := F9.cell (i := 2) (by omega)
                            have r3 : w9.cell? ⟨w.heap.size + 1, 3, none⟩ = some (.int .i64 2000) := F9.cell (i := 3) (by omega)
                            have r4 : w9.cell? ⟨w.heap.size + 1, 4, none⟩ = some (.int .i64 (fs.to : Int)) := F9.cell (i := 4) (by omega)
                            have r5 : w9.cell? ⟨w.heap.size + 1, 5, none⟩ = some (.bool (!h.flip)) := F9.cell (i := 5) (by omega)
                            have r6 : w9.cell? ⟨w.heap.size + 1, 6, none⟩ = some (.int .i64 h.hash) := F9.cell (i := 6) (by omega)
                            have r7 : w9.cell? ⟨w.heap.size + 1, 7, none⟩ = some (.slice ao3 nn cc3) := F9.cell (i := 7) (by omega)
                            go_wp2
                            exact bodyPost_ret (v := .tuple #[.agg #[.slice (some ⟨g1, 0, none⟩) 3200 d1, .slice (some ⟨g2, 0, none⟩) h.roots.length d2, .int .i64 (fs.old : Int), .int .i64 2000, .int .i64 (fs.to : Int), .bool (!h.flip), .int .i64 h.hash, .slice ao3 nn cc3], .slice qo fs.q.length qc, .bool true]) (by simp [results, Tryz.results106, go_sem, r0, r1, r2, r3, r4, r5, r6, r7]) rfl ⟨.inr ⟨_, _, fs, l2, rfl, by rw [hRLe.out]; exact HF, SF, hfull, by rw [hRLe.out]; exact PL, IR_of_owns' Q9, i, hI.out, hfs.out⟩, B9⟩
                · rw [hfull] at k12
                  have SZ := S2.later (bel_one wr (.cells #[] 2))
                  obtain ⟨fr, FR⟩ := SZ.res
                  have sbz := SZ.bel.size
                  have OKC : (#[.slice none 0 0, .slice none 0 0, .int .i64 0, .int .i64 0, .int .i64 0, .bool false, .int .i64 0, .slice none 0 0] : Array Value).all (·.oneCell') = true := by simp [Value.oneCell']
                  have BF : ∀ w9, (wr.alloc (.cells #[] 2)).grownBy w9 (some (w.heap.size + 1)) → Below w.heap.size w w9 := fun w9 G => Below.grown SZ.bel G SZ.bel.size (fun q hq => by cases hq; omega)
                  clear kw r3 iqv k0 k1 k2 k3 k4 k5 k6 k7 SZ S2 sbz
                  go_wp2_with ((with_reducible refine store_box _ ?_ (.tmp 2) (.tmp 178) 26 ?_ 26 (w.heap.size + 1) 8 #[.slice none 0 0, .slice none 0 0, .int .i64 0, .int .i64 0, .int .i64 0, .bool false, .int .i64 0, .slice none 0 0] fr ?_ ?_ FR ?_ ?_ OKC ?_); rfl; rfl; rfl; rfl; rfl; kernel_rfl; intro w9 F9 G9; have r0 : w9.cell? ⟨w.heap.size + 1, 0, none⟩ = some (.slice none 0 0) := F9.cell (i := 0) (by omega); have r1 : w9.cell? ⟨w.heap.size + 1, 1, none⟩ = some (.slice none 0 0) := F9.cell (i := 1) (by omega); have r2 : w9.cell? ⟨w.heap.size + 1, 2, none⟩ = some (.int .i64 0) := F9.cell (i := 2) (by omega); have r3 : w9.cell? ⟨w.heap.size + 1, 3, none⟩ = some (.int .i64 0) := F9.cell (i := 3) (by omega); have r4 : w9.cell? ⟨w.heap.size + 1, 4, none⟩ = some (.int .i64 0) := F9.cell (i := 4) (by omega); have r5 : w9.cell? ⟨w.heap.size + 1, 5, none⟩ = some (.bool false) := F9.cell (i := 5) (by omega); have r6 : w9.cell? ⟨w.heap.size + 1, 6, none⟩ = some (.int .i64 0) := F9.cell (i := 6) (by omega); have r7 : w9.cell? ⟨w.heap.size + 1, 7, none⟩ = some (.slice none 0 0) := F9.cell (i := 7) (by omega))
                  exact bodyPost_ret (v := .tuple #[.agg #[.slice none 0 0, .slice none 0 0, .int .i64 0, .int .i64 0, .int .i64 0, .bool false, .int .i64 0, .slice none 0 0], .slice (some ⟨wr.heap.size, 0, none⟩) 0 0, .bool false]) (by simp [results, Tryz.results106, go_sem, r0, r1, r2, r3, r4, r5, r6, r7]) rfl ⟨.inl ⟨_, ⟨_, rfl⟩, zero_hm _ _, i, by rw [hfs.out]; exact hI.out, by rw [hfs.out]; exact hfull⟩, BF w9 G9⟩

end Go.Proofs.YtklafifiphbibaaGreat
