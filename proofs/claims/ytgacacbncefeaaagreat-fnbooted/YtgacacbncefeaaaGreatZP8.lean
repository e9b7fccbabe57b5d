import Derived.Test.YtgacacbncefeaaaGreatZP7
import Derived.Test.YtgacacbncefeaaaGreatZFPlain
import Derived.Test.YtgacacbncefeaaaGreatZP6
import Derived.Test.YtgacacbncefeaaaGreatZMINew
/- Heaps held against each other in a law. -/
namespace Go.Proofs.YtgacacbncefeaaaGreat
open Go.RowKit

set_option maxRecDepth 100000 in
set_option maxHeartbeats 1600000 in
theorem likeHeap_any (v u : Value) (h : Hp) (w : World) (hv : HR w v h) (hu : HR w u h) (l1 : h.words.length ≤ 10000000000000) (l2 : h.roots.length ≤ 10000000000000) (l3 : h.kept.length ≤ 10000000000000) :
    Calls Tryz.prog 42 #[v, u] w fun e w' => e = .returned (.bool true) ∧ Below w.heap.size w w' := by
  obtain ⟨v1, v2, v3, rfl, a1, a2, a3⟩ := hv
  obtain ⟨u1, u2, u3, rfl, b1, b2, b3⟩ := hu
  have hb0 : Below w.heap.size w ((w.alloc (.cells #[v1, v2, .int .i64 h.old, .int .i64 h.eden, .int .i64 h.surv, .bool h.flip, .int .i64 h.hash, v3] 28)).alloc (.cells #[u1, u2, .int .i64 h.old, .int .i64 h.eden, .int .i64 h.surv, .bool h.flip, .int .i64 h.hash, u3] 28)) := bel_after (bel_one _ _) (bel_one _ _)
  have X0 := (Bx.new w v1 v2 v3 h 28).later (bel_one _ (.cells #[u1, u2, .int .i64 h.old, .int .i64 h.eden, .int .i64 h.surv, .bool h.flip, .int .i64 h.hash, u3] 28))
  have Y0 : Bx ((w.alloc (.cells #[v1, v2, .int .i64 h.old, .int .i64 h.eden, .int .i64 h.surv, .bool h.flip, .int .i64 h.hash, v3] 28)).alloc (.cells #[u1, u2, .int .i64 h.old, .int .i64 h.eden, .int .i64 h.surv, .bool h.flip, .int .i64 h.hash, u3] 28)) (w.heap.size + 1) u1 u2 u3 h := by
    have q := Bx.new (w.alloc (.cells #[v1, v2, .int .i64 h.old, .int .i64 h.eden, .int .i64 h.surv, .bool h.flip, .int .i64 h.hash, v3] 28)) u1 u2 u3 h 28
    rwa [World.size_alloc] at q
  have E1 := likeInts_any v1 u1 h.words _ (a1.later hb0) (b1.later hb0) (by omega)
  go_enter Tryz.func42, Tryz.ntmps42
  go_wp2_with fail
  refine E1.mono ?_
  rintro e w1 ⟨rfl, hb1⟩
  have hbw1 := bel_after hb0 hb1
  have X1 := X0.later hb1
  have Y1 := Y0.later hb1
  obtain ⟨x0, x1, x2, x3, x4, x5, x6, x7⟩ := id X1
  obtain ⟨y0, y1, y2, y3, y4, y5, y6, y7⟩ := id Y1
  have E2 := likeInts_any v2 u2 h.roots _ (a2.later hbw1) (b2.later hbw1) (by omega)
  clear E1 X0 Y0
  go_wp2_with fail
  refine E2.mono ?_
  rintro e w2 ⟨rfl, hb2⟩
  have hbw2 := bel_after hbw1 hb2
  have X2 := X1.later hb2
  have Y2 := Y1.later hb2
  clear x0 x1 x2 x3 x4 x5 x6 x7 y0 y1 y2 y3 y4 y5 y6 y7
  obtain ⟨x0, x1, x2, x3, x4, x5, x6, x7⟩ := id X2
  obtain ⟨y0, y1, y2, y3, y4, y5, y6, y7⟩ := id Y2
  have E3 := likeInts_any v3 u3 h.kept _ (a3.later hbw2) (b3.later hbw2) (by omega)
  clear E2 X1 Y1
  go_wp2_with fail
  refine E3.mono ?_
  rintro e w3 ⟨rfl, hb3⟩
  go_wp2
  go_ret
  exact ⟨rfl, bel_after hbw2 hb3⟩

/-- The shape of a heap that is owned. -/
theorem HN.sh {B : Nat} {w : World} {v : Value} {h : Hp} (k : HN B w v h) : ∃ a1 c1 a2 c2 a3 c3, v = .agg #[.slice a1 h.words.length c1, .slice a2 h.roots.length c2, .int .i64 h.old, .int .i64 h.eden, .int .i64 h.surv, .bool h.flip, .int .i64 h.hash, .slice a3 h.kept.length c3] ∧
    IR w (.slice a1 h.words.length c1) h.words ∧ IR w (.slice a2 h.roots.length c2) h.roots ∧ IR w (.slice a3 h.kept.length c3) h.kept := by
  obtain ⟨v1, v2, v3, e, os, ir, rest⟩ := k.ex
  obtain ⟨a1, c1, rfl, _⟩ := IRs ir.1
  obtain ⟨a2, c2, rfl, _⟩ := IRs ir.2.1
  obtain ⟨a3, c3, rfl, _⟩ := IRs ir.2.2
  exact ⟨a1, c1, a2, c2, a3, c3, e, ir⟩
/-- The cell of a list that is read. -/
theorem IR.at {w : World} {a : Option Addr} {n c : Nat} {l : List Int} (h : IR w (.slice a n c) l) {k : Nat} (hk : k < l.length) : ∃ b o, a = some ⟨b, o, none⟩ ∧ w.cell? ⟨b, o + k, none⟩ = some (.int .i64 (l.getD k 0)) := by
  obtain ⟨ao, cap, e, _, hc⟩ := h
  simp only [Value.slice.injEq] at e
  obtain ⟨rfl, rfl, rfl⟩ := e
  exact hc k hk

end Go.Proofs.YtgacacbncefeaaaGreat

/- Machines held against each other in a law: likeVm. -/
namespace Go.Proofs.YtgacacbncefeaaaGreat
open Go.RowKit

set_option maxRecDepth 100000 in
set_option maxHeartbeats 3200000 in
theorem likeVm_any (v u : Value) (m : Mp) (w : World) (hv : VR w v m) (hu : VR w u m) (hs : smM m 1000000000) :
    Calls Tryz.prog 11 #[v, u] w fun e w' => e = .returned (.bool true) ∧ Below w.heap.size w w' := by
  obtain ⟨v1, v2, v3, vp, vo, rfl, i1, i2, i3, ip, io⟩ := hv
  obtain ⟨u1, u2, u3, up, uo, rfl, j1, j2, j3, jp, jo⟩ := hu
  obtain ⟨s1, s2, s3, s4, s5⟩ := hs
  have hb0 : Below w.heap.size w ((w.alloc (.cells #[v1, v2, .int .i64 m.h.old, .int .i64 m.h.eden, .int .i64 m.h.surv, .bool m.h.flip, .int .i64 m.h.hash, v3, vp, .int .i64 m.pc, vo, .int .i64 m.st] 30)).alloc (.cells #[u1, u2, .int .i64 m.h.old, .int .i64 m.h.eden, .int .i64 m.h.surv, .bool m.h.flip, .int .i64 m.h.hash, u3, up, .int .i64 m.pc, uo, .int .i64 m.st] 30)) := bel_after (bel_one _ _) (bel_one _ _)
  have B0 : Bk ((w.alloc (.cells #[v1, v2, .int .i64 m.h.old, .int .i64 m.h.eden, .int .i64 m.h.surv, .bool m.h.flip, .int .i64 m.h.hash, v3, vp, .int .i64 m.pc, vo, .int .i64 m.st] 30)).alloc (.cells #[u1, u2, .int .i64 m.h.old, .int .i64 m.h.eden, .int .i64 m.h.surv, .bool m.h.flip, .int .i64 m.h.hash, u3, up, .int .i64 m.pc, uo, .int .i64 m.st] 30)) w.heap.size #[v1, v2, .int .i64 m.h.old, .int .i64 m.h.eden, .int .i64 m.h.surv, .bool m.h.flip, .int .i64 m.h.hash, v3, vp, .int .i64 m.pc, vo, .int .i64 m.st] 30 := (Bk.new w #[v1, v2, .int .i64 m.h.old, .int .i64 m.h.eden, .int .i64 m.h.surv, .bool m.h.flip, .int .i64 m.h.hash, v3, vp, .int .i64 m.pc, vo, .int .i64 m.st] 30).alloc _
  have C0 : Bk ((w.alloc (.cells #[v1, v2, .int .i64 m.h.old, .int .i64 m.h.eden, .int .i64 m.h.surv, .bool m.h.flip, .int .i64 m.h.hash, v3, vp, .int .i64 m.pc, vo, .int .i64 m.st] 30)).alloc (.cells #[u1, u2, .int .i64 m.h.old, .int .i64 m.h.eden, .int .i64 m.h.surv, .bool m.h.flip, .int .i64 m.h.hash, u3, up, .int .i64 m.pc, uo, .int .i64 m.st] 30)) (w.heap.size + 1) #[u1, u2, .int .i64 m.h.old, .int .i64 m.h.eden, .int .i64 m.h.surv, .bool m.h.flip, .int .i64 m.h.hash, u3, up, .int .i64 m.pc, uo, .int .i64 m.st] 30 := by
    have q := Bk.new (w.alloc (.cells #[v1, v2, .int .i64 m.h.old, .int .i64 m.h.eden, .int .i64 m.h.surv, .bool m.h.flip, .int .i64 m.h.hash, v3, vp, .int .i64 m.pc, vo, .int .i64 m.st] 30)) #[u1, u2, .int .i64 m.h.old, .int .i64 m.h.eden, .int .i64 m.h.surv, .bool m.h.flip, .int .i64 m.h.hash, u3, up, .int .i64 m.pc, uo, .int .i64 m.st] 30
    rw [World.size_alloc] at q
    exact q
  obtain ⟨pa, pc, rfl, hpc⟩ := CRs ip
  obtain ⟨qa, qc, rfl, hqc⟩ := CRs jp
  have x8 := B0.cell 8 (.slice pa m.prog.length pc) rfl
  have y8 := C0.cell 8 (.slice qa m.prog.length qc) rfl
  have nn : ((m.prog.length : Int) != (m.prog.length : Int)) = false := by simp
  have hmx : Tryz.prog.follows .mixedOrders = true := by kernel_rfl
  go_enter Tryz.func11, Tryz.ntmps11
  go_wp2
  go_loopw [5] (fun iv wr => ∃ i : Nat, iv = .int .i64 i ∧ i ≤ m.prog.length ∧ Below w.heap.size w wr ∧ Bk wr (w.heap.size) #[v1, v2, .int .i64 m.h.old, .int .i64 m.h.eden, .int .i64 m.h.surv, .bool m.h.flip, .int .i64 m.h.hash, v3, .slice pa m.prog.length pc, .int .i64 m.pc, vo, .int .i64 m.st] 30 ∧ Bk wr (w.heap.size + 1) #[u1, u2, .int .i64 m.h.old, .int .i64 m.h.eden, .int .i64 m.h.surv, .bool m.h.flip, .int .i64 m.h.hash, u3, .slice qa m.prog.length qc, .int .i64 m.pc, uo, .int .i64 m.st] 30) (fun iv _ => m.prog.length - (intOf iv).toNat)
  case atStart => exact ⟨0, rfl, by omega, hb0, B0, C0⟩
  case round =>
    clear hb0 B0 C0 x8 y8
    obtain ⟨i, rfl, hi, hb, B, C⟩ := hrel
    have x8 := B.cell 8 (.slice pa m.prog.length pc) rfl
    have y8 := C.cell 8 (.slice qa m.prog.length qc) rfl
    by_cases hlt : i < m.prog.length
    · have hli : (i : Int) < (m.prog.length : Int) := by omega
      have e0 : decide ((i : Int) < (m.prog.length : Int)) = true := decide_eq_true hli
      obtain ⟨ao, cap, e1, _, hc⟩ := ip.later hb
      simp only [Value.slice.injEq] at e1
      obtain ⟨rfl, -, rfl⟩ := e1
      obtain ⟨b1, q1, rfl, c0, c1⟩ := hc i hlt
      obtain ⟨ao, cap, e1, _, hd⟩ := jp.later hb
      simp only [Value.slice.injEq] at e1
      obtain ⟨rfl, -, rfl⟩ := e1
      obtain ⟨b2, q2, rfl, d0, d1⟩ := hd i hlt
      have HB : Hid (Below w.heap.size w wr) := hb
      have HBB : Hid _ := B
      have HCC : Hid _ := C
      clear hc hd ip jp hb B C
      go_wp2_with fail
      refine Disk.z_plain 99 (fun W' => W'.cell? ⟨w.heap.size, 8, none⟩ = some (.slice (some ⟨b1, q1, none⟩) m.prog.length pc) ∧ W'.cell? ⟨w.heap.size + 1, 8, none⟩ = some (.slice (some ⟨b2, q2, none⟩) m.prog.length qc) ∧ W'.cell? ⟨b1, q1 + i * 2, none⟩ = some (.int .i64 (m.prog.getD i cd0).1) ∧ W'.cell? ⟨b1, q1 + i * 2 + 1, none⟩ = some (.int .i64 (m.prog.getD i cd0).2) ∧ W'.cell? ⟨b2, q2 + i * 2, none⟩ = some (.int .i64 (m.prog.getD i cd0).1) ∧ W'.cell? ⟨b2, q2 + i * 2 + 1, none⟩ = some (.int .i64 (m.prog.getD i cd0).2)) hmx ⟨x8, y8, c0, c1, d0, d1⟩ (fun hs => ?_)
      generalize (m.prog.getD i cd0).1 = p1 at *
      generalize (m.prog.getD i cd0).2 = p2 at *
      refine Disk.z_take 0 20 (v := .pointer (some ⟨w.heap.size, 8, none⟩)) rfl rfl (by kernel_rfl) (by kernel_rfl) (by kernel_rfl) (by kernel_rfl) (by rfl) hs (fun W' hSw => (by
        obtain ⟨s0, s1, s2, s3, s4, s5⟩ := hSw
        go_simp; first | done | with_reducible rfl)) ?_
      simp only [List.setIfInBounds_toArray, List.set_cons_zero, List.set_cons_succ]
      refine Disk.z_take 1 21 (v := .slice (some ⟨b1, q1, none⟩) m.prog.length pc) rfl rfl (by kernel_rfl) (by kernel_rfl) (by kernel_rfl) (by kernel_rfl) (by rfl) hs (fun W' hSw => (by
        obtain ⟨s0, s1, s2, s3, s4, s5⟩ := hSw
        go_simp; first | done | with_reducible rfl)) ?_
      simp only [List.setIfInBounds_toArray, List.set_cons_zero, List.set_cons_succ]
      refine Disk.z_take 2 22 (v := .int .i64 (i : Int)) rfl rfl (by kernel_rfl) (by kernel_rfl) (by kernel_rfl) (by kernel_rfl) (by rfl) hs (fun W' hSw => (by
        obtain ⟨s0, s1, s2, s3, s4, s5⟩ := hSw
        go_simp; first | done | with_reducible rfl)) ?_
      simp only [List.setIfInBounds_toArray, List.set_cons_zero, List.set_cons_succ]
      refine Disk.z_take 3 23 (v := .pointer (some ⟨b1, q1 + i * 2, none⟩)) rfl rfl (by kernel_rfl) (by kernel_rfl) (by kernel_rfl) (by kernel_rfl) (by rfl) hs (fun W' hSw => (by
        obtain ⟨s0, s1, s2, s3, s4, s5⟩ := hSw
        go_simp; first | done | with_reducible rfl)) ?_
      simp only [List.setIfInBounds_toArray, List.set_cons_zero, List.set_cons_succ]
      refine Disk.z_take 4 24 (v := .agg #[.int .i64 p1, .int .i64 p2]) rfl rfl (by kernel_rfl) (by kernel_rfl) (by kernel_rfl) (by kernel_rfl) (by rfl) hs (fun W' hSw => (by
        obtain ⟨s0, s1, s2, s3, s4, s5⟩ := hSw
        go_simp; first | done | with_reducible rfl)) ?_
      simp only [List.setIfInBounds_toArray, List.set_cons_zero, List.set_cons_succ]
      refine Disk.z_take 5 25 (v := .pointer (some ⟨w.heap.size + 1, 8, none⟩)) rfl rfl (by kernel_rfl) (by kernel_rfl) (by kernel_rfl) (by kernel_rfl) (by rfl) hs (fun W' hSw => (by
        obtain ⟨s0, s1, s2, s3, s4, s5⟩ := hSw
        go_simp; first | done | with_reducible rfl)) ?_
      simp only [List.setIfInBounds_toArray, List.set_cons_zero, List.set_cons_succ]
      refine Disk.z_take 6 26 (v := .slice (some ⟨b2, q2, none⟩) m.prog.length qc) rfl rfl (by kernel_rfl) (by kernel_rfl) (by kernel_rfl) (by kernel_rfl) (by rfl) hs (fun W' hSw => (by
        obtain ⟨s0, s1, s2, s3, s4, s5⟩ := hSw
        go_simp; first | done | with_reducible rfl)) ?_
      simp only [List.setIfInBounds_toArray, List.set_cons_zero, List.set_cons_succ]
      refine Disk.z_take 7 27 (v := .int .i64 (i : Int)) rfl rfl (by kernel_rfl) (by kernel_rfl) (by kernel_rfl) (by kernel_rfl) (by rfl) hs (fun W' hSw => (by
        obtain ⟨s0, s1, s2, s3, s4, s5⟩ := hSw
        go_simp; first | done | with_reducible rfl)) ?_
      simp only [List.setIfInBounds_toArray, List.set_cons_zero, List.set_cons_succ]
      refine Disk.z_take 8 28 (v := .pointer (some ⟨b2, q2 + i * 2, none⟩)) rfl rfl (by kernel_rfl) (by kernel_rfl) (by kernel_rfl) (by kernel_rfl) (by rfl) hs (fun W' hSw => (by
        obtain ⟨s0, s1, s2, s3, s4, s5⟩ := hSw
        go_simp; first | done | with_reducible rfl)) ?_
      simp only [List.setIfInBounds_toArray, List.set_cons_zero, List.set_cons_succ]
      refine Disk.z_take 9 29 (v := .agg #[.int .i64 p1, .int .i64 p2]) rfl rfl (by kernel_rfl) (by kernel_rfl) (by kernel_rfl) (by kernel_rfl) (by rfl) hs (fun W' hSw => (by
        obtain ⟨s0, s1, s2, s3, s4, s5⟩ := hSw
        go_simp; first | done | with_reducible rfl)) ?_
      simp only [List.setIfInBounds_toArray, List.set_cons_zero, List.set_cons_succ]
      refine Disk.z_take 10 30 (v := .bool false) rfl rfl (by kernel_rfl) (by kernel_rfl) (by kernel_rfl) (by kernel_rfl) (by rfl) hs (fun W' hSw => (by
        obtain ⟨s0, s1, s2, s3, s4, s5⟩ := hSw
        go_simp; first | done | with_reducible rfl)) ?_
      simp only [List.setIfInBounds_toArray, List.set_cons_zero, List.set_cons_succ]
      refine Disk.z_done (by kernel_rfl) ?_ _
      clear hs x8 y8 c0 c1 d0 d1
      go_wp2
      exact ⟨⟨i + 1, by go_num, by omega, bel_after HB.out (Below.refl _ _).drew, HBB.out, HCC.out⟩, by simp [intOf]; omega⟩
    · have e0 : decide ((i : Int) < (m.prog.length : Int)) = false := by simp; omega
      have x0 := B.cell 0 (v1) rfl
      have x1 := B.cell 1 (v2) rfl
      have x2 := B.cell 2 (.int .i64 m.h.old) rfl
      have x3 := B.cell 3 (.int .i64 m.h.eden) rfl
      have x4 := B.cell 4 (.int .i64 m.h.surv) rfl
      have x5 := B.cell 5 (.bool m.h.flip) rfl
      have x6 := B.cell 6 (.int .i64 m.h.hash) rfl
      have x7 := B.cell 7 (v3) rfl
      have y0 := C.cell 0 (u1) rfl
      have y1 := C.cell 1 (u2) rfl
      have y2 := C.cell 2 (.int .i64 m.h.old) rfl
      have y3 := C.cell 3 (.int .i64 m.h.eden) rfl
      have y4 := C.cell 4 (.int .i64 m.h.surv) rfl
      have y5 := C.cell 5 (.bool m.h.flip) rfl
      have y6 := C.cell 6 (.int .i64 m.h.hash) rfl
      have y7 := C.cell 7 (u3) rfl
      have EH := likeHeap_any (.agg #[v1, v2, .int .i64 m.h.old, .int .i64 m.h.eden, .int .i64 m.h.surv, .bool m.h.flip, .int .i64 m.h.hash, v3]) (.agg #[u1, u2, .int .i64 m.h.old, .int .i64 m.h.eden, .int .i64 m.h.surv, .bool m.h.flip, .int .i64 m.h.hash, u3]) m.h wr ⟨_, _, _, rfl, i1.later hb, i2.later hb, i3.later hb⟩ ⟨_, _, _, rfl, j1.later hb, j2.later hb, j3.later hb⟩ (by omega) (by omega) (by omega)
      go_wp2_with fail
      refine EH.mono ?_
      clear EH x0 y0 x1 y1 x2 y2 x3 y3 x4 y4 x5 y5 x6 y6 x7 y7
      rintro e w2 ⟨rfl, hb2⟩
      have B2 := B.later hb2
      have C2 := C.later hb2
      have bw2 := bel_after hb hb2
      have x9 := B2.cell 9 (.int .i64 m.pc) rfl
      have x10 := B2.cell 10 (vo) rfl
      have y9 := C2.cell 9 (.int .i64 m.pc) rfl
      have y10 := C2.cell 10 (uo) rfl
      have EI := likeInts_any vo uo m.out w2 (io.later bw2) (jo.later bw2) (by omega)
      have np : (m.pc == m.pc) = true := by simp
      have ns : (m.st == m.st) = true := by simp
      go_wp2_with fail
      refine EI.mono ?_
      clear EI x9 y9 x10 y10
      rintro e w3 ⟨rfl, hb3⟩
      have x11 := (B2.later hb3).cell 11 (.int .i64 m.st) rfl
      have y11 := (C2.later hb3).cell 11 (.int .i64 m.st) rfl
      have bw3 : Hid _ := bel_after bw2 hb3
      go_wp2
      go_ret
      exact ⟨rfl, bw3.out⟩

end Go.Proofs.YtgacacbncefeaaaGreat

/- A heap with a new object is right. -/
namespace Go.Proofs.YtgacacbncefeaaaGreat
open Go.RowKit

theorem fit_more {l l' : List Nat} (h : ∀ a, a ∈ l → a ∈ l') {x : Int} (k : fitB l x = true) : fitB l' x = true := by
  unfold fitB at k ⊢
  rw [Bool.or_eq_true, Bool.and_eq_true] at k ⊢
  rcases k with k | ⟨k1, k2⟩
  · exact .inl k
  · refine .inr ⟨k1, ?_⟩
    rw [List.contains_iff_mem] at k2 ⊢
    obtain ⟨a, ha, e⟩ := List.mem_map.1 k2
    exact List.mem_map.2 ⟨a, h a ha, e⟩
theorem fit_zero (l : List Nat) : fitB l 0 = true := by
  unfold fitB
  rw [show kindW 0 = 1 from by decide]
  rfl
theorem hash_inj {W : List Int} {l : List Nat} (h : (hashesOf W l).Nodup) {a b : Nat} (ha : a ∈ l) (hb : b ∈ l) (e : gw W (a + 2) = gw W (b + 2)) : a = b := by
  unfold hashesOf at h
  rw [List.nodup_iff_pairwise_ne, List.pairwise_map, List.pairwise_iff_getElem] at h
  obtain ⟨i, hi, ei⟩ := List.getElem_of_mem ha
  obtain ⟨j, hj, ej⟩ := List.getElem_of_mem hb
  rcases Nat.lt_trichotomy i j with q | q | q
  · have := h i j hi hj q
    rw [ei, ej] at this
    exact absurd e this
  · subst q
    exact ei.symm.trans ej
  · have := h j i hj hi q
    rw [ei, ej] at this
    exact absurd e.symm this
theorem new_right {h : Hp} {k n : Int} (q : newB h k n = true) : ∃ l', RightAt (newHp h k n) l' ∧ h.eden.toNat ∈ l' ∧ (∀ a, a ∈ obC h → a ∈ l') ∧ l'.length = (obC h).length + 1 := by
  unfold newB at q
  rw [Bool.and_eq_true, Bool.and_eq_true, Bool.and_eq_true, Bool.and_eq_true] at q
  obtain ⟨hk, q1, q2, q3, q4⟩ := q
  have R := c_right hk
  have k1 := of_decide_eq_true q1
  have k2 := of_decide_eq_true q2
  have k4 := of_decide_eq_true q4
  have k3 : ¬ h.hash = 1000000000 := by simpa using q3
  have ok := ok_len hk
  have nz := fun i => ok_nought hk i
  obtain ⟨m, hm⟩ : ∃ m : Nat, h.eden = m := ⟨h.eden.toNat, by omega⟩
  obtain ⟨p, z, hh, h1, h2, r1, r2, f, kp⟩ := id R
  have so := ((right_iff R.1.1).1 R).1.sorted
  have G : ∀ j, gw (newHp h k n).words j = if j = m + 2 then h.hash else if j = m + 1 then k else if j = m then n else gw h.words j := fun j => by
    show gw (((h.words.set h.eden.toNat n).set (h.eden.toNat + 1) k).set (h.eden.toNat + 2) h.hash) j = _
    rw [hm, Int.toNat_natCast, gw_set _ _ _ _ (by simp; omega), gw_set _ _ _ _ (by simp; omega), gw_set _ _ _ _ (by omega)]
  have O : ∀ j, (j < m ∨ m + 3 ≤ j) → gw (newHp h k n).words j = gw h.words j := fun j hj => by
    rw [G, if_neg (by omega), if_neg (by omega), if_neg (by omega)]
  obtain ⟨_, p0, p1, p2, n0, n1, n2, g0, g1, g2, el⟩ := p
  rw [hm, Int.toNat_natCast] at g1
  have hs : 2600 ≤ survB h.flip := by unfold survB; split <;> omega
  have G0 := goes_same (V := (newHp h k n).words) g0 (fun a ha j hj => O _ (.inl (by have := goes_in g0 ha; omega)))
  have G1 := goes_same (V := (newHp h k n).words) g1 (fun a ha j hj => O _ (.inl (by have := goes_in g1 ha; omega)))
  have G2 := goes_same (V := (newHp h k n).words) g2 (fun a ha j hj => O _ (.inr (by have := goes_in g2 ha; omega)))
  have em : it (newHp h k n).words 2000 n1 = m := G1.1.1
  have gm : gw (newHp h k n).words m = n := by rw [G, if_neg (by omega), if_neg (by omega), if_pos rfl]
  have nxm : nx (newHp h k n).words m = m + 4 + n.toNat := by unfold nx; rw [gm]
  have g3 : gw (newHp h k n).words (m + 3) = 0 := by rw [O _ (.inr (by omega))]; exact nz (m + 3) (by omega) (by omega)
  have E1 : its (newHp h k n).words 2000 (n1 + 1) = its h.words 2000 n1 ++ [m] := by rw [its_succ, em, G1.2]
  have P' : PartsAt (newHp h k n) (its h.words 0 n0 ++ (its h.words 2000 n1 ++ [m]) ++ its h.words (survB h.flip) n2) := by
    refine ⟨by show (((h.words.set _ _).set _ _).set _ _).length = 3200; simp; exact ok.1, p0, ⟨by show 2000 ≤ h.eden + 4 + n; omega, by show h.eden + 4 + n ≤ 2600; omega⟩, p2, n0, n1 + 1, n2, G0.1, ?_, G2.1, ?_⟩
    · show Goes (newHp h k n).words 2000 (h.eden + 4 + n).toNat (n1 + 1)
      refine ⟨?_, fun i hi => ?_⟩
      · show nx _ (it _ 2000 n1) = _
        rw [em, nxm]
        omega
      · rcases Nat.lt_or_ge i n1 with c | c
        · exact G1.1.2 i c
        · obtain rfl : i = n1 := by omega
          rw [em]
          unfold headB
          rw [gm, g3, G, if_neg (by omega), if_pos rfl]
          simp
          omega
    · show _ = its (newHp h k n).words 0 n0 ++ its (newHp h k n).words 2000 (n1 + 1) ++ its (newHp h k n).words (survB h.flip) n2
      rw [G0.2, E1, G2.2]
  have mem : ∀ a, a ∈ its h.words 0 n0 ++ (its h.words 2000 n1 ++ [m]) ++ its h.words (survB h.flip) n2 ↔ a ∈ obC h ∨ a = m := fun a => by
    rw [el]
    simp only [List.mem_append, List.mem_singleton]
    constructor
    · rintro ((q | q | q) | q)
      · exact .inl (.inl (.inl q))
      · exact .inl (.inl (.inr q))
      · exact .inr q
      · exact .inl (.inr q)
    · rintro (((q | q) | q) | q)
      · exact .inl (.inl q)
      · exact .inl (.inr (.inl q))
      · exact .inr q
      · exact .inl (.inr (.inr q))
  have out : ∀ a, a ∈ obC h → nx h.words a ≤ m ∨ m + 3 ≤ a := fun a ha => by
    rw [el, List.mem_append, List.mem_append] at ha
    rcases ha with (ha | ha) | ha
    · have := goes_in g0 ha; omega
    · have := goes_in g1 ha; omega
    · have := goes_in g2 ha; omega
  have cell : ∀ a, a ∈ obC h → ∀ j, a ≤ j → j < nx h.words a → gw (newHp h k n).words j = gw h.words j := fun a ha j j1 j2 => O j (by have := out a ha; omega)
  have nxs : ∀ a, a ∈ obC h → nx (newHp h k n).words a = nx h.words a := fun a ha => by
    have e : nx h.words a = a + 4 + (gw h.words a).toNat := rfl
    unfold nx
    rw [cell a ha a (Nat.le_refl _) (by omega)]
  have hsh : ∀ a, a ∈ obC h → gw (newHp h k n).words (a + 2) = gw h.words (a + 2) := fun a ha => by
    have e : nx h.words a = a + 4 + (gw h.words a).toNat := rfl
    exact cell a ha _ (by omega) (by omega)
  have hsm : gw (newHp h k n).words (m + 2) = h.hash := by rw [G, if_pos rfl]
  have Z' : noughts (newHp h k n) := fun i hi hn => by
    have hn' : ¬ inUse h i := fun u => hn (by
      unfold inUse at u ⊢
      show (i : Int) < h.old ∨ (2000 ≤ i ∧ (i : Int) < h.eden + 4 + n) ∨ (survB h.flip ≤ i ∧ (i : Int) < h.surv)
      omega)
    have hm' : ¬ (m ≤ i ∧ i < m + 3) := fun u => hn (by
      unfold inUse
      show (i : Int) < h.old ∨ (2000 ≤ i ∧ (i : Int) < h.eden + 4 + n) ∨ (survB h.flip ≤ i ∧ (i : Int) < h.surv)
      omega)
    rw [O i (by omega)]
    exact z i hi hn'
  have H1 : ∀ a, a ∈ its h.words 0 n0 ++ (its h.words 2000 n1 ++ [m]) ++ its h.words (survB h.flip) n2 → 1 ≤ gw (newHp h k n).words (a + 2) := fun a ha => by
    rcases (mem a).1 ha with q | rfl
    · rw [hsh a q]; exact h1 a q
    · rw [hsm]; exact hh.1
  have so' := ((laid_iff P'.1).2 ⟨P', Z', H1⟩).sorted
  refine ⟨_, ⟨P', Z', ⟨by show 1 ≤ h.hash + 1; omega, by show h.hash + 1 ≤ 1000000000; omega⟩, H1, ⟨fun a ha => ?_, ?_⟩, r1, fun x hx => fit_more (fun a ha => (mem a).2 (.inl ha)) (r2 x hx), fun a ha => ?_, ?_⟩, by rw [hm, Int.toNat_natCast]; exact (mem m).2 (.inr rfl), fun a ha => (mem a).2 (.inl ha), ?_⟩
  · show gw (newHp h k n).words (a + 2) < h.hash + 1
    rcases (mem a).1 ha with q | rfl
    · rw [hsh a q]; have := h2.1 a q; omega
    · rw [hsm]; omega
  · unfold hashesOf
    rw [List.nodup_iff_pairwise_ne, List.pairwise_map]
    refine List.Pairwise.imp_of_mem (fun {a b} ha hb lt e => ?_) so'
    rcases (mem a).1 ha with qa | rfl <;> rcases (mem b).1 hb with qb | rfl
    · rw [hsh a qa, hsh b qb] at e
      have := hash_inj h2.2 qa qb e
      omega
    · rw [hsh a qa, hsm] at e
      have := h2.1 a qa
      omega
    · rw [hsh b qb, hsm] at e
      have := h2.1 b qb
      omega
    · omega
  · intro j j1 j2
    rcases (mem a).1 ha with q | rfl
    · rw [nxs a q] at j2
      rw [cell a q j (by omega) j2]
      exact fit_more (fun b hb => (mem b).2 (.inl hb)) (f a q j j1 j2)
    · rw [nxm] at j2
      rw [O j (.inr (by omega)), show gw h.words j = 0 from nz j (by omega) (by omega)]
      exact fit_zero _
  · show keptOf (newHp h k n).words _ = h.kept
    rw [← kp]
    have same : ∀ l : List Nat, (∀ a, a ∈ l → a ∈ obC h) → l.filter (fun a => decide (a < 2000) && hasY (newHp h k n).words a) = l.filter (fun a => decide (a < 2000) && hasY h.words a) := fun l hl => by
      refine List.filter_congr fun a ha => ?_
      have qa := hl a ha
      have e : hasY (newHp h k n).words a = hasY h.words a := by
        unfold hasY flds
        have e0 : nx h.words a = a + 4 + (gw h.words a).toNat := rfl
        rw [cell a qa a (Nat.le_refl _) (by omega)]
        congr 1
        refine List.map_congr_left fun i hi => ?_
        rw [List.mem_range] at hi
        exact cell a qa _ (by omega) (by omega)
      rw [e]
    unfold keptOf
    rw [el]
    simp only [List.filter_append]
    rw [same (its h.words 0 n0) (fun a ha => by rw [el]; simp [ha]), same (its h.words 2000 n1) (fun a ha => by rw [el]; simp [ha]), same (its h.words (survB h.flip) n2) (fun a ha => by rw [el]; simp [ha])]
    have : [m].filter (fun a => decide (a < 2000) && hasY (newHp h k n).words a) = [] := by simp; omega
    rw [this, List.append_nil]
  · rw [el]
    simp only [List.length_append, List.length_singleton]
    omega

/-- A new object's address can be a root. -/
theorem add_new {h : Hp} {k n : Int} (q : newB h k n = true) (hr : h.roots.length < 20) : addB (newC h k n) (newW' h k n) = true := by
  obtain ⟨l', R, hm, -, -⟩ := new_right q
  have e1 : newC h k n = newHp h k n := by unfold newC; rw [if_pos q]
  have e2 : newW' h k n = 2 * h.eden + 1 := by unfold newW'; rw [if_pos q]
  obtain ⟨ok, ob⟩ := c_yes R
  rw [e1, e2]
  unfold addB
  rw [ok, ob]
  have q' := q
  unfold newB at q'
  rw [Bool.and_eq_true] at q'
  have o := ok_len q'.1
  have hf : fitB l' (2 * h.eden + 1) = true := by
    have k2 : kindW (2 * h.eden + 1) = 2 := by
      unfold kindW adrB
      rw [if_pos (by omega), if_pos (by simp; omega)]
    unfold fitB
    rw [k2]
    have : (ints l').contains ((2 * h.eden + 1) / 2) = true := by
      rw [List.contains_iff_mem]
      exact List.mem_map.2 ⟨h.eden.toNat, hm, by omega⟩
    rw [this]
    rfl
  rw [hf]
  have : ¬ (newHp h k n).roots.length = 20 := by show ¬ h.roots.length = 20; omega
  simp [this]

end Go.Proofs.YtgacacbncefeaaaGreat

/- A new machine in plain words. -/
namespace Go.Proofs.YtgacacbncefeaaaGreat
open Go.RowKit

noncomputable def nT1 : Hp := newC newH 1 40
noncomputable def nT2 : Hp := newC nT1 2 10
noncomputable def nT3 : Hp := addC nT2 4001
noncomputable def nT4 : Hp := addC nT3 4089

theorem right_roots {h : Hp} {l : List Nat} (k : RightAt h l) (r : List Int) (hr : r.length ≤ 20) (hf : ∀ x, x ∈ r → fitB l x = true) : RightAt { h with roots := r } l := by
  obtain ⟨a, b, c, d, e, _, _, f, g⟩ := k
  exact ⟨a, b, c, d, e, hr, hf, f, g⟩
theorem nq1 : newB newH 1 40 = true := by
  unfold newB
  rw [new_ok]
  decide
theorem nT1_eq : nT1 = newHp newH 1 40 := new_yes nq1
theorem nT1_right : ∃ l, RightAt nT1 l ∧ 2000 ∈ l := by
  obtain ⟨l, R, m, _, _⟩ := new_right nq1
  rw [← nT1_eq] at R
  exact ⟨l, R, m⟩
theorem nT1_num : nT1.eden = 2044 ∧ nT1.hash = 2 ∧ nT1.roots = [] ∧ nT1.kept = [] ∧ nT1.words.length = 3200 := by
  rw [nT1_eq]
  refine ⟨rfl, rfl, rfl, rfl, ?_⟩
  show ((((newW.set _ _).set _ _).set _ _) : List Int).length = 3200
  rw [List.length_set, List.length_set, List.length_set, newW_length]
theorem nW1 : newW' newH 1 40 = 4001 := by
  rw [new_w1 nq1]
  rfl
theorem nq2 : newB nT1 2 10 = true := by
  obtain ⟨l, R, _⟩ := nT1_right
  obtain ⟨e1, e2, _⟩ := nT1_num
  unfold newB
  rw [(c_yes R).1, e1, e2]
  decide
theorem nT2_eq : nT2 = newHp nT1 2 10 := new_yes nq2
theorem nW2 : newW' nT1 2 10 = 4089 := by
  rw [new_w1 nq2, nT1_num.1]
  rfl
theorem nT2_right : ∃ l, RightAt nT2 l ∧ 2000 ∈ l ∧ 2044 ∈ l := by
  obtain ⟨l1, R1, m1⟩ := nT1_right
  obtain ⟨l, R, m, mo, _⟩ := new_right nq2
  rw [← nT2_eq] at R
  rw [nT1_num.1] at m
  refine ⟨l, R, mo 2000 ?_, m⟩
  rw [(c_yes R1).2]
  exact m1
theorem nT2_num : nT2.roots = [] ∧ nT2.kept = [] ∧ nT2.words.length = 3200 := by
  obtain ⟨_, _, e3, e4, e5⟩ := nT1_num
  rw [nT2_eq]
  refine ⟨e3, e4, ?_⟩
  show ((((nT1.words.set _ _).set _ _).set _ _) : List Int).length = 3200
  rw [List.length_set, List.length_set, List.length_set, e5]
theorem fit_at {l : List Nat} {a : Nat} (h : a ∈ l) (ha : a ≤ 3199) : fitB l (2 * (a : Int) + 1) = true := by
  have k2 : kindW (2 * (a : Int) + 1) = 2 := by
    unfold kindW adrB
    rw [if_pos (by omega), if_pos (by simp; omega)]
  unfold fitB
  rw [k2, show (ints l).contains ((2 * (a : Int) + 1) / 2) = true from by
    rw [List.contains_iff_mem]
    exact List.mem_map.2 ⟨a, h, by omega⟩]
  rfl
theorem nq3 : addB nT2 4001 = true := by
  obtain ⟨l, R, m, _⟩ := nT2_right
  unfold addB
  rw [(c_yes R).1, (c_yes R).2, show fitB l 4001 = true from fit_at m (by omega), nT2_num.1]
  rfl
theorem nT3_eq : nT3 = { nT2 with roots := [4001] } := by
  unfold nT3
  rw [add_yes nq3, nT2_num.1]
  rfl
theorem nT3_right : ∃ l, RightAt nT3 l ∧ 2000 ∈ l ∧ 2044 ∈ l := by
  obtain ⟨l, R, m, m2⟩ := nT2_right
  rw [nT3_eq]
  refine ⟨l, right_roots R [4001] (by simp) (fun x hx => ?_), m, m2⟩
  simp at hx
  subst hx
  exact fit_at m (by omega)
theorem nq4 : addB nT3 4089 = true := by
  obtain ⟨l, R, _, m⟩ := nT3_right
  unfold addB
  rw [(c_yes R).1, (c_yes R).2, show fitB l 4089 = true from fit_at m (by omega), nT3_eq]
  rfl
theorem nT4_eq : nT4 = { nT2 with roots := [4001, 4089] } := by
  unfold nT4
  rw [add_yes nq4, nT3_eq]
  rfl
theorem nT4_right : ∃ l, RightAt nT4 l ∧ 2000 ∈ l ∧ 2044 ∈ l := by
  obtain ⟨l, R, m, m2⟩ := nT2_right
  rw [nT4_eq]
  refine ⟨l, right_roots R [4001, 4089] (by simp) (fun x hx => ?_), m, m2⟩
  simp at hx
  rcases hx with rfl | rfl
  · exact fit_at m (by omega)
  · exact fit_at m2 (by omega)
theorem nT_len : (nT1.words.length ≤ 10000 ∧ nT1.roots.length ≤ 10000 ∧ nT1.kept.length ≤ 10000) ∧ (nT2.words.length ≤ 10000 ∧ nT2.roots.length ≤ 10000 ∧ nT2.kept.length ≤ 10000) ∧ (nT3.words.length ≤ 10000 ∧ nT3.roots.length ≤ 10000 ∧ nT3.kept.length ≤ 10000) ∧ (nT4.words.length ≤ 10000 ∧ nT4.roots.length ≤ 10000 ∧ nT4.kept.length ≤ 10000) := by
  obtain ⟨_, _, e3, e4, e5⟩ := nT1_num
  obtain ⟨f3, f4, f5⟩ := nT2_num
  rw [nT3_eq, nT4_eq]
  refine ⟨⟨by omega, by rw [e3]; simp, by rw [e4]; simp⟩, ⟨by omega, by rw [f3]; simp, by rw [f4]; simp⟩, ⟨?_, ?_, ?_⟩, ?_, ?_, ?_⟩
  · show nT2.words.length ≤ _; omega
  · show ([4001] : List Int).length ≤ _; simp
  · show nT2.kept.length ≤ _; rw [f4]; simp
  · show nT2.words.length ≤ _; omega
  · show ([4001, 4089] : List Int).length ≤ _; simp
  · show nT2.kept.length ≤ _; rw [f4]; simp

noncomputable def nvM (pr : List Cd) : Mp := ⟨nT4, pr, 0, [], 0⟩
def zeroM : Mp := ⟨zeroH, [], 0, [], 0⟩
/-- What NewVm answers. -/
noncomputable def nvR (pr : List Cd) : Mp := if progB pr = true then nvM pr else zeroM

end Go.Proofs.YtgacacbncefeaaaGreat
