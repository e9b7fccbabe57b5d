/- CodeOk of the model and of the program; a Code of the laws' package made one of the program's. -/
import Derived.Test.YtgacacbncefeaaaGreatZQBox
import Derived.Test.YtgacacbncefeaaaGreatZDZed2
namespace Go.Proofs.YtgacacbncefeaaaGreat
open Go.RowKit

theorem qret_bool {a b : Bool} (h : a = b) : Ending.returned (.bool a) = .returned (.bool b) := by rw [h]
theorem specCodeOk_any (op n : Int) (w : World) :
    Calls Tryz.prog 71 #[codeV op n] w fun e w' => e = .returned (.bool (cokB op n)) ∧ Below w.heap.size w w' := by
  have eo : opB op = (decide (1 ≤ op) && decide (op ≤ 20)) := Bool.decide_and _ _
  unfold codeV
  cases hb : (decide ((1 : Int) ≤ op) && decide (op ≤ 20))
  · have G : Hid (cokB op n = false) := (by unfold cokB; rw [eo, hb]; rfl : cokB op n = false)
    have G2 : Hid ((decide ((1 : Int) ≤ op) && decide (op ≤ 20)) = false) := hb
    clear eo hb
    go_enter Tryz.func71, Tryz.ntmps71
    go_wp2_with fail
    refine (qIn_any op 1 20 _).mono ?_
    rintro e w1 ⟨rfl, rfl⟩
    rw [G2.out]
    go_wp2
    go_ret
    exact ⟨by rw [G.out]; rfl, qbel _ _⟩
  · have G : Hid (cokB op n = (decide (bndL op ≤ n) && decide (n ≤ bndH op))) := (by unfold cokB; rw [eo, hb]; rfl : cokB op n = _)
    have G2 : Hid ((decide ((1 : Int) ≤ op) && decide (op ≤ 20)) = true) := hb
    clear eo hb
    have LB := l12Bounds_any op
    generalize bndL op = lo at LB G
    generalize bndH op = hi at LB G
    generalize hasN op = hs at LB
    go_enter Tryz.func71, Tryz.ntmps71
    go_wp2_with fail
    refine (qIn_any op 1 20 _).mono ?_
    rintro e w1 ⟨rfl, rfl⟩
    rw [G2.out]
    go_wp2_with fail
    refine (LB _).mono ?_
    rintro e w1 ⟨rfl, rfl⟩
    go_wp2_with fail
    refine (qIn_any n lo hi _).mono ?_
    rintro e w1 ⟨rfl, rfl⟩
    go_wp2
    go_ret
    exact ⟨by rw [G.out]; rfl, qbel _ _⟩

set_option maxRecDepth 100000 in
set_option maxHeartbeats 4000000 in
theorem ruleFor_any (op n : Int) (w : World) :
    Calls Tryz.prog 92 #[codeV op n] w fun e w' => e = .returned (.tuple #[ruleV op, .bool (cokB op n)]) ∧ Below w.heap.size w w' := by
  have hmx : Tryz.prog.follows .mixedOrders = true := by kernel_rfl
  have R := ruleOf_any op
  have G : Hid (cokB op n = (opB op && (decide (bndL op ≤ n) && decide (n ≤ bndH op)))) := (rfl : cokB op n = _)
  unfold codeV ruleV at *
  generalize bndL op = lo at R G
  generalize bndH op = hi at R G
  generalize hasN op = hs at R
  generalize cokB op n = ck at G
  generalize opB op = ob at R G
  go_enter Tryz.func92, Tryz.ntmps92
  go_wp2_with fail
  refine (R _).mono ?_
  rintro e w1 ⟨rfl, hb1⟩
  have k1 := ((Bk.new w #[.int .i64 op, .int .i64 n] 59).alloc (.cells #[.bool false, .int .i64 0, .int .i64 0] 119)).later hb1
  have k2 := (Bk.new (w.alloc (.cells #[.int .i64 op, .int .i64 n] 59)) #[.bool false, .int .i64 0, .int .i64 0] 119).later hb1
  rw [World.size_alloc] at k2
  have B1 := bel_afterQ (bel_afterQ (qbel w _) (qbel _ _)) hb1
  have k3 := Bk.new w1 #[.bool hs, .int .i64 lo, .int .i64 hi] 119
  have S0 : ((w1.alloc (.cells #[.bool hs, .int .i64 lo, .int .i64 hi] 119)).drew).cell? ⟨w1.heap.size, 0, none⟩ = some (.bool hs) ∧ ((w1.alloc (.cells #[.bool hs, .int .i64 lo, .int .i64 hi] 119)).drew).cell? ⟨w1.heap.size, 1, none⟩ = some (.int .i64 lo) ∧ ((w1.alloc (.cells #[.bool hs, .int .i64 lo, .int .i64 hi] 119)).drew).cell? ⟨w1.heap.size, 2, none⟩ = some (.int .i64 hi) ∧ ((w1.alloc (.cells #[.bool hs, .int .i64 lo, .int .i64 hi] 119)).drew).cell? ⟨w.heap.size, 1, none⟩ = some (.int .i64 n) :=
    ⟨k3.drew.cell 0 _ rfl, k3.drew.cell 1 _ rfl, k3.drew.cell 2 _ rfl, (k1.alloc _).drew.cell 1 _ rfl⟩
  obtain ⟨w9, hrun, k9, hg9, _⟩ := (k2.alloc (.cells #[.bool hs, .int .i64 lo, .int .i64 hi] 119)).drew.store 119 #[.bool hs, .int .i64 lo, .int .i64 hi] rfl (by kernel_rfl) (by kernel_rfl)
  have z1 : some w1.heap.size ≠ some (w.heap.size + 1) := by
    have := k2.lt
    simp
    omega
  have z2 : some w.heap.size ≠ some (w.heap.size + 1) := by simp
  have k39 := k3.drew.off hg9 z1
  have k19 := (k1.alloc _).drew.off hg9 z2
  have hS9 : w9.cell? ⟨w1.heap.size, 0, none⟩ = some (.bool hs) ∧ w9.cell? ⟨w1.heap.size, 1, none⟩ = some (.int .i64 lo) ∧ w9.cell? ⟨w1.heap.size, 2, none⟩ = some (.int .i64 hi) ∧ w9.cell? ⟨w.heap.size, 1, none⟩ = some (.int .i64 n) :=
    ⟨k39.cell 0 _ rfl, k39.cell 1 _ rfl, k39.cell 2 _ rfl, k19.cell 1 _ rfl⟩
  have B9 : Below w.heap.size w w9 := bel_set ((B1.alloc B1.size _).drew) hg9 (by omega)
  have r0 : w9.cell? ⟨w.heap.size + 1, 0, none⟩ = some (.bool hs) := k9.cell 0 _ rfl
  have r1 : w9.cell? ⟨w.heap.size + 1, 1, none⟩ = some (.int .i64 lo) := k9.cell 1 _ rfl
  have r2 : w9.cell? ⟨w.heap.size + 1, 2, none⟩ = some (.int .i64 hi) := k9.cell 2 _ rfl
  clear hb1 k1 k2 R k3 k9 hg9 z1 z2 k39 k19 B1
  go_wp2_with fail
  refine Disk.z_plain 99 (fun W' => W'.cell? ⟨w1.heap.size, 0, none⟩ = some (.bool hs) ∧ W'.cell? ⟨w1.heap.size, 1, none⟩ = some (.int .i64 lo) ∧ W'.cell? ⟨w1.heap.size, 2, none⟩ = some (.int .i64 hi) ∧ W'.cell? ⟨w.heap.size, 1, none⟩ = some (.int .i64 n)) hmx S0 (fun hS => ?_)
  cases ob
  case false =>
    refine Disk.z_take 0 12 (v := .agg #[.bool hs, .int .i64 lo, .int .i64 hi]) rfl rfl (by kernel_rfl) (by kernel_rfl) (by kernel_rfl) (by kernel_rfl) (by rfl) hS (fun W' hSw => (by
      obtain ⟨s0, s1, s2, s3⟩ := hSw
      go_simp; first | done | with_reducible rfl)) ?_
    simp only [List.setIfInBounds_toArray, List.set_cons_zero, List.set_cons_succ]
    refine Disk.z_take 1 13 (v := .bool false) rfl rfl (by kernel_rfl) (by kernel_rfl) (by kernel_rfl) (by kernel_rfl) (by rfl) hS (fun W' hSw => (by
      go_simp; first | done | with_reducible rfl)) ?_
    simp only [List.setIfInBounds_toArray, List.set_cons_zero, List.set_cons_succ]
    refine Disk.z_take 2 14 (v := .bool false) rfl rfl (by kernel_rfl) (by kernel_rfl) (by kernel_rfl) (by kernel_rfl) (by rfl) hS (fun W' hSw => (by
      go_simp; first | done | with_reducible rfl)) ?_
    simp only [List.setIfInBounds_toArray, List.set_cons_zero, List.set_cons_succ]
    refine Disk.z_pass 3 15 rfl rfl (by kernel_rfl) (by kernel_rfl) (by kernel_rfl) (by kernel_rfl) (by rfl) hS ?_
    simp only [List.setIfInBounds_toArray, List.set_cons_zero, List.set_cons_succ]
    refine Disk.z_pass 5 17 rfl rfl (by kernel_rfl) (by kernel_rfl) (by kernel_rfl) (by kernel_rfl) (by rfl) hS ?_
    simp only [List.setIfInBounds_toArray, List.set_cons_zero, List.set_cons_succ]
    refine Disk.z_pass 4 16 rfl rfl (by kernel_rfl) (by kernel_rfl) (by kernel_rfl) (by kernel_rfl) (by rfl) hS ?_
    simp only [List.setIfInBounds_toArray, List.set_cons_zero, List.set_cons_succ]
    refine Disk.z_pass 6 18 rfl rfl (by kernel_rfl) (by kernel_rfl) (by kernel_rfl) (by kernel_rfl) (by rfl) hS ?_
    simp only [List.setIfInBounds_toArray, List.set_cons_zero, List.set_cons_succ]
    refine Disk.z_pass 7 19 rfl rfl (by kernel_rfl) (by kernel_rfl) (by kernel_rfl) (by kernel_rfl) (by rfl) hS ?_
    simp only [List.setIfInBounds_toArray, List.set_cons_zero, List.set_cons_succ]
    refine Disk.z_take 8 20 (v := .bool false) rfl rfl (by kernel_rfl) (by kernel_rfl) (by kernel_rfl) (by kernel_rfl) (by rfl) hS (fun W' hSw => (by
      go_simp; first | done | with_reducible rfl)) ?_
    simp only [List.setIfInBounds_toArray, List.set_cons_zero, List.set_cons_succ]
    refine Disk.z_take 9 21 (v := .bool false) rfl rfl (by kernel_rfl) (by kernel_rfl) (by kernel_rfl) (by kernel_rfl) (by rfl) hS (fun W' hSw => (by
      go_simp; first | done | with_reducible rfl)) ?_
    simp only [List.setIfInBounds_toArray, List.set_cons_zero, List.set_cons_succ]
    refine Disk.z_pass 10 22 rfl rfl (by kernel_rfl) (by kernel_rfl) (by kernel_rfl) (by kernel_rfl) (by rfl) hS ?_
    simp only [List.setIfInBounds_toArray, List.set_cons_zero, List.set_cons_succ]
    refine Disk.z_pass 12 24 rfl rfl (by kernel_rfl) (by kernel_rfl) (by kernel_rfl) (by kernel_rfl) (by rfl) hS ?_
    simp only [List.setIfInBounds_toArray, List.set_cons_zero, List.set_cons_succ]
    refine Disk.z_pass 11 23 rfl rfl (by kernel_rfl) (by kernel_rfl) (by kernel_rfl) (by kernel_rfl) (by rfl) hS ?_
    simp only [List.setIfInBounds_toArray, List.set_cons_zero, List.set_cons_succ]
    refine Disk.z_pass 13 25 rfl rfl (by kernel_rfl) (by kernel_rfl) (by kernel_rfl) (by kernel_rfl) (by rfl) hS ?_
    simp only [List.setIfInBounds_toArray, List.set_cons_zero, List.set_cons_succ]
    refine Disk.z_pass 14 26 rfl rfl (by kernel_rfl) (by kernel_rfl) (by kernel_rfl) (by kernel_rfl) (by rfl) hS ?_
    simp only [List.setIfInBounds_toArray, List.set_cons_zero, List.set_cons_succ]
    refine Disk.z_take 15 27 (v := .bool false) rfl rfl (by kernel_rfl) (by kernel_rfl) (by kernel_rfl) (by kernel_rfl) (by rfl) hS (fun W' hSw => (by
      go_simp; first | done | with_reducible rfl)) ?_
    simp only [List.setIfInBounds_toArray, List.set_cons_zero, List.set_cons_succ]
    refine Disk.z_skip 16 rfl rfl (by kernel_rfl) (by rfl) (exec_storeQ rfl rfl rfl hrun) (.inr hS9) ?_
    refine Disk.z_run 17 3 (w' := w9) (v := .bool false) rfl rfl (by kernel_rfl) (by rfl) (by go_simp; first | done | with_reducible rfl) (.inr hS9) ?_
    simp only [List.setIfInBounds_toArray, List.set_cons_zero, List.set_cons_succ]
    refine Disk.z_done (by kernel_rfl) ?_ _
    clear hS hS9 S0
    go_wp2
    exact bodyPost_ret (v := .tuple #[.agg #[.bool hs, .int .i64 lo, .int .i64 hi], .bool false]) (by simp [results, Tryz.results92, go_sem, r0, r1, r2]) rfl ⟨by rw [G.out]; simp, B9⟩
  case true =>
    by_cases dl : lo ≤ n
    case neg =>
      refine Disk.z_take 0 12 (v := .agg #[.bool hs, .int .i64 lo, .int .i64 hi]) rfl rfl (by kernel_rfl) (by kernel_rfl) (by kernel_rfl) (by kernel_rfl) (by rfl) hS (fun W' hSw => (by
        obtain ⟨s0, s1, s2, s3⟩ := hSw
        go_simp; first | done | with_reducible rfl)) ?_
      simp only [List.setIfInBounds_toArray, List.set_cons_zero, List.set_cons_succ]
      refine Disk.z_take 1 13 (v := .bool true) rfl rfl (by kernel_rfl) (by kernel_rfl) (by kernel_rfl) (by kernel_rfl) (by rfl) hS (fun W' hSw => (by
        go_simp; first | done | with_reducible rfl)) ?_
      simp only [List.setIfInBounds_toArray, List.set_cons_zero, List.set_cons_succ]
      refine Disk.z_take 2 14 (v := .bool true) rfl rfl (by kernel_rfl) (by kernel_rfl) (by kernel_rfl) (by kernel_rfl) (by rfl) hS (fun W' hSw => (by
        go_simp; first | done | with_reducible rfl)) ?_
      simp only [List.setIfInBounds_toArray, List.set_cons_zero, List.set_cons_succ]
      refine Disk.z_take 3 15 (v := .pointer (some ⟨w.heap.size, 1, none⟩)) rfl rfl (by kernel_rfl) (by kernel_rfl) (by kernel_rfl) (by kernel_rfl) (by rfl) hS (fun W' hSw => (by
        go_simp; first | done | with_reducible rfl)) ?_
      simp only [List.setIfInBounds_toArray, List.set_cons_zero, List.set_cons_succ]
      refine Disk.z_take 5 17 (v := .pointer (some ⟨w1.heap.size, 1, none⟩)) rfl rfl (by kernel_rfl) (by kernel_rfl) (by kernel_rfl) (by kernel_rfl) (by rfl) hS (fun W' hSw => (by
        go_simp; first | done | with_reducible rfl)) ?_
      simp only [List.setIfInBounds_toArray, List.set_cons_zero, List.set_cons_succ]
      refine Disk.z_take 4 16 (v := .int .i64 n) rfl rfl (by kernel_rfl) (by kernel_rfl) (by kernel_rfl) (by kernel_rfl) (by rfl) hS (fun W' hSw => (by
        obtain ⟨s0, s1, s2, s3⟩ := hSw
        go_simp; first | done | with_reducible rfl)) ?_
      simp only [List.setIfInBounds_toArray, List.set_cons_zero, List.set_cons_succ]
      refine Disk.z_take 6 18 (v := .int .i64 lo) rfl rfl (by kernel_rfl) (by kernel_rfl) (by kernel_rfl) (by kernel_rfl) (by rfl) hS (fun W' hSw => (by
        obtain ⟨s0, s1, s2, s3⟩ := hSw
        go_simp; first | done | with_reducible rfl)) ?_
      simp only [List.setIfInBounds_toArray, List.set_cons_zero, List.set_cons_succ]
      refine Disk.z_take 7 19 (v := .bool false) rfl rfl (by kernel_rfl) (by kernel_rfl) (by kernel_rfl) (by kernel_rfl) (by rfl) hS (fun W' hSw => (by
        go_simp; first | done | with_reducible rfl | simp [dl])) ?_
      simp only [List.setIfInBounds_toArray, List.set_cons_zero, List.set_cons_succ]
      refine Disk.z_take 8 20 (v := .bool false) rfl rfl (by kernel_rfl) (by kernel_rfl) (by kernel_rfl) (by kernel_rfl) (by rfl) hS (fun W' hSw => (by
        go_simp; first | done | with_reducible rfl)) ?_
      simp only [List.setIfInBounds_toArray, List.set_cons_zero, List.set_cons_succ]
      refine Disk.z_take 9 21 (v := .bool false) rfl rfl (by kernel_rfl) (by kernel_rfl) (by kernel_rfl) (by kernel_rfl) (by rfl) hS (fun W' hSw => (by
        go_simp; first | done | with_reducible rfl)) ?_
      simp only [List.setIfInBounds_toArray, List.set_cons_zero, List.set_cons_succ]
      refine Disk.z_pass 10 22 rfl rfl (by kernel_rfl) (by kernel_rfl) (by kernel_rfl) (by kernel_rfl) (by rfl) hS ?_
      simp only [List.setIfInBounds_toArray, List.set_cons_zero, List.set_cons_succ]
      refine Disk.z_pass 12 24 rfl rfl (by kernel_rfl) (by kernel_rfl) (by kernel_rfl) (by kernel_rfl) (by rfl) hS ?_
      simp only [List.setIfInBounds_toArray, List.set_cons_zero, List.set_cons_succ]
      refine Disk.z_pass 11 23 rfl rfl (by kernel_rfl) (by kernel_rfl) (by kernel_rfl) (by kernel_rfl) (by rfl) hS ?_
      simp only [List.setIfInBounds_toArray, List.set_cons_zero, List.set_cons_succ]
      refine Disk.z_pass 13 25 rfl rfl (by kernel_rfl) (by kernel_rfl) (by kernel_rfl) (by kernel_rfl) (by rfl) hS ?_
      simp only [List.setIfInBounds_toArray, List.set_cons_zero, List.set_cons_succ]
      refine Disk.z_pass 14 26 rfl rfl (by kernel_rfl) (by kernel_rfl) (by kernel_rfl) (by kernel_rfl) (by rfl) hS ?_
      simp only [List.setIfInBounds_toArray, List.set_cons_zero, List.set_cons_succ]
      refine Disk.z_take 15 27 (v := .bool false) rfl rfl (by kernel_rfl) (by kernel_rfl) (by kernel_rfl) (by kernel_rfl) (by rfl) hS (fun W' hSw => (by
        go_simp; first | done | with_reducible rfl)) ?_
      simp only [List.setIfInBounds_toArray, List.set_cons_zero, List.set_cons_succ]
      refine Disk.z_skip 16 rfl rfl (by kernel_rfl) (by rfl) (exec_storeQ rfl rfl rfl hrun) (.inr hS9) ?_
      refine Disk.z_run 17 3 (w' := w9) (v := .bool false) rfl rfl (by kernel_rfl) (by rfl) (by go_simp; first | done | with_reducible rfl) (.inr hS9) ?_
      simp only [List.setIfInBounds_toArray, List.set_cons_zero, List.set_cons_succ]
      refine Disk.z_done (by kernel_rfl) ?_ _
      clear hS hS9 S0
      go_wp2
      exact bodyPost_ret (v := .tuple #[.agg #[.bool hs, .int .i64 lo, .int .i64 hi], .bool false]) (by simp [results, Tryz.results92, go_sem, r0, r1, r2]) rfl ⟨by rw [G.out]; simp; omega, B9⟩
    case pos =>
      by_cases dh : n ≤ hi
      case neg =>
        refine Disk.z_take 0 12 (v := .agg #[.bool hs, .int .i64 lo, .int .i64 hi]) rfl rfl (by kernel_rfl) (by kernel_rfl) (by kernel_rfl) (by kernel_rfl) (by rfl) hS (fun W' hSw => (by
          obtain ⟨s0, s1, s2, s3⟩ := hSw
          go_simp; first | done | with_reducible rfl)) ?_
        simp only [List.setIfInBounds_toArray, List.set_cons_zero, List.set_cons_succ]
        refine Disk.z_take 1 13 (v := .bool true) rfl rfl (by kernel_rfl) (by kernel_rfl) (by kernel_rfl) (by kernel_rfl) (by rfl) hS (fun W' hSw => (by
          go_simp; first | done | with_reducible rfl)) ?_
        simp only [List.setIfInBounds_toArray, List.set_cons_zero, List.set_cons_succ]
        refine Disk.z_take 2 14 (v := .bool true) rfl rfl (by kernel_rfl) (by kernel_rfl) (by kernel_rfl) (by kernel_rfl) (by rfl) hS (fun W' hSw => (by
          go_simp; first | done | with_reducible rfl)) ?_
        simp only [List.setIfInBounds_toArray, List.set_cons_zero, List.set_cons_succ]
        refine Disk.z_take 3 15 (v := .pointer (some ⟨w.heap.size, 1, none⟩)) rfl rfl (by kernel_rfl) (by kernel_rfl) (by kernel_rfl) (by kernel_rfl) (by rfl) hS (fun W' hSw => (by
          go_simp; first | done | with_reducible rfl)) ?_
        simp only [List.setIfInBounds_toArray, List.set_cons_zero, List.set_cons_succ]
        refine Disk.z_take 5 17 (v := .pointer (some ⟨w1.heap.size, 1, none⟩)) rfl rfl (by kernel_rfl) (by kernel_rfl) (by kernel_rfl) (by kernel_rfl) (by rfl) hS (fun W' hSw => (by
          go_simp; first | done | with_reducible rfl)) ?_
        simp only [List.setIfInBounds_toArray, List.set_cons_zero, List.set_cons_succ]
        refine Disk.z_take 4 16 (v := .int .i64 n) rfl rfl (by kernel_rfl) (by kernel_rfl) (by kernel_rfl) (by kernel_rfl) (by rfl) hS (fun W' hSw => (by
          obtain ⟨s0, s1, s2, s3⟩ := hSw
          go_simp; first | done | with_reducible rfl)) ?_
        simp only [List.setIfInBounds_toArray, List.set_cons_zero, List.set_cons_succ]
        refine Disk.z_take 6 18 (v := .int .i64 lo) rfl rfl (by kernel_rfl) (by kernel_rfl) (by kernel_rfl) (by kernel_rfl) (by rfl) hS (fun W' hSw => (by
          obtain ⟨s0, s1, s2, s3⟩ := hSw
          go_simp; first | done | with_reducible rfl)) ?_
        simp only [List.setIfInBounds_toArray, List.set_cons_zero, List.set_cons_succ]
        refine Disk.z_take 7 19 (v := .bool true) rfl rfl (by kernel_rfl) (by kernel_rfl) (by kernel_rfl) (by kernel_rfl) (by rfl) hS (fun W' hSw => (by
          go_simp; first | done | with_reducible rfl | simp [dl])) ?_
        simp only [List.setIfInBounds_toArray, List.set_cons_zero, List.set_cons_succ]
        refine Disk.z_take 8 20 (v := .bool true) rfl rfl (by kernel_rfl) (by kernel_rfl) (by kernel_rfl) (by kernel_rfl) (by rfl) hS (fun W' hSw => (by
          go_simp; first | done | with_reducible rfl)) ?_
        simp only [List.setIfInBounds_toArray, List.set_cons_zero, List.set_cons_succ]
        refine Disk.z_take 9 21 (v := .bool true) rfl rfl (by kernel_rfl) (by kernel_rfl) (by kernel_rfl) (by kernel_rfl) (by rfl) hS (fun W' hSw => (by
          go_simp; first | done | with_reducible rfl)) ?_
        simp only [List.setIfInBounds_toArray, List.set_cons_zero, List.set_cons_succ]
        refine Disk.z_take 10 22 (v := .pointer (some ⟨w.heap.size, 1, none⟩)) rfl rfl (by kernel_rfl) (by kernel_rfl) (by kernel_rfl) (by kernel_rfl) (by rfl) hS (fun W' hSw => (by
          go_simp; first | done | with_reducible rfl)) ?_
        simp only [List.setIfInBounds_toArray, List.set_cons_zero, List.set_cons_succ]
        refine Disk.z_take 12 24 (v := .pointer (some ⟨w1.heap.size, 2, none⟩)) rfl rfl (by kernel_rfl) (by kernel_rfl) (by kernel_rfl) (by kernel_rfl) (by rfl) hS (fun W' hSw => (by
          go_simp; first | done | with_reducible rfl)) ?_
        simp only [List.setIfInBounds_toArray, List.set_cons_zero, List.set_cons_succ]
        refine Disk.z_take 11 23 (v := .int .i64 n) rfl rfl (by kernel_rfl) (by kernel_rfl) (by kernel_rfl) (by kernel_rfl) (by rfl) hS (fun W' hSw => (by
          obtain ⟨s0, s1, s2, s3⟩ := hSw
          go_simp; first | done | with_reducible rfl)) ?_
        simp only [List.setIfInBounds_toArray, List.set_cons_zero, List.set_cons_succ]
        refine Disk.z_take 13 25 (v := .int .i64 hi) rfl rfl (by kernel_rfl) (by kernel_rfl) (by kernel_rfl) (by kernel_rfl) (by rfl) hS (fun W' hSw => (by
          obtain ⟨s0, s1, s2, s3⟩ := hSw
          go_simp; first | done | with_reducible rfl)) ?_
        simp only [List.setIfInBounds_toArray, List.set_cons_zero, List.set_cons_succ]
        refine Disk.z_take 14 26 (v := .bool false) rfl rfl (by kernel_rfl) (by kernel_rfl) (by kernel_rfl) (by kernel_rfl) (by rfl) hS (fun W' hSw => (by
          go_simp; first | done | with_reducible rfl | simp [dh])) ?_
        simp only [List.setIfInBounds_toArray, List.set_cons_zero, List.set_cons_succ]
        refine Disk.z_take 15 27 (v := .bool false) rfl rfl (by kernel_rfl) (by kernel_rfl) (by kernel_rfl) (by kernel_rfl) (by rfl) hS (fun W' hSw => (by
          go_simp; first | done | with_reducible rfl)) ?_
        simp only [List.setIfInBounds_toArray, List.set_cons_zero, List.set_cons_succ]
        refine Disk.z_skip 16 rfl rfl (by kernel_rfl) (by rfl) (exec_storeQ rfl rfl rfl hrun) (.inr hS9) ?_
        refine Disk.z_run 17 3 (w' := w9) (v := .bool false) rfl rfl (by kernel_rfl) (by rfl) (by go_simp; first | done | with_reducible rfl) (.inr hS9) ?_
        simp only [List.setIfInBounds_toArray, List.set_cons_zero, List.set_cons_succ]
        refine Disk.z_done (by kernel_rfl) ?_ _
        clear hS hS9 S0
        go_wp2
        exact bodyPost_ret (v := .tuple #[.agg #[.bool hs, .int .i64 lo, .int .i64 hi], .bool false]) (by simp [results, Tryz.results92, go_sem, r0, r1, r2]) rfl ⟨by rw [G.out]; simp [dl, dh], B9⟩
      case pos =>
        refine Disk.z_take 0 12 (v := .agg #[.bool hs, .int .i64 lo, .int .i64 hi]) rfl rfl (by kernel_rfl) (by kernel_rfl) (by kernel_rfl) (by kernel_rfl) (by rfl) hS (fun W' hSw => (by
          obtain ⟨s0, s1, s2, s3⟩ := hSw
          go_simp; first | done | with_reducible rfl)) ?_
        simp only [List.setIfInBounds_toArray, List.set_cons_zero, List.set_cons_succ]
        refine Disk.z_take 1 13 (v := .bool true) rfl rfl (by kernel_rfl) (by kernel_rfl) (by kernel_rfl) (by kernel_rfl) (by rfl) hS (fun W' hSw => (by
          go_simp; first | done | with_reducible rfl)) ?_
        simp only [List.setIfInBounds_toArray, List.set_cons_zero, List.set_cons_succ]
        refine Disk.z_take 2 14 (v := .bool true) rfl rfl (by kernel_rfl) (by kernel_rfl) (by kernel_rfl) (by kernel_rfl) (by rfl) hS (fun W' hSw => (by
          go_simp; first | done | with_reducible rfl)) ?_
        simp only [List.setIfInBounds_toArray, List.set_cons_zero, List.set_cons_succ]
        refine Disk.z_take 3 15 (v := .pointer (some ⟨w.heap.size, 1, none⟩)) rfl rfl (by kernel_rfl) (by kernel_rfl) (by kernel_rfl) (by kernel_rfl) (by rfl) hS (fun W' hSw => (by
          go_simp; first | done | with_reducible rfl)) ?_
        simp only [List.setIfInBounds_toArray, List.set_cons_zero, List.set_cons_succ]
        refine Disk.z_take 5 17 (v := .pointer (some ⟨w1.heap.size, 1, none⟩)) rfl rfl (by kernel_rfl) (by kernel_rfl) (by kernel_rfl) (by kernel_rfl) (by rfl) hS (fun W' hSw => (by
          go_simp; first | done | with_reducible rfl)) ?_
        simp only [List.setIfInBounds_toArray, List.set_cons_zero, List.set_cons_succ]
        refine Disk.z_take 4 16 (v := .int .i64 n) rfl rfl (by kernel_rfl) (by kernel_rfl) (by kernel_rfl) (by kernel_rfl) (by rfl) hS (fun W' hSw => (by
          obtain ⟨s0, s1, s2, s3⟩ := hSw
          go_simp; first | done | with_reducible rfl)) ?_
        simp only [List.setIfInBounds_toArray, List.set_cons_zero, List.set_cons_succ]
        refine Disk.z_take 6 18 (v := .int .i64 lo) rfl rfl (by kernel_rfl) (by kernel_rfl) (by kernel_rfl) (by kernel_rfl) (by rfl) hS (fun W' hSw => (by
          obtain ⟨s0, s1, s2, s3⟩ := hSw
          go_simp; first | done | with_reducible rfl)) ?_
        simp only [List.setIfInBounds_toArray, List.set_cons_zero, List.set_cons_succ]
        refine Disk.z_take 7 19 (v := .bool true) rfl rfl (by kernel_rfl) (by kernel_rfl) (by kernel_rfl) (by kernel_rfl) (by rfl) hS (fun W' hSw => (by
          go_simp; first | done | with_reducible rfl | simp [dl])) ?_
        simp only [List.setIfInBounds_toArray, List.set_cons_zero, List.set_cons_succ]
        refine Disk.z_take 8 20 (v := .bool true) rfl rfl (by kernel_rfl) (by kernel_rfl) (by kernel_rfl) (by kernel_rfl) (by rfl) hS (fun W' hSw => (by
          go_simp; first | done | with_reducible rfl)) ?_
        simp only [List.setIfInBounds_toArray, List.set_cons_zero, List.set_cons_succ]
        refine Disk.z_take 9 21 (v := .bool true) rfl rfl (by kernel_rfl) (by kernel_rfl) (by kernel_rfl) (by kernel_rfl) (by rfl) hS (fun W' hSw => (by
          go_simp; first | done | with_reducible rfl)) ?_
        simp only [List.setIfInBounds_toArray, List.set_cons_zero, List.set_cons_succ]
        refine Disk.z_take 10 22 (v := .pointer (some ⟨w.heap.size, 1, none⟩)) rfl rfl (by kernel_rfl) (by kernel_rfl) (by kernel_rfl) (by kernel_rfl) (by rfl) hS (fun W' hSw => (by
          go_simp; first | done | with_reducible rfl)) ?_
        simp only [List.setIfInBounds_toArray, List.set_cons_zero, List.set_cons_succ]
        refine Disk.z_take 12 24 (v := .pointer (some ⟨w1.heap.size, 2, none⟩)) rfl rfl (by kernel_rfl) (by kernel_rfl) (by kernel_rfl) (by kernel_rfl) (by rfl) hS (fun W' hSw => (by
          go_simp; first | done | with_reducible rfl)) ?_
        simp only [List.setIfInBounds_toArray, List.set_cons_zero, List.set_cons_succ]
        refine Disk.z_take 11 23 (v := .int .i64 n) rfl rfl (by kernel_rfl) (by kernel_rfl) (by kernel_rfl) (by kernel_rfl) (by rfl) hS (fun W' hSw => (by
          obtain ⟨s0, s1, s2, s3⟩ := hSw
          go_simp; first | done | with_reducible rfl)) ?_
        simp only [List.setIfInBounds_toArray, List.set_cons_zero, List.set_cons_succ]
        refine Disk.z_take 13 25 (v := .int .i64 hi) rfl rfl (by kernel_rfl) (by kernel_rfl) (by kernel_rfl) (by kernel_rfl) (by rfl) hS (fun W' hSw => (by
          obtain ⟨s0, s1, s2, s3⟩ := hSw
          go_simp; first | done | with_reducible rfl)) ?_
        simp only [List.setIfInBounds_toArray, List.set_cons_zero, List.set_cons_succ]
        refine Disk.z_take 14 26 (v := .bool true) rfl rfl (by kernel_rfl) (by kernel_rfl) (by kernel_rfl) (by kernel_rfl) (by rfl) hS (fun W' hSw => (by
          go_simp; first | done | with_reducible rfl | simp [dh])) ?_
        simp only [List.setIfInBounds_toArray, List.set_cons_zero, List.set_cons_succ]
        refine Disk.z_take 15 27 (v := .bool true) rfl rfl (by kernel_rfl) (by kernel_rfl) (by kernel_rfl) (by kernel_rfl) (by rfl) hS (fun W' hSw => (by
          go_simp; first | done | with_reducible rfl)) ?_
        simp only [List.setIfInBounds_toArray, List.set_cons_zero, List.set_cons_succ]
        refine Disk.z_skip 16 rfl rfl (by kernel_rfl) (by rfl) (exec_storeQ rfl rfl rfl hrun) (.inr hS9) ?_
        refine Disk.z_run 17 3 (w' := w9) (v := .bool true) rfl rfl (by kernel_rfl) (by rfl) (by go_simp; first | done | with_reducible rfl) (.inr hS9) ?_
        simp only [List.setIfInBounds_toArray, List.set_cons_zero, List.set_cons_succ]
        refine Disk.z_done (by kernel_rfl) ?_ _
        clear hS hS9 S0
        go_wp2
        exact bodyPost_ret (v := .tuple #[.agg #[.bool hs, .int .i64 lo, .int .i64 hi], .bool true]) (by simp [results, Tryz.results92, go_sem, r0, r1, r2]) rfl ⟨by rw [G.out]; simp [dl, dh], B9⟩

theorem implCodeOk_any (op n : Int) (w : World) :
    Calls Tryz.prog 62 #[codeV op n] w fun e w' => e = .returned (.bool (cokB op n)) ∧ Below w.heap.size w w' := by
  have R := ruleFor_any op n
  unfold codeV ruleV at *
  generalize bndL op = lo at R
  generalize bndH op = hi at R
  generalize hasN op = hs at R
  generalize cokB op n = ck at *
  go_enter Tryz.func62, Tryz.ntmps62
  go_wp2_with fail
  refine (R _).mono ?_
  rintro e w1 ⟨rfl, hb1⟩
  have B1 := bel_afterQ (qbel w _) hb1
  clear hb1
  go_wp2
  go_ret
  exact ⟨rfl, B1.alloc B1.size _⟩

theorem toCode_any (op n : Int) (w : World) :
    Calls Tryz.prog 46 #[codeV op n] w fun e w' => e = .returned (codeV op n) ∧ Below w.heap.size w w' := by
  unfold codeV
  go_enter Tryz.func46, Tryz.ntmps46
  go_wp2
  exact bodyPost_ret (v := .agg #[.int .i64 op, .int .i64 n]) (by simp [results, Tryz.results46, go_sem]) rfl ⟨rfl, bel_afterQ (bel_afterQ (qbel w _) (qbel _ _)) (qbel _ _)⟩

end Go.Proofs.YtgacacbncefeaaaGreat
