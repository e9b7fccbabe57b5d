/- An object's header is laid down by the program. -/
import Derived.Test.YtgacacbncefeaaaGreatZMFit
import Derived.Test.YtgacacbncefeaaaGreatZP2
namespace Go.Proofs.YtgacacbncefeaaaGreat
open Go.RowKit

set_option maxRecDepth 100000 in
set_option maxHeartbeats 1600000 in
theorem lay_any (g on oc k : Nat) (oa : Option Addr) (W : List Int) (a b c : Int) (w : World) (R : RI w g W 3200) (hl : W.length = 3200) (hk : k + 4 ≤ 3200) (ha : 0 ≤ a ∧ a ≤ 60) :
    Calls Tryz.prog 67 #[.agg #[.slice (some ⟨g, 0, none⟩) 3200 3200, .slice oa on oc], .int .i64 k, .agg #[.int .i64 a, .int .i64 b, .int .i64 c, .int .i64 0]] w fun x w' => x = .returned (.int .i64 (k + 4 + a)) ∧ RI w' g (splice W k [a, b, c, 0]) 3200 ∧ w.grownBy w' (some g) := by
  have hb0 : Below w.heap.size w ((w.alloc (.cells #[.slice (some ⟨g, 0, none⟩) 3200 3200, .slice oa on oc] 70)).alloc (.cells #[.int .i64 a, .int .i64 b, .int .i64 c, .int .i64 0] 100)) := bel_after (bel_one _ _) (bel_one _ _)
  have hmx : Tryz.prog.follows .mixedOrders = true := by kernel_rfl
  have hs0 : (((w.alloc (.cells #[.slice (some ⟨g, 0, none⟩) 3200 3200, .slice oa on oc] 70)).alloc (.cells #[.int .i64 a, .int .i64 b, .int .i64 c, .int .i64 0] 100)).drew.cell? ⟨w.heap.size, 0, none⟩ = some (.slice (some ⟨g, 0, none⟩) 3200 3200) ∧ ((w.alloc (.cells #[.slice (some ⟨g, 0, none⟩) 3200 3200, .slice oa on oc] 70)).alloc (.cells #[.int .i64 a, .int .i64 b, .int .i64 c, .int .i64 0] 100)).drew.cell? ⟨w.heap.size + 1, 0, none⟩ = some (.int .i64 a) ∧ ((w.alloc (.cells #[.slice (some ⟨g, 0, none⟩) 3200 3200, .slice oa on oc] 70)).alloc (.cells #[.int .i64 a, .int .i64 b, .int .i64 c, .int .i64 0] 100)).drew.cell? ⟨w.heap.size + 1, 1, none⟩ = some (.int .i64 b) ∧ ((w.alloc (.cells #[.slice (some ⟨g, 0, none⟩) 3200 3200, .slice oa on oc] 70)).alloc (.cells #[.int .i64 a, .int .i64 b, .int .i64 c, .int .i64 0] 100)).drew.cell? ⟨w.heap.size + 1, 2, none⟩ = some (.int .i64 c) ∧ ((w.alloc (.cells #[.slice (some ⟨g, 0, none⟩) 3200 3200, .slice oa on oc] 70)).alloc (.cells #[.int .i64 a, .int .i64 b, .int .i64 c, .int .i64 0] 100)).drew.cell? ⟨w.heap.size + 1, 3, none⟩ = some (.int .i64 0)) := by
    refine ⟨?_, ?_, ?_, ?_, ?_⟩
    · exact cell_later (bel_one _ _).drew (cell_new w #[.slice (some ⟨g, 0, none⟩) 3200 3200, .slice oa on oc] 70 _ rfl 0 _ rfl)
    all_goals exact cell_new (w.alloc (.cells #[.slice (some ⟨g, 0, none⟩) 3200 3200, .slice oa on oc] 70)) #[.int .i64 a, .int .i64 b, .int .i64 c, .int .i64 0] 100 _ (by simp) _ _ rfl
  have nkI : (k : Int) ≤ 3200 := by omega
  have nkE : ¬ 3200 = k := by omega
  have R0 := R.later hb0
  have ltg := R.lt
  go_enter Tryz.func67, Tryz.ntmps67
  go_wp2_with fail
  refine Disk.z_plain 99 (fun w' => (w'.cell? ⟨w.heap.size, 0, none⟩ = some (.slice (some ⟨g, 0, none⟩) 3200 3200) ∧ w'.cell? ⟨w.heap.size + 1, 0, none⟩ = some (.int .i64 a) ∧ w'.cell? ⟨w.heap.size + 1, 1, none⟩ = some (.int .i64 b) ∧ w'.cell? ⟨w.heap.size + 1, 2, none⟩ = some (.int .i64 c) ∧ w'.cell? ⟨w.heap.size + 1, 3, none⟩ = some (.int .i64 0))) hmx hs0 (fun hs => ?_)
  refine Disk.z_take 0 7 (v := .pointer (some ⟨w.heap.size, 0, none⟩)) rfl rfl (by kernel_rfl) (by kernel_rfl) (by kernel_rfl) (by kernel_rfl) (by rfl) hs (fun W' hSw => (by
    obtain ⟨s0, s1, s2, s3, s4⟩ := hSw
    go_simp; first | done | with_reducible rfl)) ?_
  simp only [List.setIfInBounds_toArray, List.set_cons_zero, List.set_cons_succ]
  refine Disk.z_take 1 8 (v := .slice (some ⟨g, 0, none⟩) 3200 3200) rfl rfl (by kernel_rfl) (by kernel_rfl) (by kernel_rfl) (by kernel_rfl) (by rfl) hs (fun W' hSw => (by
    obtain ⟨s0, s1, s2, s3, s4⟩ := hSw
    go_simp; first | done | with_reducible rfl)) ?_
  simp only [List.setIfInBounds_toArray, List.set_cons_zero, List.set_cons_succ]
  refine Disk.z_take 2 9 (v := .int .i64 (k : Nat)) rfl rfl (by kernel_rfl) (by kernel_rfl) (by kernel_rfl) (by kernel_rfl) (by rfl) hs (fun W' hSw => (by
    obtain ⟨s0, s1, s2, s3, s4⟩ := hSw
    go_simp; first | done | with_reducible rfl)) ?_
  simp only [List.setIfInBounds_toArray, List.set_cons_zero, List.set_cons_succ]
  refine Disk.z_take 3 10 (v := .slice (some ⟨g, k, none⟩) (3200 - k) (3200 - k)) rfl rfl (by kernel_rfl) (by kernel_rfl) (by kernel_rfl) (by kernel_rfl) (by rfl) hs (fun W' hSw => (by
    go_simp; first | done | with_reducible rfl | rw [if_pos nkI, if_neg nkE])) ?_
  simp only [List.setIfInBounds_toArray, List.set_cons_zero, List.set_cons_succ]
  refine Disk.z_take 4 11 (v := .pointer (some ⟨w.heap.size + 1, 0, none⟩)) rfl rfl (by kernel_rfl) (by kernel_rfl) (by kernel_rfl) (by kernel_rfl) (by rfl) hs (fun W' hSw => (by
    obtain ⟨s0, s1, s2, s3, s4⟩ := hSw
    go_simp; first | done | with_reducible rfl)) ?_
  simp only [List.setIfInBounds_toArray, List.set_cons_zero, List.set_cons_succ]
  refine Disk.z_take 5 12 (v := .int .i64 a) rfl rfl (by kernel_rfl) (by kernel_rfl) (by kernel_rfl) (by kernel_rfl) (by rfl) hs (fun W' hSw => (by
    obtain ⟨s0, s1, s2, s3, s4⟩ := hSw
    go_simp; first | done | with_reducible rfl)) ?_
  simp only [List.setIfInBounds_toArray, List.set_cons_zero, List.set_cons_succ]
  refine Disk.z_take 6 13 (v := .pointer (some ⟨w.heap.size + 1, 1, none⟩)) rfl rfl (by kernel_rfl) (by kernel_rfl) (by kernel_rfl) (by kernel_rfl) (by rfl) hs (fun W' hSw => (by
    obtain ⟨s0, s1, s2, s3, s4⟩ := hSw
    go_simp; first | done | with_reducible rfl)) ?_
  simp only [List.setIfInBounds_toArray, List.set_cons_zero, List.set_cons_succ]
  refine Disk.z_take 7 14 (v := .int .i64 b) rfl rfl (by kernel_rfl) (by kernel_rfl) (by kernel_rfl) (by kernel_rfl) (by rfl) hs (fun W' hSw => (by
    obtain ⟨s0, s1, s2, s3, s4⟩ := hSw
    go_simp; first | done | with_reducible rfl)) ?_
  simp only [List.setIfInBounds_toArray, List.set_cons_zero, List.set_cons_succ]
  refine Disk.z_take 8 15 (v := .pointer (some ⟨w.heap.size + 1, 2, none⟩)) rfl rfl (by kernel_rfl) (by kernel_rfl) (by kernel_rfl) (by kernel_rfl) (by rfl) hs (fun W' hSw => (by
    obtain ⟨s0, s1, s2, s3, s4⟩ := hSw
    go_simp; first | done | with_reducible rfl)) ?_
  simp only [List.setIfInBounds_toArray, List.set_cons_zero, List.set_cons_succ]
  refine Disk.z_take 9 16 (v := .int .i64 c) rfl rfl (by kernel_rfl) (by kernel_rfl) (by kernel_rfl) (by kernel_rfl) (by rfl) hs (fun W' hSw => (by
    obtain ⟨s0, s1, s2, s3, s4⟩ := hSw
    go_simp; first | done | with_reducible rfl)) ?_
  simp only [List.setIfInBounds_toArray, List.set_cons_zero, List.set_cons_succ]
  refine Disk.z_take 10 17 (v := .pointer (some ⟨w.heap.size + 1, 3, none⟩)) rfl rfl (by kernel_rfl) (by kernel_rfl) (by kernel_rfl) (by kernel_rfl) (by rfl) hs (fun W' hSw => (by
    obtain ⟨s0, s1, s2, s3, s4⟩ := hSw
    go_simp; first | done | with_reducible rfl)) ?_
  simp only [List.setIfInBounds_toArray, List.set_cons_zero, List.set_cons_succ]
  refine Disk.z_take 11 18 (v := .int .i64 0) rfl rfl (by kernel_rfl) (by kernel_rfl) (by kernel_rfl) (by kernel_rfl) (by rfl) hs (fun W' hSw => (by
    obtain ⟨s0, s1, s2, s3, s4⟩ := hSw
    go_simp; first | done | with_reducible rfl)) ?_
  simp only [List.setIfInBounds_toArray, List.set_cons_zero, List.set_cons_succ]
  have R1 := R.later (hb0.drew.trans ((bel_one ((w.alloc (.cells #[.slice (some ⟨g, 0, none⟩) 3200 3200, .slice oa on oc] 70)).alloc (.cells #[.int .i64 a, .int .i64 b, .int .i64 c, .int .i64 0] 100)).drew (.cells #[.int .i64 a, .int .i64 b, .int .i64 c, .int .i64 0] 2)).mono hb0.size))
  have F1 := four_ri ((w.alloc (.cells #[.slice (some ⟨g, 0, none⟩) 3200 3200, .slice oa on oc] 70)).alloc (.cells #[.int .i64 a, .int .i64 b, .int .i64 c, .int .i64 0] 100)).drew a b c 0
  have hs1 : ((((w.alloc (.cells #[.slice (some ⟨g, 0, none⟩) 3200 3200, .slice oa on oc] 70)).alloc (.cells #[.int .i64 a, .int .i64 b, .int .i64 c, .int .i64 0] 100)).drew.alloc (.cells #[.int .i64 a, .int .i64 b, .int .i64 c, .int .i64 0] 2)).cell? ⟨w.heap.size, 0, none⟩ = some (.slice (some ⟨g, 0, none⟩) 3200 3200) ∧ (((w.alloc (.cells #[.slice (some ⟨g, 0, none⟩) 3200 3200, .slice oa on oc] 70)).alloc (.cells #[.int .i64 a, .int .i64 b, .int .i64 c, .int .i64 0] 100)).drew.alloc (.cells #[.int .i64 a, .int .i64 b, .int .i64 c, .int .i64 0] 2)).cell? ⟨w.heap.size + 1, 0, none⟩ = some (.int .i64 a) ∧ (((w.alloc (.cells #[.slice (some ⟨g, 0, none⟩) 3200 3200, .slice oa on oc] 70)).alloc (.cells #[.int .i64 a, .int .i64 b, .int .i64 c, .int .i64 0] 100)).drew.alloc (.cells #[.int .i64 a, .int .i64 b, .int .i64 c, .int .i64 0] 2)).cell? ⟨w.heap.size + 1, 1, none⟩ = some (.int .i64 b) ∧ (((w.alloc (.cells #[.slice (some ⟨g, 0, none⟩) 3200 3200, .slice oa on oc] 70)).alloc (.cells #[.int .i64 a, .int .i64 b, .int .i64 c, .int .i64 0] 100)).drew.alloc (.cells #[.int .i64 a, .int .i64 b, .int .i64 c, .int .i64 0] 2)).cell? ⟨w.heap.size + 1, 2, none⟩ = some (.int .i64 c) ∧ (((w.alloc (.cells #[.slice (some ⟨g, 0, none⟩) 3200 3200, .slice oa on oc] 70)).alloc (.cells #[.int .i64 a, .int .i64 b, .int .i64 c, .int .i64 0] 100)).drew.alloc (.cells #[.int .i64 a, .int .i64 b, .int .i64 c, .int .i64 0] 2)).cell? ⟨w.heap.size + 1, 3, none⟩ = some (.int .i64 0)) := ⟨cell_later (bel_one _ _) hs.1, cell_later (bel_one _ _) hs.2.1, cell_later (bel_one _ _) hs.2.2.1, cell_later (bel_one _ _) hs.2.2.2.1, cell_later (bel_one _ _) hs.2.2.2.2⟩
  refine Disk.z_run 12 19 rfl rfl (by kernel_rfl) (by rfl) (w' := (((w.alloc (.cells #[.slice (some ⟨g, 0, none⟩) 3200 3200, .slice oa on oc] 70)).alloc (.cells #[.int .i64 a, .int .i64 b, .int .i64 c, .int .i64 0] 100)).drew.alloc (.cells #[.int .i64 a, .int .i64 b, .int .i64 c, .int .i64 0] 2))) (v := .slice (some ⟨((w.alloc (.cells #[.slice (some ⟨g, 0, none⟩) 3200 3200, .slice oa on oc] 70)).alloc (.cells #[.int .i64 a, .int .i64 b, .int .i64 c, .int .i64 0] 100)).drew.heap.size, 0, none⟩) 4 4) (by go_simp; first | done | with_reducible rfl) (.inr hs1) ?_
  simp only [List.setIfInBounds_toArray, List.set_cons_zero, List.set_cons_succ]
  obtain ⟨w2, hrun, R2, G2, sz2⟩ := copy_run (w := (((w.alloc (.cells #[.slice (some ⟨g, 0, none⟩) 3200 3200, .slice oa on oc] 70)).alloc (.cells #[.int .i64 a, .int .i64 b, .int .i64 c, .int .i64 0] 100)).drew.alloc (.cells #[.int .i64 a, .int .i64 b, .int .i64 c, .int .i64 0] 2))) 3 g k (3200 - k) (3200 - k) W 3200 R1 (by omega) [a, b, c, 0] ((w.alloc (.cells #[.slice (some ⟨g, 0, none⟩) 3200 3200, .slice oa on oc] 70)).alloc (.cells #[.int .i64 a, .int .i64 b, .int .i64 c, .int .i64 0] 100)).drew.heap.size 4 F1 (by simp; omega)
  have hs2 : (w2.cell? ⟨w.heap.size, 0, none⟩ = some (.slice (some ⟨g, 0, none⟩) 3200 3200) ∧ w2.cell? ⟨w.heap.size + 1, 0, none⟩ = some (.int .i64 a) ∧ w2.cell? ⟨w.heap.size + 1, 1, none⟩ = some (.int .i64 b) ∧ w2.cell? ⟨w.heap.size + 1, 2, none⟩ = some (.int .i64 c) ∧ w2.cell? ⟨w.heap.size + 1, 3, none⟩ = some (.int .i64 0)) := ⟨G2.cell hs1.1 (by simp; omega), G2.cell hs1.2.1 (by simp; omega), G2.cell hs1.2.2.1 (by simp; omega), G2.cell hs1.2.2.2.1 (by simp; omega), G2.cell hs1.2.2.2.2 (by simp; omega)⟩
  refine Disk.z_run 13 20 (w' := w2) (v := goInt 4) rfl rfl (by kernel_rfl) (by rfl) (by exact exec_copy _ _ _ (.tmp 10) (.tmp 19) rfl _ _ _ rfl rfl hrun) (.inr hs2) ?_
  simp only [List.setIfInBounds_toArray, List.set_cons_zero, List.set_cons_succ]
  refine Disk.z_done (by kernel_rfl) ?_ _
  have hb1 : Below w.heap.size w (((w.alloc (.cells #[.slice (some ⟨g, 0, none⟩) 3200 3200, .slice oa on oc] 70)).alloc (.cells #[.int .i64 a, .int .i64 b, .int .i64 c, .int .i64 0] 100)).drew.alloc (.cells #[.int .i64 a, .int .i64 b, .int .i64 c, .int .i64 0] 2)) := hb0.drew.trans ((bel_one ((w.alloc (.cells #[.slice (some ⟨g, 0, none⟩) 3200 3200, .slice oa on oc] 70)).alloc (.cells #[.int .i64 a, .int .i64 b, .int .i64 c, .int .i64 0] 100)).drew (.cells #[.int .i64 a, .int .i64 b, .int .i64 c, .int .i64 0] 2)).mono hb0.size)
  have GG : w.grownBy w2 (some g) := Disk.grown_trans (Disk.grown_below hb1) G2
  have lsp := length_splice W k [a, b, c, 0] (by simp; omega)
  have gk : gw (splice W k [a, b, c, 0]) k = a := by
    unfold gw
    rw [splice_get _ _ _ _ (by simp; omega), if_neg (by omega), if_pos (by simp)]
    simp
  have BH := behind_any g 0 3200 (splice W k [a, b, c, 0]) k w2 (ws_ri R2) (by omega) hk (by rw [gk]; exact ha)
  obtain ⟨s0, s1, s2, s3, s4⟩ := hs2
  clear hs hs1 hs0 R R0 R1 F1
  go_wp2_with fail
  refine BH.mono ?_
  rintro x w3 ⟨rfl, hw3⟩
  obtain rfl := hw3.symm
  have e : ((nx (splice W k [a, b, c, 0]) k : Nat) : Int) = k + 4 + a := by
    unfold nx
    rw [gk]
    omega
  rw [e]
  go_wp2
  go_ret
  exact ⟨rfl, R2, GG⟩

end Go.Proofs.YtgacacbncefeaaaGreat
