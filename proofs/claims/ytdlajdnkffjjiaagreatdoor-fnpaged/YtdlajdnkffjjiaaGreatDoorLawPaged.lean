/- The law FnPaged, walked. -/
import Derived.Test.YtdlajdnkffjjiaaGreatDoorAppC
import Derived.Test.YtdlajdnkffjjiaaGreatDoorDZed
import Derived.Test.YtdlajdnkffjjiaaGreatDoorBent
import Derived.Test.YtdlajdnkffjjiaaGreatDoorPgP
import Derived.Test.YtdlajdnkffjjiaaGreatDoorImplPack
import Derived.Test.YtdlajdnkffjjiaaGreatDoorImplOpen
namespace Go.Proofs.YtdlajdnkffjjiaaGreatDoor
open Go.RowKit

theorem packS_size {n e : Int} {b : ByteArray} (h : pgOk n e b = true) : (packS n e b).size ≤ 1000 ∧ b.size ≤ (packS n e b).size := by
  obtain ⟨r1, r2, r3, r4, r5⟩ := pgOk_range h
  have sh := headS_size (n := n) (e := e) (by omega) (by omega) (by omega) (by omega)
  obtain ⟨c1, c2⟩ := crcS_range (headS n e ++ b)
  have si := itoaB_size (n := crcS (headS n e ++ b)) (by omega) (by omega)
  have s1 : semi.size = 1 := rfl
  have s2 : (⟨#[80]⟩ : ByteArray).size = 1 := rfl
  unfold packS
  rw [ByteArray.size_append, ByteArray.size_append, ByteArray.size_append, ByteArray.size_append]
  omega
theorem own_one (w : World) : (w.alloc (.cells #[.int .u8 1] 5)).ownsRow w.heap.size 5 1 (.slice (some ⟨w.heap.size, 0, none⟩) 1 1) 1 [.int .u8 1] :=
  ⟨by simp, .inr ⟨w.heap.size, 1, #[.int .u8 1], rfl, Nat.le_refl _, heap_alloc_new w _, Nat.le_refl _, by unfold maxLen; omega, by simp, by simp⟩⟩
theorem fz {w w' : World} {M A : Nat} (hb : Below w.heap.size w w') (lt : M < w.heap.size) (h : w.frozen? ⟨M, A, none⟩ = false) : w'.frozen? ⟨M, A, none⟩ = false := (hb.frozen (p := ⟨M, A, none⟩) lt).trans h
theorem fzg {w w' : World} {M A : Nat} {r : Option Nat} (hg : w.grownBy w' r) (hne : some M ≠ r) (lt : M < w.heap.size) (h : w.frozen? ⟨M, A, none⟩ = false) : w'.frozen? ⟨M, A, none⟩ = false := (World.frozen?_of_block (w := w) (hg.block M lt hne)).trans h

theorem exec_appB {o : Oper} {a : Act} {w w' : World} {u : Value} (s x : Operand) (ho : o.op = .call { callee := .builtin .append, args := #[s, x], argTypes := #[22, 22] }) (v y : Value) (hs : a.eval s = v) (hx : a.eval x = y)
    (hr : (Builtin.append_ #[22, 22] o.type #[v, y]).run Tryz.prog w = .ok u w') : (execOp a.eval o).run Tryz.prog w = .ok (.value u) w' := by
  unfold execOp
  simp only [ho, resolve, invoke, builtin, Sem.run_bind, Sem.run_pure, Result.andThen_ok, List.map_toArray, List.map_cons, List.map_nil, hs, hx, hr]

set_option maxRecDepth 100000 in
set_option maxHeartbeats 3200000 in
theorem lawPaged_any (cv : Value) (cs : List UInt8) (a0 a1 a2 a3 : Addr) (w : World) (hc : BR w cv cs) (hC : Ctx a0 a1 a2 a3 w) (te : TypeId) (pe : Addr) (hv : w.cell? ⟨0, 0, none⟩ = some (.iface te (.pointer (some pe)))) (ht : Tb w) :
    Calls Tryz.prog 3 #[cv] w fun x w' => x = .returned (.bool true) ∧ Below w.heap.size w w' := by
  have BG := big_any cv cs w hc
  by_cases hbig : 4096 < cs.length
  · rw [decide_eq_true hbig] at BG
    go_enter Tryz.func3, Tryz.ntmps3
    go_wp2_with (go_at_call 5; refine BG.mono ?_; rintro x w' ⟨rfl, rfl⟩)
    go_ret
    exact ⟨rfl, Below.refl _ _⟩
  rw [decide_eq_false hbig] at BG
  have DP := drawPack_any cv cs w hc (by omega)
  go_enter Tryz.func3, Tryz.ntmps3
  go_wp2_with fail
  refine BG.mono ?_
  rintro x w0 ⟨rfl, rfl⟩
  clear BG
  go_wp2_with fail
  refine DP.mono ?_
  rintro x w1 ⟨⟨n, e, b, rfl, hb⟩, hb1⟩
  clear DP
  go_wp2_with fail
  refine (implPack_any n e b te pe w1 (cell_later hb1 hv) (ht.later hb1)).mono ?_
  rintro x w2 ⟨rfl, hb2⟩
  go_wp2_with fail
  refine (packPage_any n e b _).mono ?_
  rintro x w3 ⟨rfl, hb3⟩
  have bw3 := bel_after (bel_after hb1 hb2) hb3
  cases hpg : pgOk n e b
  · have hT : packT n e b = ⟨#[]⟩ := by unfold packT; rw [hpg]; rfl
    rw [hT]
    clear hT
    go_wp2
    go_ret
    exact ⟨rfl, bw3⟩
  have hT : packT n e b = packS n e b := by unfold packT; rw [hpg]; rfl
  rw [hT]
  clear hT
  have OP := open_pack n e b hpg
  have hsz := packS_size hpg
  have IO := implOpen_any (packS n e b) a0 a1 a2 a3 w3 (by have := hsz.1; omega) (hC.later bw3)
  rw [OP] at IO
  unfold openV at IO
  simp only at IO
  go_wp2_with fail
  refine IO.mono ?_
  rintro x w4 ⟨rfl, hb4⟩
  have bw4 := bel_after bw3 hb4
  clear IO
  by_cases hbe : b = ⟨#[]⟩
  · subst hbe
    go_wp2
    go_ret
    exact ⟨rfl, bw4⟩
  have q1 := str_nil hbe
  have q2 : b.toList.isEmpty = false := by simpa using q1
  have bpos : 0 < b.size := by have := size_pos hbe; omega
  have hcv := conv_bytes w4 (packS n e b)
  have PK := fun w h => pick_any cv cs (b.size : Int) w h (by omega) (by omega) (by omega)
  have bl5 : Below w4.heap.size w4 (w4.alloc (.cells (bytesRow (packS n e b) (grownCap w4 (packS n e b).size 0 5)) 5 ((bytesRow (packS n e b) (grownCap w4 (packS n e b).size 0 5)).size, (bytesRow (packS n e b) (grownCap w4 (packS n e b).size 0 5)).size + 1))).drew := (bel_one _ _).drew
  go_wp2_with fail
  refine (PK _ ((hc.later bw4).later bl5)).mono ?_
  rintro x w5 ⟨⟨z, rfl, hz⟩, hb5⟩
  clear PK hcv
  have hzn : z < b.size := by omega
  obtain ⟨A, hA⟩ : ∃ A : Nat, A + 1 + z = (packS n e b).size := ⟨(packS n e b).size - 1 - z, by omega⟩
  have eA : ((packS n e b).size : Int) - 1 - (z : Int) = (A : Int) := by omega
  have bl6 := bel_after bl5 hb5
  have M5 : w4.heap.size < w5.heap.size := by have := hb5.size; simp at this; omega
  have c5 : w5.cell? ⟨w4.heap.size, A, none⟩ = some (.int .u8 (((packS n e b).data.toList[A]'(by show A < (packS n e b).data.toList.length; rw [Array.length_toList]; show A < (packS n e b).size; omega)).toNat : Int)) := by
    have h1 := row_bytes w4 (packS n e b) (grownCap w4 (packS n e b).size 0 5) 0 (packS n e b).size ((bytesRow (packS n e b) (grownCap w4 (packS n e b).size 0 5)).size, (bytesRow (packS n e b) (grownCap w4 (packS n e b).size 0 5)).size + 1) (Nat.le_refl _)
    have h2 := (h1.later hb5) A (by rw [part_length _ _ _ (Nat.le_refl _)]; omega)
    rw [Addr.add_lit, Nat.zero_add] at h2
    rw [h2]
    simp [part]
  have f5 : w5.frozen? ⟨w4.heap.size, A, none⟩ = false := by
    refine fz hb5 (by simp) ?_
    show (w4.alloc (.cells (bytesRow (packS n e b) (grownCap w4 (packS n e b).size 0 5)) 5 ((bytesRow (packS n e b) (grownCap w4 (packS n e b).size 0 5)).size, (bytesRow (packS n e b) (grownCap w4 (packS n e b).size 0 5)).size + 1))).frozen? ⟨w4.heap.size, A, none⟩ = false
    rw [World.frozen?_alloc_mark]
    have hbr : (packS n e b).size ≤ (bytesRow (packS n e b) (grownCap w4 (packS n e b).size 0 5)).size := by
      unfold bytesRow
      rw [Array.size_append, Array.size_map]
      exact Nat.le_add_right _ _
    have : ¬ (bytesRow (packS n e b) (grownCap w4 (packS n e b).size 0 5)).size ≤ A := by omega
    simp [this]
  have b5 : BR w5 cv cs := (hc.later bw4).later bl6
  generalize hxv : ((packS n e b).data.toList[A]'(by show A < (packS n e b).data.toList.length; rw [Array.length_toList]; show A < (packS n e b).size; omega)) = xv at c5
  have HXV : Hid (((packS n e b).data.toList[A]'(by show A < (packS n e b).data.toList.length; rw [Array.length_toList]; show A < (packS n e b).size; omega)) = xv) := hxv
  have PK8 := fun v w h => pick_any v (1 :: cs) 8 w h (by simp; omega) (by omega) (by omega)
  have hAs : decide ((A : Int) < ((packS n e b).size : Int)) = true := by simp; omega
  clear hxv
  obtain ⟨ao, an, ac, w6, hrun, hB6, hg6⟩ := run_code ((w5.alloc (.cells #[.int .u8 1] 5)).drew) w5.heap.size cv cs 22 (own_one w5) (b5.later (bel_one w5 (.cells #[.int .u8 1] 5)).drew) (by omega) (by simp)
  have c6 : w6.cell? ⟨w4.heap.size, A, none⟩ = some (.int .u8 (xv.toNat : Int)) := hg6.cell (cell_later (bel_one w5 (.cells #[.int .u8 1] 5)).drew c5) (fun e => by have e2 : w4.heap.size = w5.heap.size := Option.some.inj e; omega)
  have M6 : w4.heap.size < w6.heap.size := Nat.lt_of_lt_of_le M5 (Nat.le_trans (Nat.le_succ _) (by have := hg6.size; simpa using this))
  have f6 : w6.frozen? ⟨w4.heap.size, A, none⟩ = false := fzg hg6 (fun e => by have e2 : w4.heap.size = w5.heap.size := Option.some.inj e; omega) (by simp; omega) (fz (bel_one w5 (.cells #[.int .u8 1] 5)).drew M5 f5)
  have bl7 : Below w5.heap.size w5 w6 := gbel (bel_one w5 (.cells #[.int .u8 1] 5)).drew hg6 (by simp) (Nat.le_refl _)
  go_wp2_with fail
  have hmx : Tryz.prog.follows .mixedOrders = true := by kernel_rfl
  have hAlt : A < (packS n e b).size := by omega
  refine Disk.z_plain 14 (fun W' => W'.cell? ⟨w4.heap.size, A, none⟩ = some (.int .u8 (xv.toNat : Int))) hmx c5 (fun hHeld => ?_)
  refine Disk.z_take 0 90 rfl rfl (by kernel_rfl) (by kernel_rfl) (by kernel_rfl) (by kernel_rfl) (by rfl) hHeld (fun W' hSw => (by
    go_simp
    first | with_reducible rfl | rw [if_pos hAlt])) ?_
  simp only [List.setIfInBounds_toArray, List.set_cons_zero, List.set_cons_succ]
  refine Disk.z_take 1 91 rfl rfl (by kernel_rfl) (by kernel_rfl) (by kernel_rfl) (by kernel_rfl) (by rfl) hHeld (fun W' hSw => (by
    go_simp
    first | with_reducible rfl | rw [if_pos hAlt])) ?_
  simp only [List.setIfInBounds_toArray, List.set_cons_zero, List.set_cons_succ]
  refine Disk.z_take 2 92 rfl rfl (by kernel_rfl) (by kernel_rfl) (by kernel_rfl) (by kernel_rfl) (by rfl) hHeld (fun W' hSw => (by
    go_simp
    first | with_reducible rfl | rw [if_pos hAlt])) ?_
  simp only [List.setIfInBounds_toArray, List.set_cons_zero, List.set_cons_succ]
  refine Disk.z_take 3 93 rfl rfl (by kernel_rfl) (by kernel_rfl) (by kernel_rfl) (by kernel_rfl) (by rfl) hHeld (fun W' hSw => (by
    go_simp
    first | with_reducible rfl | rw [if_pos hAlt])) ?_
  simp only [List.setIfInBounds_toArray, List.set_cons_zero, List.set_cons_succ]
  refine Disk.z_take 4 94 rfl rfl (by kernel_rfl) (by kernel_rfl) (by kernel_rfl) (by kernel_rfl) (by rfl) hHeld (fun W' hSw => (by
    go_simp
    first | with_reducible rfl | rw [if_pos hAlt])) ?_
  simp only [List.setIfInBounds_toArray, List.set_cons_zero, List.set_cons_succ]
  refine Disk.z_take 5 95 rfl rfl (by kernel_rfl) (by kernel_rfl) (by kernel_rfl) (by kernel_rfl) (by rfl) hHeld (fun W' hSw => (by
    go_simp
    first | with_reducible rfl | rw [if_pos hAlt])) ?_
  simp only [List.setIfInBounds_toArray, List.set_cons_zero, List.set_cons_succ]
  refine Disk.z_take 7 97 rfl rfl (by kernel_rfl) (by kernel_rfl) (by kernel_rfl) (by kernel_rfl) (by rfl) hHeld (fun W' hSw => (by
    go_simp
    first | with_reducible rfl | rw [if_pos hAlt])) ?_
  simp only [List.setIfInBounds_toArray, List.set_cons_zero, List.set_cons_succ]
  have k6 : (w5.alloc (.cells #[.int .u8 1] 5)).drew.cell? ⟨w4.heap.size, A, none⟩ = some (.int .u8 (xv.toNat : Int)) := cell_later (bel_one w5 (.cells #[.int .u8 1] 5)).drew c5
  refine Disk.z_run 6 96 rfl rfl (by kernel_rfl) (by rfl) (w' := (w5.alloc (.cells #[.int .u8 1] 5)).drew) (v := .slice (some ⟨w5.heap.size, 0, none⟩) 1 1) (by
    go_simp) (.inr k6) ?_
  simp only [List.setIfInBounds_toArray, List.set_cons_zero, List.set_cons_succ]
  refine Disk.z_run 8 98 rfl rfl (by kernel_rfl) (by rfl) (exec_appB _ _ rfl _ _ rfl rfl hrun) (.inr c6) ?_
  simp only [List.setIfInBounds_toArray, List.set_cons_zero, List.set_cons_succ]
  refine Disk.z_call 9 99 rfl rfl (by kernel_rfl) (by rfl) (f := 10) (args := #[.slice ao an ac, .int .i64 8]) (w0 := w6) (by
    go_simp) ?_
  refine (PK8 _ _ hB6).mono ?_
  rintro x w7 ⟨⟨y, rfl, hy⟩, hb7⟩
  have c7 := cell_later hb7 c6
  have f7 := fz hb7 M6 f6
  refine ⟨_, rfl, .inr c7, ?_⟩
  simp only [List.setIfInBounds_toArray, List.set_cons_zero, List.set_cons_succ]
  refine Disk.z_run 10 100 rfl rfl (by kernel_rfl) (by rfl) (w' := w7) (by
    go_simp
    first | with_reducible rfl | rw [if_pos hAlt]) (.inr c7) ?_
  simp only [List.setIfInBounds_toArray, List.set_cons_zero, List.set_cons_succ]
  refine Disk.z_run 11 101 rfl rfl (by kernel_rfl) (by rfl) (w' := w7) (by
    go_simp
    first | with_reducible rfl | rw [if_pos hAlt]) (.inr c7) ?_
  simp only [List.setIfInBounds_toArray, List.set_cons_zero, List.set_cons_succ]
  refine Disk.z_run 12 102 rfl rfl (by kernel_rfl) (by rfl) (w' := w7) (by
    go_simp
    first | with_reducible rfl | rw [if_pos hAlt]) (.inr c7) ?_
  simp only [List.setIfInBounds_toArray, List.set_cons_zero, List.set_cons_succ]
  refine Disk.z_run 13 103 rfl rfl (by kernel_rfl) (by rfl) (w' := w7) (by
    go_simp
    first | with_reducible rfl | rw [if_pos hAlt]) (.inr c7) ?_
  simp only [List.setIfInBounds_toArray, List.set_cons_zero, List.set_cons_succ]
  refine Disk.z_skip 14 rfl rfl (by kernel_rfl) (by rfl) (by
    go_simp
    with_reducible rfl) (.inl rfl) ?_
  refine Disk.z_done (by kernel_rfl) ?_ _
  have hy8 : y < 8 := by omega
  obtain ⟨u, hux, hu⟩ := flip xv y hy8
  have hPl : (packS n e b).data.toList.length = (packS n e b).size := by rw [Array.length_toList]; rfl
  have B5 := by
    have h1 := row_bytes w4 (packS n e b) (grownCap w4 (packS n e b).size 0 5) 0 (packS n e b).size ((bytesRow (packS n e b) (grownCap w4 (packS n e b).size 0 5)).size, (bytesRow (packS n e b) (grownCap w4 (packS n e b).size 0 5)).size + 1) (Nat.le_refl _)
    exact ((h1.later hb5).later bl7).later hb7
  have ep : part (packS n e b) 0 (packS n e b).size = (packS n e b).data.toList := by
    unfold part
    rw [List.drop_zero, List.take_of_length_le (by omega)]
  rw [ep] at B5
  have CB := conv_back _ ⟨w4.heap.size, 0, none⟩ (grownCap w4 (packS n e b).size 0 5) ((packS n e b).data.toList.set A u) (packS n e b).size (by rw [List.length_set, hPl]) (bytes_set B5 (by omega) u)
  have OB := bent_open n e b hpg A z hzn hA u (by omega) (by rw [HXV.out]; exact hux)
  have bl8 : Below w4.heap.size w4 (w7.setCell ⟨w4.heap.size, A, none⟩ (.int .u8 (u.toNat : Int))) := (bel_after (bel_after bl6 bl7) hb7).setCell (p := ⟨w4.heap.size, A, none⟩) (Nat.le_refl _) _
  have bw8 := bel_after bw4 bl8
  have hTs : (bytesOf ((packS n e b).data.toList.set A u)).size ≤ 1000 := by
    show ((packS n e b).data.toList.set A u).toArray.size ≤ 1000
    rw [List.size_toArray, List.length_set, hPl]
    exact hsz.1
  change (convert _ _ _).run _ _ = .ok (.string (bytesOf ((packS n e b).data.toList.set A u))) _ at CB
  have IO := implOpen_any (bytesOf ((packS n e b).data.toList.set A u)) a0 a1 a2 a3 _ (by omega) (hC.later bw8)
  generalize openR (bytesOf ((packS n e b).data.toList.set A u)) = r at *
  obtain ⟨r1, r2, r3, r4⟩ := r
  simp only at OB
  subst OB
  unfold openV at IO
  simp only at IO
  generalize bytesOf ((packS n e b).data.toList.set A u) = T at *
  rw [hu]
  clear hrun hB6 hg6 c6 f6 c7 f7 c5 f5 PK8 hux B5 ep
  go_wp2_with fail
  refine IO.mono ?_
  rintro x w9 ⟨rfl, hb9⟩
  go_wp2
  go_ret
  exact ⟨rfl, bel_after bw8 hb9⟩

end Go.Proofs.YtdlajdnkffjjiaaGreatDoor
