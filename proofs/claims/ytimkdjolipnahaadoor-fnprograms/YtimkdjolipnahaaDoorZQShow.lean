/- What a Code is shown as: ShowCode of the model and of the program. -/
import Derived.Test.YtimkdjolipnahaaDoorZQMap
import Derived.Test.YtimkdjolipnahaaDoorZQCut
import Derived.Test.YtimkdjolipnahaaDoorZText
namespace Go.Proofs.YtimkdjolipnahaaDoor
open Go.RowKit

set_option maxRecDepth 100000 in
set_option maxHeartbeats 1000000 in
theorem l12Words_any (w : World) :
    Calls Tryd.prog 22 #[] w fun e w' => e = .returned (.slice (some ⟨w.heap.size, 0, none⟩) 20 20) ∧ Bk w' w.heap.size ((wdL.map Value.string).toArray) 9 ∧ Below w.heap.size w w' := by
  go_enter Tryd.func22, Tryd.ntmps22
  go_wp2
  go_ret
  exact ⟨rfl, Bk.new _ _ _, qbel _ _⟩

set_option maxRecDepth 100000 in
set_option maxHeartbeats 1000000 in
theorem implShow_any (op n : Int) (w : World) (ht : Tb w) :
    Calls Tryd.prog 7 #[codeV op n] w fun e w' => e = .returned (.string (showB op n)) ∧ Below w.heap.size w w' := by
  have R := ruleFor_any op n
  unfold codeV ruleV at *
  generalize hlo : bndL op = lo at R
  generalize hhi : bndH op = hi at R
  clear hlo hhi
  cases hc : cokB op n
  · have HS : Hid (showB op n = ⟨#[]⟩) := show_no hc
    rw [hc] at R
    clear hc ht
    generalize showB op n = sb at HS ⊢
    generalize hasN op = hs at R
    go_enter Tryd.func7, Tryd.ntmps7
    go_wp2_with fail
    refine (R _).mono ?_
    rintro e w1 ⟨rfl, hb1⟩
    have B1 := bel_afterQ (qbel w _) hb1
    clear hb1
    go_wp2
    go_ret
    exact ⟨by rw [HS.out]; rfl, B1.alloc B1.size _⟩
  · have ho := cok_op hc
    have hn := cok_n hc
    have WO := fun w => wordOf_any op w ho
    have hw := (wd_plain ho).2.2
    have FM := fun (w : World) (ht : Tb w) => fmt_any n w (by omega) (by omega) ht
    rw [hc] at R
    cases hh : hasN op
    · have HS : Hid (showB op n = wdB op) := show_bare hc hh
      rw [hh] at R
      clear hc ht hh hn ho FM
      generalize showB op n = sb at HS ⊢
      generalize wdB op = wb at HS WO hw
      have CT := fun w => copyText_any wb w (by omega)
      go_enter Tryd.func7, Tryd.ntmps7
      have k0 := Bk.new w #[.int .i64 op, .int .i64 n] 25
      go_wp2_with fail
      refine (R _).mono ?_
      rintro e w1 ⟨rfl, hb1⟩
      have B1 := bel_afterQ (qbel w _) hb1
      replace k0 := k0.later hb1
      clear hb1
      replace k0 := k0.alloc (.cells #[.bool false, .int .i64 lo, .int .i64 hi] 36)
      have k1 := Bk.new w1 #[.bool false, .int .i64 lo, .int .i64 hi] 36
      have c0 : (w1.alloc (.cells #[.bool false, .int .i64 lo, .int .i64 hi] 36)).cell? ⟨w.heap.size, 0, none⟩ = some (.int .i64 op) := k0.cell 0 _ rfl
      go_wp2_with fail
      refine (WO _).mono ?_
      rintro e w2 ⟨rfl, hb2⟩
      have B2 := bel_afterQ (B1.alloc B1.size _) hb2
      replace k1 := k1.later hb2
      have c1 : w2.cell? ⟨w1.heap.size, 0, none⟩ = some (.bool false) := k1.cell 0 _ rfl
      clear hb2 k0 c0 R WO
      go_wp2_with fail
      refine (CT _).mono ?_
      rintro e w3 ⟨rfl, hb3⟩
      clear CT k1 c1
      go_wp2
      go_ret
      exact ⟨by rw [HS.out]; rfl, bel_afterQ B2 hb3⟩
    · have HS : Hid (showB op n = wdB op ++ ⟨#[32]⟩ ++ itoaB n) := show_has hc hh
      have hz := itoaB_size (n := n) (by omega) (by omega)
      rw [hh] at R
      clear hc hh hn ho
      generalize showB op n = sb at HS ⊢
      generalize wdB op = wb at HS WO hw
      generalize itoaB n = ib at HS FM hz
      go_enter Tryd.func7, Tryd.ntmps7
      have k0 := Bk.new w #[.int .i64 op, .int .i64 n] 25
      go_wp2_with fail
      refine (R _).mono ?_
      rintro e w1 ⟨rfl, hb1⟩
      have B1 := bel_afterQ (qbel w _) hb1
      replace k0 := k0.later hb1
      clear hb1
      replace k0 := k0.alloc (.cells #[.bool true, .int .i64 lo, .int .i64 hi] 36)
      have k1 := Bk.new w1 #[.bool true, .int .i64 lo, .int .i64 hi] 36
      have c0 : (w1.alloc (.cells #[.bool true, .int .i64 lo, .int .i64 hi] 36)).cell? ⟨w.heap.size, 0, none⟩ = some (.int .i64 op) := k0.cell 0 _ rfl
      go_wp2_with fail
      refine (WO _).mono ?_
      rintro e w2 ⟨rfl, hb2⟩
      have B2 := bel_afterQ (B1.alloc B1.size _) hb2
      replace k0 := k0.later hb2
      replace k1 := k1.later hb2
      have c1 : w2.cell? ⟨w1.heap.size, 0, none⟩ = some (.bool true) := k1.cell 0 _ rfl
      have c2 : w2.cell? ⟨w.heap.size, 1, none⟩ = some (.int .i64 n) := k0.cell 1 _ rfl
      have ht2 : Hid (Tb w2) := ht.later B2
      clear hb2 k0 c0 R WO k1 ht
      go_wp2_with fail
      refine (FM _ ht2.out).mono ?_
      rintro e w3 ⟨rfl, hb3⟩
      clear FM c1 c2 ht2
      go_wp2
      go_ret
      exact ⟨by rw [HS.out]; rfl, bel_afterQ B2 hb3⟩

theorem wd_cell (k : Nat) (hk : k < 20) : ((wdL.map Value.string).toArray)[k]? = some (.string (wdB ((k : Int) + 1))) := by
  have e : ((k : Int) + 1 - 1).toNat = k := by omega
  unfold wdB
  rw [e]
  have : ∀ i : Fin 20, ((wdL.map Value.string).toArray)[i.1]? = some (.string (wdL.getD i.1 ⟨#[]⟩)) := fun i => by
    have h : i.1 < wdL.length := i.2
    simp [List.getD, h]
  exact this ⟨k, hk⟩
set_option maxRecDepth 100000 in
set_option maxHeartbeats 1000000 in
theorem specShow_any (op n : Int) (w : World) :
    Calls Tryd.prog 8 #[codeV op n] w fun e w' => e = .returned (.string (showB op n)) ∧ Below w.heap.size w w' := by
  have hmx : Tryd.prog.follows .mixedOrders = true := by kernel_rfl
  have R := specCodeOk_any op n
  have LB := l12Bounds_any op
  unfold codeV at *
  generalize hlo : bndL op = lo at LB
  generalize hhi : bndH op = hi at LB
  clear hlo hhi
  cases hc : cokB op n
  · have HS : Hid (showB op n = ⟨#[]⟩) := show_no hc
    rw [hc] at R
    clear hc LB
    generalize showB op n = sb at HS ⊢
    go_enter Tryd.func8, Tryd.ntmps8
    go_wp2_with fail
    refine (R _).mono ?_
    rintro e w1 ⟨rfl, hb1⟩
    have B1 := bel_afterQ (qbel w _) hb1
    clear hb1
    go_wp2
    go_ret
    exact ⟨by rw [HS.out]; rfl, B1⟩
  · have ho := cok_op hc
    have hn := cok_n hc
    have hw := (wd_plain ho).2.2
    have FM := fun (w : World) => l2Int_any n w (by omega) (by omega)
    have hz := itoaB_size (n := n) (by omega) (by omega)
    have HS : Hid (showB op n = if hasN op = true then wdB op ++ ⟨#[32]⟩ ++ itoaB n else wdB op) := (by unfold showB; rw [if_pos hc] : showB op n = _)
    change ∀ w, Calls _ _ _ w fun e w' => e = .returned (.string (itoaB n)) ∧ _ at FM
    rw [hc] at R
    clear hc hn
    obtain ⟨k, hk⟩ := Int.eq_ofNat_of_zero_le (a := op - 1) (by omega)
    obtain rfl : op = (k : Int) + 1 := by omega
    have hk20 : k < 20 := by omega
    have HC : Hid (((wdL.map Value.string).toArray)[k]? = some (.string (wdB ((k : Int) + 1)))) := wd_cell k hk20
    clear hk ho
    have i0 : (k : Int) < 20 := by omega
    generalize showB ((k : Int) + 1) n = sb at HS ⊢
    generalize wdB ((k : Int) + 1) = wb at HS hw HC
    generalize itoaB n = ib at HS FM hz
    generalize hasN ((k : Int) + 1) = hs at HS LB
    go_enter Tryd.func8, Tryd.ntmps8
    have k0 := Bk.new w #[.int .i64 ((k : Int) + 1), .int .i64 n] 25
    go_wp2_with fail
    refine (R _).mono ?_
    rintro e w1 ⟨rfl, hb1⟩
    have B1 := bel_afterQ (qbel w _) hb1
    replace k0 := k0.later hb1
    clear hb1 R
    go_wp2_with fail
    refine Disk.z_plain 99 (fun W' => W'.cell? ⟨w.heap.size, 0, none⟩ = some (.int .i64 ((k : Int) + 1))) hmx (k0.drew.cell 0 _ rfl) (fun hS => ?_)
    refine Disk.z_take 1 11 (v := .pointer (some ⟨w.heap.size, 0, none⟩)) rfl rfl (by kernel_rfl) (by kernel_rfl) (by kernel_rfl) (by kernel_rfl) (by rfl) hS (fun W' hSw => (by
      go_simp; first | done | with_reducible rfl)) ?_
    simp only [List.setIfInBounds_toArray, List.set_cons_zero, List.set_cons_succ]
    refine Disk.z_take 2 12 (v := .int .i64 ((k : Int) + 1)) rfl rfl (by kernel_rfl) (by kernel_rfl) (by kernel_rfl) (by kernel_rfl) (by rfl) hS (fun W' hSw => (by
      go_simp; first | done | with_reducible rfl)) ?_
    simp only [List.setIfInBounds_toArray, List.set_cons_zero, List.set_cons_succ]
    have sw : IntKind.i64.wrap (k : Int) = k := by rw [IntKind.wrap_i64]; omega
    refine Disk.z_take 3 13 (v := .int .i64 (k : Int)) rfl rfl (by kernel_rfl) (by kernel_rfl) (by kernel_rfl) (by kernel_rfl) (by rfl) hS (fun W' hSw => (by
      go_simp; first | done | exact sw | with_reducible rfl)) ?_
    simp only [List.setIfInBounds_toArray, List.set_cons_zero, List.set_cons_succ]
    refine Disk.z_call 0 10 rfl rfl (by kernel_rfl) (by rfl) (f := 22) (args := #[]) (w0 := w1.drew) (by go_simp; first | done | with_reducible rfl) ?_
    refine (l12Words_any _).mono ?_
    rintro e w2 ⟨rfl, k2, hb2⟩
    have B2 := bel_afterQ B1.drew hb2
    replace k0 := k0.drew.later hb2
    refine ⟨_, rfl, .inr (k0.cell 0 _ rfl), ?_⟩
    simp only [List.setIfInBounds_toArray, List.set_cons_zero, List.set_cons_succ]
    have c5 : w2.cell? ⟨w1.drew.heap.size, k, none⟩ = some (.string wb) := k2.cell k _ HC.out
    generalize w1.drew.heap.size = b2 at c5
    refine Disk.z_run 4 14 (v := .pointer (some ⟨b2, k, none⟩)) rfl rfl (by kernel_rfl) (by rfl) (by go_simp; first | done | with_reducible rfl) (.inr (k0.cell 0 _ rfl)) ?_
    simp only [List.setIfInBounds_toArray, List.set_cons_zero, List.set_cons_succ]
    refine Disk.z_run 5 15 (v := .string wb) rfl rfl (by kernel_rfl) (by rfl) (by go_simp; first | done | with_reducible rfl) (.inr (k0.cell 0 _ rfl)) ?_
    simp only [List.setIfInBounds_toArray, List.set_cons_zero, List.set_cons_succ]
    refine Disk.z_run 6 3 (v := .string wb) rfl rfl (by kernel_rfl) (by rfl) (by go_simp; first | done | with_reducible rfl) (.inr (k0.cell 0 _ rfl)) ?_
    simp only [List.setIfInBounds_toArray, List.set_cons_zero, List.set_cons_succ]
    refine Disk.z_done (by kernel_rfl) ?_ _
    have c0 : w2.cell? ⟨w.heap.size, 0, none⟩ = some (.int .i64 ((k : Int) + 1)) := k0.cell 0 _ rfl
    have c1 : w2.cell? ⟨w.heap.size, 1, none⟩ = some (.int .i64 n) := k0.cell 1 _ rfl
    clear k2 hS c5 HC hb2 k0
    go_wp2_with fail
    refine (LB _).mono ?_
    rintro e w3 ⟨rfl, rfl⟩
    cases hs
    · clear FM hz
      go_wp2
      go_ret
      exact ⟨by rw [HS.out]; rfl, B2⟩
    · go_wp2_with fail
      refine (FM _).mono ?_
      rintro e w4 ⟨rfl, hb4⟩
      clear FM c0 c1
      go_wp2
      go_ret
      exact ⟨by rw [HS.out]; rfl, bel_afterQ B2 hb4⟩

end Go.Proofs.YtimkdjolipnahaaDoor
