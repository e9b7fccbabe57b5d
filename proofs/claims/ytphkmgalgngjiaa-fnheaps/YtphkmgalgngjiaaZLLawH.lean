/- The law FnHeaps, walked. -/
import Derived.Test.YtphkmgalgngjiaaZLHeapOk
import Derived.Test.YtphkmgalgngjiaaZLHp
namespace Go.Proofs.Ytphkmgalgngjiaa
open Go.RowKit

set_option maxRecDepth 100000 in
set_option maxHeartbeats 6400000 in
theorem lawHeaps_any (cv : Value) (cs : List UInt8) (w : World) (hc : BR w cv cs) :
    Calls Try.prog 3 #[cv] w fun x w' => x = .returned (.bool true) ∧ Below w.heap.size w w' := by
  have BG := big_any cv cs w hc
  by_cases hbig : 4096 < cs.length
  · rw [decide_eq_true hbig] at BG
    go_enter Try.func3, Try.ntmps3
    go_wp2_with (go_at_call 4; refine BG.mono ?_; rintro x w' ⟨rfl, rfl⟩)
    go_ret
    exact ⟨rfl, Below.refl _ _⟩
  rw [decide_eq_false hbig] at BG
  have DH := drawHeapOk_any cv cs w hc (by omega)
  go_enter Try.func3, Try.ntmps3
  go_wp2_with fail
  refine BG.mono ?_
  rintro x w0 ⟨rfl, rfl⟩
  clear BG
  go_wp2_with fail
  refine DH.mono ?_
  rintro x w1 ⟨⟨t, v1, v2, v3, rfl, ha, wl, rl, kl⟩, hb1⟩
  clear DH
  have hr1 := ha.hr
  obtain ⟨p1, e1, rfl, -⟩ := IRs ha.w1
  obtain ⟨p2, e2, rfl, -⟩ := IRs (IR_of_owns ha.o2)
  obtain ⟨p3, e3, rfl, -⟩ := IRs (IR_of_owns ha.o3)
  have iw1 := ha.w1
  have al := bel_one w1 (.cells #[.slice p1 t.words.length e1, .slice p2 t.roots.length e2, .int .i64 t.old, .int .i64 t.eden, .int .i64 t.surv, .bool t.flip, .int .i64 t.hash, .slice p3 t.kept.length e3] 26)
  have X2 := Bx.new w1 (.slice p1 t.words.length e1) (.slice p2 t.roots.length e2) (.slice p3 t.kept.length e3) t 26
  have hr2 := hr1.later al
  have iw2 := iw1.later al
  have hbw2 := bel_after hb1 al
  clear ha hr1 iw1 hb1 al
  have OB := ob_short t
  have C1 := fun W hv => implHeapOk_c (.agg #[.slice p1 t.words.length e1, .slice p2 t.roots.length e2, .int .i64 t.old, .int .i64 t.eden, .int .i64 t.surv, .bool t.flip, .int .i64 t.hash, .slice p3 t.kept.length e3]) t W hv (by omega) (by omega)
  have C2 := fun W hv => implObjects_c (.agg #[.slice p1 t.words.length e1, .slice p2 t.roots.length e2, .int .i64 t.old, .int .i64 t.eden, .int .i64 t.surv, .bool t.flip, .int .i64 t.hash, .slice p3 t.kept.length e3]) t W hv (by omega) (by omega)
  have C3 := fun W hv => specHeapOk_c (.agg #[.slice p1 t.words.length e1, .slice p2 t.roots.length e2, .int .i64 t.old, .int .i64 t.eden, .int .i64 t.surv, .bool t.flip, .int .i64 t.hash, .slice p3 t.kept.length e3]) t W hv (by omega) (by omega)
  have C4 := fun W hv => specObjects_c (.agg #[.slice p1 t.words.length e1, .slice p2 t.roots.length e2, .int .i64 t.old, .int .i64 t.eden, .int .i64 t.surv, .bool t.flip, .int .i64 t.hash, .slice p3 t.kept.length e3]) t W hv (by omega) (by omega)
  have C5 := fun W hv => implYoung_c (.agg #[.slice p1 t.words.length e1, .slice p2 t.roots.length e2, .int .i64 t.old, .int .i64 t.eden, .int .i64 t.surv, .bool t.flip, .int .i64 t.hash, .slice p3 t.kept.length e3]) t W hv (by omega) (by omega)
  have C6 := fun x W hv => implHeader_c (.agg #[.slice p1 t.words.length e1, .slice p2 t.roots.length e2, .int .i64 t.old, .int .i64 t.eden, .int .i64 t.surv, .bool t.flip, .int .i64 t.hash, .slice p3 t.kept.length e3]) t x W hv (by omega) (by omega)
  have C7 := fun v u W hv hu => likeInts_any v u (ints (obC t)) W hv hu (by rw [ints_length]; omega)
  obtain ⟨x0, x1, x2, x3, x4, x5, x6, x7⟩ := id X2
  cases hk : okC t
  · have lo : obC t = [] := c_wrong hk
    have yo : yoC t = -1 := by unfold yoC; rw [hk]; rfl
    simp only [hk, lo, yo, List.length_nil] at C1 C2 C3 C4 C5 C7
    clear hk lo yo C6 OB
    go_wp2_with fail
    refine (C1 _ hr2).mono ?_
    rintro e w3 ⟨rfl, hb3⟩
    have hr3 := hr2.later hb3
    have X3 := X2.later hb3
    have hbw3 := bel_after hbw2 hb3
    clear hr2 X2 hbw2
    clear x0 x1 x2 x3 x4 x5 x6 x7
    obtain ⟨x0, x1, x2, x3, x4, x5, x6, x7⟩ := id X3
    go_wp2_with fail
    refine (C2 _ hr3).mono ?_
    rintro e w4 ⟨⟨lv, rfl, ho⟩, hb4⟩
    have hr4 := hr3.later hb4
    have X4 := X3.later hb4
    have hbw4 := bel_after hbw3 hb4
    clear hr3 X3 hbw3
    have il4 := IR_of_owns' ho
    obtain ⟨la, lc, rfl, -⟩ := intsI (l := []) il4
    clear ho
    clear x0 x1 x2 x3 x4 x5 x6 x7
    obtain ⟨x0, x1, x2, x3, x4, x5, x6, x7⟩ := id X4
    go_wp2_with fail
    refine (C3 _ hr4).mono ?_
    rintro e w5 ⟨rfl, hb5⟩
    have hr5 := hr4.later hb5
    have X5 := X4.later hb5
    have hbw5 := bel_after hbw4 hb5
    clear hr4 X4 hbw4
    have il5 := il4.later hb5
    clear il4
    clear x0 x1 x2 x3 x4 x5 x6 x7
    obtain ⟨x0, x1, x2, x3, x4, x5, x6, x7⟩ := id X5
    go_wp2_with fail
    refine (C4 _ hr5).mono ?_
    rintro e w6 ⟨⟨sv, rfl, is6⟩, hb6⟩
    have hr6 := hr5.later hb6
    have X6 := X5.later hb6
    have hbw6 := bel_after hbw5 hb6
    clear hr5 X5 hbw5
    have il6 := il5.later hb6
    clear il5
    obtain ⟨sa, sc, rfl, -⟩ := intsI (l := []) is6
    clear x0 x1 x2 x3 x4 x5 x6 x7
    obtain ⟨x0, x1, x2, x3, x4, x5, x6, x7⟩ := id X6
    go_wp2_with fail
    refine (C7 _ _ _ il6 is6).mono ?_
    rintro e w7 ⟨rfl, hb7⟩
    have hr7 := hr6.later hb7
    have X7 := X6.later hb7
    have hbw7 := bel_after hbw6 hb7
    clear hr6 X6 hbw6
    have il7 := il6.later hb7
    clear il6 is6
    clear x0 x1 x2 x3 x4 x5 x6 x7
    obtain ⟨x0, x1, x2, x3, x4, x5, x6, x7⟩ := id X7
    go_wp2_with fail
    refine (C5 _ hr7).mono ?_
    rintro e w8 ⟨rfl, hb8⟩
    have hbw8 := bel_after hbw7 hb8
    go_wp2
    go_ret
    exact ⟨rfl, hbw8⟩
  · have yo : yoC t = (((obC t).countP fun a => decide (2000 ≤ a) : Nat) : Int) := by unfold yoC; rw [hk]; rfl
    have HK : Hid (okC t = true ∧ (obC t).Pairwise (· < ·) ∧ PartsAt t (obC t) ∧ (1 ≤ t.hash ∧ t.hash ≤ 1000000000)) := ⟨hk, ok_sorted hk, (c_right hk).1, (c_right hk).2.2.1⟩
    have HD : Hid (∀ i, i < (obC t).length → isC t ((obC t).getD i 0 : Nat) = true ∧ (obC t).getD i 0 + 4 ≤ 3200 ∧ (0 ≤ gw t.words ((obC t).getD i 0) ∧ gw t.words ((obC t).getD i 0) ≤ 60) ∧ (0 ≤ gw t.words ((obC t).getD i 0 + 1) ∧ gw t.words ((obC t).getD i 0 + 1) ≤ 99) ∧
      (1 ≤ gw t.words ((obC t).getD i 0 + 2) ∧ gw t.words ((obC t).getD i 0 + 2) < t.hash) ∧ (0 ≤ gw t.words ((obC t).getD i 0 + 3) ∧ gw t.words ((obC t).getD i 0 + 3) ≤ 15)) := fun i hi => head_of hk hi
    have HF : Hid (∀ x : Nat, isC t x = true → ∀ i, hdC t x i = gw t.words (x + i)) := fun x q i => hd_yes q i
    simp only [hk] at C1 C3
    rw [yo] at C5
    clear hk yo
    generalize obC t = l at *
    go_wp2_with fail
    refine (C1 _ hr2).mono ?_
    rintro e w3 ⟨rfl, hb3⟩
    have hr3 := hr2.later hb3
    have X3 := X2.later hb3
    have hbw3 := bel_after hbw2 hb3
    clear hr2 X2 hbw2
    clear x0 x1 x2 x3 x4 x5 x6 x7
    obtain ⟨x0, x1, x2, x3, x4, x5, x6, x7⟩ := id X3
    go_wp2_with fail
    refine (C2 _ hr3).mono ?_
    rintro e w4 ⟨⟨lv, rfl, ho⟩, hb4⟩
    have hr4 := hr3.later hb4
    have X4 := X3.later hb4
    have hbw4 := bel_after hbw3 hb4
    clear hr3 X3 hbw3
    have il4 := IR_of_owns' ho
    obtain ⟨la, lc, rfl, -⟩ := intsI il4
    clear ho
    clear x0 x1 x2 x3 x4 x5 x6 x7
    obtain ⟨x0, x1, x2, x3, x4, x5, x6, x7⟩ := id X4
    go_wp2_with fail
    refine (C3 _ hr4).mono ?_
    rintro e w5 ⟨rfl, hb5⟩
    have hr5 := hr4.later hb5
    have X5 := X4.later hb5
    have hbw5 := bel_after hbw4 hb5
    clear hr4 X4 hbw4
    have il5 := il4.later hb5
    clear il4
    clear x0 x1 x2 x3 x4 x5 x6 x7
    obtain ⟨x0, x1, x2, x3, x4, x5, x6, x7⟩ := id X5
    go_wp2_with fail
    refine (C4 _ hr5).mono ?_
    rintro e w6 ⟨⟨sv, rfl, is6⟩, hb6⟩
    have hr6 := hr5.later hb6
    have X6 := X5.later hb6
    have hbw6 := bel_after hbw5 hb6
    clear hr5 X5 hbw5
    have il6 := il5.later hb6
    clear il5
    obtain ⟨sa, sc, rfl, -⟩ := intsI is6
    clear x0 x1 x2 x3 x4 x5 x6 x7
    obtain ⟨x0, x1, x2, x3, x4, x5, x6, x7⟩ := id X6
    go_wp2_with fail
    refine (C7 _ _ _ il6 is6).mono ?_
    rintro e w7 ⟨rfl, hb7⟩
    have hr7 := hr6.later hb7
    have X7 := X6.later hb7
    have hbw7 := bel_after hbw6 hb7
    clear hr6 X6 hbw6
    have il7 := il6.later hb7
    clear il6 is6
    clear x0 x1 x2 x3 x4 x5 x6 x7
    obtain ⟨x0, x1, x2, x3, x4, x5, x6, x7⟩ := id X7
    have iw7 := (((((iw2.later hb3).later hb4).later hb5).later hb6).later hb7)
    clear iw2 hb3 hb4 hb5 hb6 hb7 C1 C2 C3 C4 C7
    obtain ⟨wp, wc, we, -, wcell⟩ := id iw7
    simp only [Value.slice.injEq, true_and] at we
    obtain ⟨rfl, rfl⟩ := we
    obtain ⟨wb, wo, rfl, -⟩ := wcell 0 (by have := HK.out.2.2.1.1; omega)
    have WC : Hid (∀ i, i < 3200 → w7.cell? ⟨wb, wo + i, none⟩ = some (.int .i64 (gw t.words i))) := fun i hi => by
      obtain ⟨b, o, e, hcl⟩ := wcell i (by have := HK.out.2.2.1.1; omega)
      simp only [Option.some.injEq, Addr.mk.injEq, and_true] at e
      obtain ⟨rfl, rfl⟩ := e
      exact hcl
    obtain ⟨la', lc', le, lcell⟩ := intsI il7
    simp only [Value.slice.injEq, true_and] at le
    obtain ⟨rfl, rfl⟩ := le
    have LC : Hid (∀ k, k < l.length → ∃ b o, la = some ⟨b, o, none⟩ ∧ w7.cell? ⟨b, o + k, none⟩ = some (.int .i64 ((l.getD k 0 : Nat) : Int))) := lcell
    clear lcell wcell iw7 il7
    go_wp2
    go_loopw [6, 7, 8] (fun sv yv iv wr => ∃ k : Nat, k ≤ l.length ∧ iv = .int .i64 k ∧ sv = .int .i64 (szS t.words (l.take k)) ∧ yv = .int .i64 (((l.take k).countP fun a => decide (2000 ≤ a) : Nat) : Int) ∧ Below w7.heap.size w7 wr) (fun _ _ iv _ => l.length - (intOf iv).toNat)
    case atStart => exact ⟨0, Nat.zero_le _, rfl, rfl, rfl, Below.refl _ _⟩
    case round =>
      obtain ⟨k, hk, rfl, rfl, rfl, hb⟩ := hrel
      have hr8 := hr7.later hb
      have X8 := X7.later hb
      by_cases hlt : k < l.length
      · obtain ⟨lb, lo, rfl, -⟩ := LC.out k hlt
        have LCC : ∀ j, j < l.length → w7.cell? ⟨lb, lo + j, none⟩ = some (.int .i64 ((l.getD j 0 : Nat) : Int)) := fun j hj => by
          obtain ⟨b, o, e, hcl⟩ := LC.out j hj
          simp only [Option.some.injEq, Addr.mk.injEq, and_true] at e
          obtain ⟨rfl, rfl⟩ := e
          exact hcl
        have cA7 := LCC k hlt
        obtain ⟨hi, ha4, ⟨z0a, z0b⟩, ⟨z1a, z1b⟩, ⟨z2a, z2b⟩, ⟨z3a, z3b⟩⟩ := HD.out k hlt
        have CH := C6 ((l.getD k 0 : Nat) : Int) _ (hr8.later (Below.refl _ _).drew)
        rw [HF.out _ hi 0, HF.out _ hi 1, HF.out _ hi 2, HF.out _ hi 3, Nat.add_zero] at CH
        unfold hdV at CH
        have cw7 := WC.out (l.getD k 0) (by omega)
        have cs : Hid ((((l.take (k + 1)).countP fun a => decide (2000 ≤ a) : Nat) : Int) = ((l.take k).countP fun a => decide (2000 ≤ a) : Nat) + (if 2000 ≤ l.getD k 0 then 1 else 0)) := count_snoc l k hlt
        have ss : Hid (szS t.words (l.take (k + 1)) = szS t.words (l.take k) + 4 + gw t.words (l.getD k 0)) := szS_snoc _ l k hlt
        have cl := count_le l k
        have OB' : l.length ≤ 3200 := OB
        obtain ⟨bd0, bd1⟩ := szS_bound HK.out.2.2.1 k
        have pr : Hid (∀ j, k = j + 1 → w7.cell? ⟨lb, lo + j, none⟩ = some (.int .i64 ((l.getD j 0 : Nat) : Int)) ∧ l.getD j 0 < l.getD k 0) := fun j e => ⟨LCC j (by omega), by subst e; exact rise HK.out.2.1 hlt⟩
        generalize l.getD k 0 = a at *
        generalize gw t.words (a + 1) = z1 at *
        generalize gw t.words (a + 2) = z2 at *
        generalize gw t.words (a + 3) = z3 at *
        generalize gw t.words a = z0 at *
        generalize szS t.words (l.take k) = sk at *
        generalize ((l.take k).countP fun a => decide (2000 ≤ a)) = cn at *
        clear x0 x1 x2 x3 x4 x5 x6 x7 LCC hi hr8
        have hmx : Try.prog.follows .mixedOrders = true := by kernel_rfl
        have cA8 := cell_later hb cA7
        have hs0 : (fun W' => Below wr.heap.size wr W' ∧ W'.cell? ⟨w1.heap.size, 0, none⟩ = some (.slice (some ⟨wb, wo, none⟩) t.words.length e1) ∧ W'.cell? ⟨w1.heap.size, 1, none⟩ = some (.slice p2 t.roots.length e2) ∧ W'.cell? ⟨w1.heap.size, 2, none⟩ = some (.int .i64 t.old) ∧ W'.cell? ⟨w1.heap.size, 3, none⟩ = some (.int .i64 t.eden) ∧ W'.cell? ⟨w1.heap.size, 4, none⟩ = some (.int .i64 t.surv) ∧ W'.cell? ⟨w1.heap.size, 5, none⟩ = some (.bool t.flip) ∧ W'.cell? ⟨w1.heap.size, 6, none⟩ = some (.int .i64 t.hash) ∧ W'.cell? ⟨w1.heap.size, 7, none⟩ = some (.slice p3 t.kept.length e3) ∧ W'.cell? ⟨lb, lo + k, none⟩ = some (.int .i64 (a : Int))) wr.drew := ⟨(Below.refl _ _).drew, X8.c0, X8.c1, X8.c2, X8.c3, X8.c4, X8.c5, X8.c6, X8.c7, cA8⟩
        have kl : (k : Int) < (l.length : Int) := by omega
        go_wp2_with fail
        refine Disk.z_plain 99 (fun W' => Below wr.heap.size wr W' ∧ W'.cell? ⟨w1.heap.size, 0, none⟩ = some (.slice (some ⟨wb, wo, none⟩) t.words.length e1) ∧ W'.cell? ⟨w1.heap.size, 1, none⟩ = some (.slice p2 t.roots.length e2) ∧ W'.cell? ⟨w1.heap.size, 2, none⟩ = some (.int .i64 t.old) ∧ W'.cell? ⟨w1.heap.size, 3, none⟩ = some (.int .i64 t.eden) ∧ W'.cell? ⟨w1.heap.size, 4, none⟩ = some (.int .i64 t.surv) ∧ W'.cell? ⟨w1.heap.size, 5, none⟩ = some (.bool t.flip) ∧ W'.cell? ⟨w1.heap.size, 6, none⟩ = some (.int .i64 t.hash) ∧ W'.cell? ⟨w1.heap.size, 7, none⟩ = some (.slice p3 t.kept.length e3) ∧ W'.cell? ⟨lb, lo + k, none⟩ = some (.int .i64 (a : Int))) hmx hs0 (fun hs => ?_)
        refine Disk.z_take 0 50 (v := .agg #[.slice (some ⟨wb, wo, none⟩) t.words.length e1, .slice p2 t.roots.length e2, .int .i64 t.old, .int .i64 t.eden, .int .i64 t.surv, .bool t.flip, .int .i64 t.hash, .slice p3 t.kept.length e3]) rfl rfl (by kernel_rfl) (by kernel_rfl) (by kernel_rfl) (by kernel_rfl) (by rfl) hs (fun W' hSw => (by
          obtain ⟨sb, s0, s1, s2, s3, s4, s5, s6, s7, sl⟩ := hSw
          go_simp; first | done | with_reducible rfl)) ?_
        simp only [List.setIfInBounds_toArray, List.set_cons_zero, List.set_cons_succ]
        refine Disk.z_take 1 51 (v := .slice (some ⟨lb, lo, none⟩) l.length lc) rfl rfl (by kernel_rfl) (by kernel_rfl) (by kernel_rfl) (by kernel_rfl) (by rfl) hs (fun W' hSw => (by
          obtain ⟨sb, s0, s1, s2, s3, s4, s5, s6, s7, sl⟩ := hSw
          go_simp; first | done | with_reducible rfl)) ?_
        simp only [List.setIfInBounds_toArray, List.set_cons_zero, List.set_cons_succ]
        refine Disk.z_take 2 52 (v := .int .i64 k) rfl rfl (by kernel_rfl) (by kernel_rfl) (by kernel_rfl) (by kernel_rfl) (by rfl) hs (fun W' hSw => (by
          obtain ⟨sb, s0, s1, s2, s3, s4, s5, s6, s7, sl⟩ := hSw
          go_simp; first | done | with_reducible rfl)) ?_
        simp only [List.setIfInBounds_toArray, List.set_cons_zero, List.set_cons_succ]
        refine Disk.z_take 3 53 (v := .pointer (some ⟨lb, lo + k, none⟩)) rfl rfl (by kernel_rfl) (by kernel_rfl) (by kernel_rfl) (by kernel_rfl) (by rfl) hs (fun W' hSw => (by
          obtain ⟨sb, s0, s1, s2, s3, s4, s5, s6, s7, sl⟩ := hSw
          go_simp; first | done | with_reducible rfl)) ?_
        simp only [List.setIfInBounds_toArray, List.set_cons_zero, List.set_cons_succ]
        refine Disk.z_take 4 54 (v := .int .i64 (a : Int)) rfl rfl (by kernel_rfl) (by kernel_rfl) (by kernel_rfl) (by kernel_rfl) (by rfl) hs (fun W' hSw => (by
          obtain ⟨sb, s0, s1, s2, s3, s4, s5, s6, s7, sl⟩ := hSw
          go_simp; first | done | with_reducible rfl)) ?_
        simp only [List.setIfInBounds_toArray, List.set_cons_zero, List.set_cons_succ]
        refine Disk.z_call 5 55 rfl rfl (by kernel_rfl) (by rfl) (f := 12) (args := #[.agg #[.slice (some ⟨wb, wo, none⟩) t.words.length e1, .slice p2 t.roots.length e2, .int .i64 t.old, .int .i64 t.eden, .int .i64 t.surv, .bool t.flip, .int .i64 t.hash, .slice p3 t.kept.length e3], .int .i64 (a : Int)]) (w0 := wr.drew) (by go_simp) ?_
        refine CH.mono ?_
        rintro e vq ⟨rfl, hbq⟩
        have hbq' : Below wr.heap.size wr vq := (Below.refl _ _).drew.trans (hbq.mono (Nat.le_refl _))
        have hs1 : (fun W' => Below wr.heap.size wr W' ∧ W'.cell? ⟨w1.heap.size, 0, none⟩ = some (.slice (some ⟨wb, wo, none⟩) t.words.length e1) ∧ W'.cell? ⟨w1.heap.size, 1, none⟩ = some (.slice p2 t.roots.length e2) ∧ W'.cell? ⟨w1.heap.size, 2, none⟩ = some (.int .i64 t.old) ∧ W'.cell? ⟨w1.heap.size, 3, none⟩ = some (.int .i64 t.eden) ∧ W'.cell? ⟨w1.heap.size, 4, none⟩ = some (.int .i64 t.surv) ∧ W'.cell? ⟨w1.heap.size, 5, none⟩ = some (.bool t.flip) ∧ W'.cell? ⟨w1.heap.size, 6, none⟩ = some (.int .i64 t.hash) ∧ W'.cell? ⟨w1.heap.size, 7, none⟩ = some (.slice p3 t.kept.length e3) ∧ W'.cell? ⟨lb, lo + k, none⟩ = some (.int .i64 (a : Int))) vq := ⟨hbq', cell_later hbq' X8.c0, cell_later hbq' X8.c1, cell_later hbq' X8.c2, cell_later hbq' X8.c3, cell_later hbq' X8.c4, cell_later hbq' X8.c5, cell_later hbq' X8.c6, cell_later hbq' X8.c7, cell_later hbq' cA8⟩
        refine ⟨_, rfl, .inr hs1, ?_⟩
        simp only [List.setIfInBounds_toArray, List.set_cons_zero, List.set_cons_succ]
        refine Disk.z_take 6 49 (v := (.tuple #[.int .i64 z0, .int .i64 z1, .int .i64 z2, .int .i64 z3])) rfl rfl (by kernel_rfl) (by kernel_rfl) (by kernel_rfl) (by kernel_rfl) (by rfl) hs1 (fun W' hSw => (by
          obtain ⟨sb, s0, s1, s2, s3, s4, s5, s6, s7, sl⟩ := hSw
          go_simp; first | done | with_reducible rfl)) ?_
        simp only [List.setIfInBounds_toArray, List.set_cons_zero, List.set_cons_succ]
        refine Disk.z_take 7 56 (v := .int .i64 z0) rfl rfl (by kernel_rfl) (by kernel_rfl) (by kernel_rfl) (by kernel_rfl) (by rfl) hs1 (fun W' hSw => (by
          obtain ⟨sb, s0, s1, s2, s3, s4, s5, s6, s7, sl⟩ := hSw
          go_simp; first | done | with_reducible rfl)) ?_
        simp only [List.setIfInBounds_toArray, List.set_cons_zero, List.set_cons_succ]
        refine Disk.z_take 8 57 (v := .int .i64 z1) rfl rfl (by kernel_rfl) (by kernel_rfl) (by kernel_rfl) (by kernel_rfl) (by rfl) hs1 (fun W' hSw => (by
          obtain ⟨sb, s0, s1, s2, s3, s4, s5, s6, s7, sl⟩ := hSw
          go_simp; first | done | with_reducible rfl)) ?_
        simp only [List.setIfInBounds_toArray, List.set_cons_zero, List.set_cons_succ]
        refine Disk.z_take 9 58 (v := .int .i64 z2) rfl rfl (by kernel_rfl) (by kernel_rfl) (by kernel_rfl) (by kernel_rfl) (by rfl) hs1 (fun W' hSw => (by
          obtain ⟨sb, s0, s1, s2, s3, s4, s5, s6, s7, sl⟩ := hSw
          go_simp; first | done | with_reducible rfl)) ?_
        simp only [List.setIfInBounds_toArray, List.set_cons_zero, List.set_cons_succ]
        refine Disk.z_take 10 59 (v := .int .i64 z3) rfl rfl (by kernel_rfl) (by kernel_rfl) (by kernel_rfl) (by kernel_rfl) (by rfl) hs1 (fun W' hSw => (by
          obtain ⟨sb, s0, s1, s2, s3, s4, s5, s6, s7, sl⟩ := hSw
          go_simp; first | done | with_reducible rfl)) ?_
        simp only [List.setIfInBounds_toArray, List.set_cons_zero, List.set_cons_succ]
        refine Disk.z_take 11 9 (v := .int .i64 z0) rfl rfl (by kernel_rfl) (by kernel_rfl) (by kernel_rfl) (by kernel_rfl) (by rfl) hs1 (fun W' hSw => (by
          obtain ⟨sb, s0, s1, s2, s3, s4, s5, s6, s7, sl⟩ := hSw
          go_simp; first | done | with_reducible rfl)) ?_
        simp only [List.setIfInBounds_toArray, List.set_cons_zero, List.set_cons_succ]
        refine Disk.z_take 12 10 (v := .int .i64 z1) rfl rfl (by kernel_rfl) (by kernel_rfl) (by kernel_rfl) (by kernel_rfl) (by rfl) hs1 (fun W' hSw => (by
          obtain ⟨sb, s0, s1, s2, s3, s4, s5, s6, s7, sl⟩ := hSw
          go_simp; first | done | with_reducible rfl)) ?_
        simp only [List.setIfInBounds_toArray, List.set_cons_zero, List.set_cons_succ]
        refine Disk.z_take 13 11 (v := .int .i64 z2) rfl rfl (by kernel_rfl) (by kernel_rfl) (by kernel_rfl) (by kernel_rfl) (by rfl) hs1 (fun W' hSw => (by
          obtain ⟨sb, s0, s1, s2, s3, s4, s5, s6, s7, sl⟩ := hSw
          go_simp; first | done | with_reducible rfl)) ?_
        simp only [List.setIfInBounds_toArray, List.set_cons_zero, List.set_cons_succ]
        refine Disk.z_take 14 12 (v := .int .i64 z3) rfl rfl (by kernel_rfl) (by kernel_rfl) (by kernel_rfl) (by kernel_rfl) (by rfl) hs1 (fun W' hSw => (by
          obtain ⟨sb, s0, s1, s2, s3, s4, s5, s6, s7, sl⟩ := hSw
          go_simp; first | done | with_reducible rfl)) ?_
        simp only [List.setIfInBounds_toArray, List.set_cons_zero, List.set_cons_succ]
        refine Disk.z_done (by kernel_rfl) ?_ _
        have hb9 : Below w7.heap.size w7 vq := bel_after hb hbq'
        obtain ⟨y0, y1, y2, y3, y4, y5, y6, y7⟩ := X7.later hb9
        have cA9 := cell_later hb9 cA7
        have cw9 := cell_later hb9 cw7
        have g1 : decide (z1 < 0) = false := decide_eq_false (by omega)
        have g2 : decide (99 < z1) = false := decide_eq_false (by omega)
        have g3 : decide (z2 < 1) = false := decide_eq_false (by omega)
        have g4 : decide (t.hash ≤ z2) = false := decide_eq_false (by omega)
        have g5 : decide (z3 < 0) = false := decide_eq_false (by omega)
        have g6 : decide (15 < z3) = false := decide_eq_false (by omega)
        have lta : (a : Int) < (t.words.length : Int) := by have := HK.out.2.2.1.1; omega
        have hk1 : k + 1 ≤ l.length := hlt
        clear hs1 hs hs0 CH X8 hbq hbq' cA7 cw7 cA8 C6 C5 hr7 X7 hb
        rcases Nat.eq_zero_or_pos k with k0 | k0
        · have kz : ¬ (0 : Int) < (k : Int) := by omega
          have kd : decide (0 < k) = false := decide_eq_false (by omega)
          clear pr k0 kz hlt
          go_wp2_with fail
          go_quiet (fail)
          by_cases hy : 2000 ≤ a
          · have D : 2000 ≤ (a : Int) := by omega
            rw [if_pos hy] at cs
            go_wp2
            all_goals first
              | exact ⟨⟨_, hk1, by go_num, by rw [ss.out], by rw [cs.out]; simp, below_drewN hb9 _⟩, by simp [intOf]; omega⟩
              | exact ⟨⟨_, hk1, by go_num, by rw [ss.out], by rw [cs.out], below_drewN hb9 _⟩, by simp [intOf]; omega⟩
          · have D : ¬ 2000 ≤ (a : Int) := by omega
            rw [if_neg hy] at cs
            go_wp2
            all_goals first
              | exact ⟨⟨_, hk1, by go_num, by rw [ss.out], by rw [cs.out]; simp, below_drewN hb9 _⟩, by simp [intOf]; omega⟩
              | exact ⟨⟨_, hk1, by go_num, by rw [ss.out], by rw [cs.out], below_drewN hb9 _⟩, by simp [intOf]; omega⟩
        · obtain ⟨j, ej⟩ : ∃ j, k = j + 1 := ⟨k - 1, by omega⟩
          obtain ⟨cP7, hP⟩ := pr.out j ej
          have cP9 := cell_later hb9 cP7
          have wr1 : IntKind.i64.wrap ((k : Int) - 1) = (j : Int) := by
            have hj9 : l.length ≤ 3200 := OB'
            simp [IntKind.wrap, IntKind.bits, IntKind.signed]
            omega
          have gP : decide (a ≤ l.getD j 0) = false := decide_eq_false (by omega)
          have gP' : decide ((a : Int) ≤ ((l.getD j 0 : Nat) : Int)) = false := decide_eq_false (by omega)
          clear pr cP7
          generalize l.getD j 0 = q at *
          have jl : (j : Int) < (l.length : Int) := by omega
          have kp : (0 : Int) < (k : Int) := by omega
          clear ej
          go_wp2_with fail
          go_quiet (fail)
          by_cases hy : 2000 ≤ a
          · have D : 2000 ≤ (a : Int) := by omega
            rw [if_pos hy] at cs
            go_wp2
            all_goals first
              | exact ⟨⟨_, hk1, by go_num, by rw [ss.out], by rw [cs.out]; simp, below_drewN hb9 _⟩, by simp [intOf]; omega⟩
              | exact ⟨⟨_, hk1, by go_num, by rw [ss.out], by rw [cs.out], below_drewN hb9 _⟩, by simp [intOf]; omega⟩
          · have D : ¬ 2000 ≤ (a : Int) := by omega
            rw [if_neg hy] at cs
            go_wp2
            all_goals first
              | exact ⟨⟨_, hk1, by go_num, by rw [ss.out], by rw [cs.out]; simp, below_drewN hb9 _⟩, by simp [intOf]; omega⟩
              | exact ⟨⟨_, hk1, by go_num, by rw [ss.out], by rw [cs.out], below_drewN hb9 _⟩, by simp [intOf]; omega⟩
      · obtain rfl : k = l.length := by omega
        rw [List.take_length]
        have SZ := szS_all HK.out.2.2.1
        obtain ⟨-, ⟨o1, o2⟩, ⟨d1, d2⟩, ⟨s1, s2⟩, -⟩ := HK.out.2.2.1
        have hbw8 := bel_after hbw7 hb
        have cl := count_le l l.length
        rw [List.take_length] at cl
        have OB' : l.length ≤ 3200 := OB
        clear x0 x1 x2 x3 x4 x5 x6 x7 C6 HD HF LC WC
        obtain ⟨x0, x1, x2, x3, x4, x5, x6, x7⟩ := id X8
        generalize (l.countP fun a => decide (2000 ≤ a)) = cn at *
        cases hfl : t.flip
        · simp only [hfl] at x5 C5 hr8
          have sB : (survB t.flip : Int) = 2600 := by rw [hfl]; rfl
          rw [sB] at SZ s1 s2
          clear hfl sB
          generalize szS t.words l = sv at *
          subst SZ
          go_wp2_with fail
          refine (C5 _ hr8).mono ?_
          rintro e wy ⟨rfl, hby⟩
          have hbw9 := bel_after hbw8 hby
          go_wp2_with fail
          refine (implNewHeap_any _).mono ?_
          rintro e wn ⟨⟨nv, rfl, hn⟩, hbn⟩
          have hbwn := bel_after hbw9 hbn
          have NH := implHeapOk_c _ newH _ hn.hr (by show ([] : List Int).length ≤ _; simp) (by show ([] : List Int).length ≤ _; simp)
          rw [new_ok] at NH
          go_wp2_with fail
          refine NH.mono ?_
          rintro e wo9 ⟨rfl, hbo⟩
          have hbwo := bel_after hbwn hbo
          go_wp2
          go_ret
          exact ⟨rfl, hbwo⟩
        · simp only [hfl] at x5 C5 hr8
          have sB : (survB t.flip : Int) = 2900 := by rw [hfl]; rfl
          rw [sB] at SZ s1 s2
          clear hfl sB
          generalize szS t.words l = sv at *
          subst SZ
          go_wp2_with fail
          refine (C5 _ hr8).mono ?_
          rintro e wy ⟨rfl, hby⟩
          have hbw9 := bel_after hbw8 hby
          go_wp2_with fail
          refine (implNewHeap_any _).mono ?_
          rintro e wn ⟨⟨nv, rfl, hn⟩, hbn⟩
          have hbwn := bel_after hbw9 hbn
          have NH := implHeapOk_c _ newH _ hn.hr (by show ([] : List Int).length ≤ _; simp) (by show ([] : List Int).length ≤ _; simp)
          rw [new_ok] at NH
          go_wp2_with fail
          refine NH.mono ?_
          rintro e wo9 ⟨rfl, hbo⟩
          have hbwo := bel_after hbwn hbo
          go_wp2
          go_ret
          exact ⟨rfl, hbwo⟩

end Go.Proofs.Ytphkmgalgngjiaa
