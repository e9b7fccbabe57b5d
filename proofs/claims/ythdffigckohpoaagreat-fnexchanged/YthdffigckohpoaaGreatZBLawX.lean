/- The law FnExchanged, walked. -/
import Derived.Test.YthdffigckohpoaaGreatZU15
import Derived.Test.YthdffigckohpoaaGreatZU17
import Derived.Test.YthdffigckohpoaaGreatZBFwS
import Derived.Test.YthdffigckohpoaaGreatZBRf
namespace Go.Proofs.YthdffigckohpoaaGreat
open Go.RowKit

set_option maxRecDepth 100000 in
set_option maxHeartbeats 6400000 in
theorem lawExchanged_any (cv : Value) (cs : List UInt8) (w : World) (hc : BR w cv cs) :
    Calls Tryz.prog 4 #[cv] w fun x w' => x = .returned (.bool true) ∧ Below w.heap.size w w' := by
  have BG := big_any cv cs w hc
  by_cases hbig : 4096 < cs.length
  · rw [decide_eq_true hbig] at BG
    go_enter Tryz.func4, Tryz.ntmps4
    go_wp2_with (go_at_call 6; refine BG.mono ?_; rintro x w' ⟨rfl, rfl⟩)
    go_ret
    exact ⟨rfl, Below.refl _ _⟩
  rw [decide_eq_false hbig] at BG
  go_enter Tryz.func4, Tryz.ntmps4
  go_wp2_with fail
  refine BG.mono ?_
  rintro x w0 ⟨rfl, rfl⟩
  clear BG
  have hbw := Below.refl w0.heap.size w0
  go_wp2_with fail
  refine (drawExchange_any cv cs _ (hc.later hbw) (by omega)).mono ?_
  rintro x w1 ⟨⟨t, hv1, hv2, hv3, y, i, rfl, hy, hi, hh, hwl, hrl, hkl⟩, hb⟩
  replace hbw := bel_after hbw hb
  clear hb
  have rh := hh.hr
  have ih1 := hh.w1
  have ih2 := IR_of_owns hh.o2
  obtain ⟨ha1, hc1, rfl, -⟩ := IRs hh.w1
  obtain ⟨ha2, hc2, rfl, -⟩ := IRs (IR_of_owns hh.o2)
  obtain ⟨ha3, hc3, rfl, -⟩ := IRs (IR_of_owns hh.o3)
  clear hh
  have al := bel_one w1 (.cells #[.slice ha1 t.words.length hc1, .slice ha2 t.roots.length hc2, .int .i64 t.old, .int .i64 t.eden, .int .i64 t.surv, .bool t.flip, .int .i64 t.hash, .slice ha3 t.kept.length hc3] 26)
  replace rh := rh.later al
  replace ih1 := ih1.later al
  replace ih2 := ih2.later al
  have Xx := Bx.new w1 (.slice ha1 t.words.length hc1) (.slice ha2 t.roots.length hc2) (.slice ha3 t.kept.length hc3) t 26
  replace hbw := bel_after hbw al
  clear al
  obtain ⟨x0, x1, x2, x3, x4, x5, x6, x7⟩ := id Xx
  have hmx : Tryz.prog.follows .mixedOrders = true := by kernel_rfl
  have PN : Hid (befB t y i = false → beC (exg y i) t y i = zeroH) := fun q => be_no q
  have PA : Hid (befB t y i = true → okC (beC (exg y i) t y i) = true ∧ (befB (beC (exg y i) t y i) y i = true ∧ beC (exg y i) (beC (exg y i) t y i) y i = t) ∧ (befB t i y = true ∧ beC (exg i y) t i y = beC (exg y i) t y i) ∧ rfC (beC (exg y i) t y i) y = rfC t i) := fun q => exchanged q
  obtain ⟨rb1, rb2, rb3⟩ := be_short (f := exg y i) (h := t) (a := y) (b := i)
  have C1 := fun v W hv => implExchange_c v t y i W hv (by omega) (by omega) (by omega)
  have C2 := fun v W hv => specExchange_c v t y i W hv (by omega) (by omega) (by omega) hy hi
  generalize beC (exg y i) t y i = r at *
  generalize befB t y i = b at *
  have LH := fun v u W hv hu => likeHeap_any v u r W hv hu (by omega) (by omega) (by omega)
  have tb : (b != b) = false := by simp
  go_wp2_with fail
  refine (C1 _ _ rh).mono ?_
  rintro e w2 ⟨⟨uu, rfl, hu⟩, hb⟩
  replace Xx := Xx.later hb
  replace rh := rh.later hb
  replace ih1 := ih1.later hb
  replace ih2 := ih2.later hb
  replace hbw := bel_after hbw hb
  clear hb
  have ru := hu.hr
  obtain ⟨ua1, uc1, ua2, uc2, ua3, uc3, rfl, iu1, iu2, iu3⟩ := hu.sh
  clear hu
  have al := bel_one w2 (.cells #[.slice ua1 r.words.length uc1, .slice ua2 r.roots.length uc2, .int .i64 r.old, .int .i64 r.eden, .int .i64 r.surv, .bool r.flip, .int .i64 r.hash, .slice ua3 r.kept.length uc3] 26)
  replace Xx := Xx.later al
  replace rh := rh.later al
  replace ih1 := ih1.later al
  replace ih2 := ih2.later al
  replace ru := ru.later al
  replace iu1 := iu1.later al
  replace iu2 := iu2.later al
  replace iu3 := iu3.later al
  have Xu := Bx.new w2 (.slice ua1 r.words.length uc1) (.slice ua2 r.roots.length uc2) (.slice ua3 r.kept.length uc3) r 26
  replace hbw := bel_after hbw al
  clear al
  clear x0 x1 x2 x3 x4 x5 x6 x7
  obtain ⟨x0, x1, x2, x3, x4, x5, x6, x7⟩ := id Xx
  go_wp2_with fail
  refine (C2 _ _ rh).mono ?_
  rintro e w3 ⟨⟨su, rfl, hs⟩, hb⟩
  replace Xx := Xx.later hb
  replace Xu := Xu.later hb
  replace rh := rh.later hb
  replace ih1 := ih1.later hb
  replace ih2 := ih2.later hb
  replace ru := ru.later hb
  replace iu1 := iu1.later hb
  replace iu2 := iu2.later hb
  replace iu3 := iu3.later hb
  replace hbw := bel_after hbw hb
  clear hb
  have rs := hs.hr
  obtain ⟨sa1, sc1, sa2, sc2, sa3, sc3, rfl, is1, is2, is3⟩ := hs.sh
  clear hs
  have al := bel_one w3 (.cells #[.slice sa1 r.words.length sc1, .slice sa2 r.roots.length sc2, .int .i64 r.old, .int .i64 r.eden, .int .i64 r.surv, .bool r.flip, .int .i64 r.hash, .slice sa3 r.kept.length sc3] 26)
  replace Xx := Xx.later al
  replace Xu := Xu.later al
  replace rh := rh.later al
  replace ih1 := ih1.later al
  replace ih2 := ih2.later al
  replace ru := ru.later al
  replace iu1 := iu1.later al
  replace iu2 := iu2.later al
  replace iu3 := iu3.later al
  replace rs := rs.later al
  replace is1 := is1.later al
  replace is2 := is2.later al
  replace is3 := is3.later al
  have Xs := Bx.new w3 (.slice sa1 r.words.length sc1) (.slice sa2 r.roots.length sc2) (.slice sa3 r.kept.length sc3) r 26
  replace hbw := bel_after hbw al
  clear al
  clear x0 x1 x2 x3 x4 x5 x6 x7
  obtain ⟨u0, u1, u2, u3, u4, u5, u6, u7⟩ := id Xu
  obtain ⟨s0, s1, s2, s3, s4, s5, s6, s7⟩ := id Xs
  go_wp2_with fail
  refine (LH _ _ _ ru rs).mono ?_
  rintro e w4 ⟨rfl, hb⟩
  replace Xx := Xx.later hb
  replace Xu := Xu.later hb
  replace rh := rh.later hb
  replace ru := ru.later hb
  replace hbw := bel_after hbw hb
  clear hb C1 C2 rs is1 is2 is3 Xs iu1 iu2 iu3 ih1 ih2
  clear s0 s1 s2 s3 s4 s5 s6 s7 u0 u1 u2 u3 u4 u5 u6 u7
  cases b
  · clear PA
    obtain rfl := PN.out rfl
    clear PN
    obtain ⟨u0, u1, u2, u3, u4, u5, u6, u7⟩ := id Xu
    go_wp2_with fail
    refine (LH _ _ _ ru (zero_hn 0 _).hr).mono ?_
    rintro e w7 ⟨rfl, hb⟩
    go_wp2
    go_ret
    exact ⟨rfl, bel_after hbw hb⟩
  · obtain ⟨p1, ⟨p2, p3⟩, ⟨p4, p5⟩, p6⟩ := PA.out rfl
    clear PN PA tb
    have C3 := fun v W hv => implExchange_c v r y i W hv (by omega) (by omega) (by omega)
    rw [p2, p3] at C3
    have C4 := fun v W hv => implExchange_c v t i y W hv (by omega) (by omega) (by omega)
    rw [p4, p5] at C4
    have OKr := fun v W hv => implHeapOk_c v r W hv (by omega) (by omega)
    rw [p1] at OKr
    have LHt := fun v u W hv hu => likeHeap_any v u t W hv hu (by omega) (by omega) (by omega)
    have K1 := fun v W hv => implReferrers_c v r y W hv (by omega) (by omega)
    rw [p6] at K1
    have K2 := fun v W hv => implReferrers_c v t i W hv (by omega) (by omega)
    have rs := rf_short t i
    have LI := fun v u W hv hu => likeInts_any v u (ints (rfC t i)) W hv hu (by rw [ints_length]; omega)
    generalize rfC t i = rl at *
    clear p1 p2 p3 p4 p5 p6
    obtain ⟨u0, u1, u2, u3, u4, u5, u6, u7⟩ := id Xu
    go_wp2_with fail
    refine (C3 _ _ ru).mono ?_
    rintro e w5 ⟨⟨gu, rfl, hg⟩, hb⟩
    replace Xx := Xx.later hb
    replace Xu := Xu.later hb
    replace rh := rh.later hb
    replace ru := ru.later hb
    replace hbw := bel_after hbw hb
    clear hb
    have rg := hg.hr
    obtain ⟨ga1, gc1, ga2, gc2, ga3, gc3, rfl, ig1, ig2, ig3⟩ := hg.sh
    clear hg
    have al := bel_one w5 (.cells #[.slice ga1 t.words.length gc1, .slice ga2 t.roots.length gc2, .int .i64 t.old, .int .i64 t.eden, .int .i64 t.surv, .bool t.flip, .int .i64 t.hash, .slice ga3 t.kept.length gc3] 26)
    replace Xx := Xx.later al
    replace Xu := Xu.later al
    replace rh := rh.later al
    replace ru := ru.later al
    replace rg := rg.later al
    replace ig1 := ig1.later al
    replace ig2 := ig2.later al
    replace ig3 := ig3.later al
    have Xg := Bx.new w5 (.slice ga1 t.words.length gc1) (.slice ga2 t.roots.length gc2) (.slice ga3 t.kept.length gc3) t 26
    replace hbw := bel_after hbw al
    clear al
    clear u0 u1 u2 u3 u4 u5 u6 u7
    obtain ⟨x0, x1, x2, x3, x4, x5, x6, x7⟩ := id Xx
    go_wp2_with fail
    refine (C4 _ _ rh).mono ?_
    rintro e w6 ⟨⟨du, rfl, hd⟩, hb⟩
    replace Xx := Xx.later hb
    replace Xu := Xu.later hb
    replace Xg := Xg.later hb
    replace rh := rh.later hb
    replace ru := ru.later hb
    replace rg := rg.later hb
    replace ig1 := ig1.later hb
    replace ig2 := ig2.later hb
    replace ig3 := ig3.later hb
    replace hbw := bel_after hbw hb
    clear hb
    have rd := hd.hr
    obtain ⟨da1, dc1, da2, dc2, da3, dc3, rfl, id1, id2, id3⟩ := hd.sh
    clear hd
    have al := bel_one w6 (.cells #[.slice da1 r.words.length dc1, .slice da2 r.roots.length dc2, .int .i64 r.old, .int .i64 r.eden, .int .i64 r.surv, .bool r.flip, .int .i64 r.hash, .slice da3 r.kept.length dc3] 26)
    replace Xx := Xx.later al
    replace Xu := Xu.later al
    replace Xg := Xg.later al
    replace rh := rh.later al
    replace ru := ru.later al
    replace rg := rg.later al
    replace ig1 := ig1.later al
    replace ig2 := ig2.later al
    replace ig3 := ig3.later al
    replace rd := rd.later al
    replace id1 := id1.later al
    replace id2 := id2.later al
    replace id3 := id3.later al
    have Xd := Bx.new w6 (.slice da1 r.words.length dc1) (.slice da2 r.roots.length dc2) (.slice da3 r.kept.length dc3) r 26
    replace hbw := bel_after hbw al
    clear al
    clear x0 x1 x2 x3 x4 x5 x6 x7
    clear C3 C4 ig1 ig2 ig3 id1 id2 id3
    have hs0 : Below (w6.alloc (.cells #[.slice da1 r.words.length dc1, .slice da2 r.roots.length dc2, .int .i64 r.old, .int .i64 r.eden, .int .i64 r.surv, .bool r.flip, .int .i64 r.hash, .slice da3 r.kept.length dc3] 26)).heap.size (w6.alloc (.cells #[.slice da1 r.words.length dc1, .slice da2 r.roots.length dc2, .int .i64 r.old, .int .i64 r.eden, .int .i64 r.surv, .bool r.flip, .int .i64 r.hash, .slice da3 r.kept.length dc3] 26)) (w6.alloc (.cells #[.slice da1 r.words.length dc1, .slice da2 r.roots.length dc2, .int .i64 r.old, .int .i64 r.eden, .int .i64 r.surv, .bool r.flip, .int .i64 r.hash, .slice da3 r.kept.length dc3] 26)).drew := (Below.refl _ _).drew
    go_wp2_with fail
    refine Disk.z_plain 99 (fun W' => Below (w6.alloc (.cells #[.slice da1 r.words.length dc1, .slice da2 r.roots.length dc2, .int .i64 r.old, .int .i64 r.eden, .int .i64 r.surv, .bool r.flip, .int .i64 r.hash, .slice da3 r.kept.length dc3] 26)).heap.size (w6.alloc (.cells #[.slice da1 r.words.length dc1, .slice da2 r.roots.length dc2, .int .i64 r.old, .int .i64 r.eden, .int .i64 r.surv, .bool r.flip, .int .i64 r.hash, .slice da3 r.kept.length dc3] 26)) W') hmx hs0 (fun hs => ?_)
    clear hs0
    generalize (w6.alloc (.cells #[.slice da1 r.words.length dc1, .slice da2 r.roots.length dc2, .int .i64 r.old, .int .i64 r.eden, .int .i64 r.surv, .bool r.flip, .int .i64 r.hash, .slice da3 r.kept.length dc3] 26)).drew = wd at hs ⊢
    generalize (w6.alloc (.cells #[.slice da1 r.words.length dc1, .slice da2 r.roots.length dc2, .int .i64 r.old, .int .i64 r.eden, .int .i64 r.surv, .bool r.flip, .int .i64 r.hash, .slice da3 r.kept.length dc3] 26)) = wc at *
    refine Disk.z_take 0 64 (v := .bool true) rfl rfl (by kernel_rfl) (by kernel_rfl) (by kernel_rfl) (by kernel_rfl) (by rfl) hs (fun W' _ => (by
      go_simp; first | done | with_reducible rfl)) ?_
    simp only [List.setIfInBounds_toArray, List.set_cons_zero, List.set_cons_succ]
    refine Disk.z_take 1 65 (v := .bool true) rfl rfl (by kernel_rfl) (by kernel_rfl) (by kernel_rfl) (by kernel_rfl) (by rfl) hs (fun W' _ => (by
      go_simp; first | done | with_reducible rfl)) ?_
    simp only [List.setIfInBounds_toArray, List.set_cons_zero, List.set_cons_succ]
    refine Disk.z_take 2 66 (v := .agg #[.slice ga1 t.words.length gc1, .slice ga2 t.roots.length gc2, .int .i64 t.old, .int .i64 t.eden, .int .i64 t.surv, .bool t.flip, .int .i64 t.hash, .slice ga3 t.kept.length gc3]) rfl rfl (by kernel_rfl) (by kernel_rfl) (by kernel_rfl) (by kernel_rfl) (by rfl) hs (fun W' hSw => (by
      obtain ⟨g0, g1, g2, g3, g4, g5, g6, g7⟩ := Xg.later hSw
      go_simp; first | done | with_reducible rfl)) ?_
    simp only [List.setIfInBounds_toArray, List.set_cons_zero, List.set_cons_succ]
    refine Disk.z_take 3 67 (v := .agg #[.slice ha1 t.words.length hc1, .slice ha2 t.roots.length hc2, .int .i64 t.old, .int .i64 t.eden, .int .i64 t.surv, .bool t.flip, .int .i64 t.hash, .slice ha3 t.kept.length hc3]) rfl rfl (by kernel_rfl) (by kernel_rfl) (by kernel_rfl) (by kernel_rfl) (by rfl) hs (fun W' hSw => (by
      obtain ⟨x0, x1, x2, x3, x4, x5, x6, x7⟩ := Xx.later hSw
      go_simp; first | done | with_reducible rfl)) ?_
    simp only [List.setIfInBounds_toArray, List.set_cons_zero, List.set_cons_succ]
    refine Disk.z_call 4 68 rfl rfl (by kernel_rfl) (by rfl) (f := 10) (args := #[.agg #[.slice ga1 t.words.length gc1, .slice ga2 t.roots.length gc2, .int .i64 t.old, .int .i64 t.eden, .int .i64 t.surv, .bool t.flip, .int .i64 t.hash, .slice ga3 t.kept.length gc3], .agg #[.slice ha1 t.words.length hc1, .slice ha2 t.roots.length hc2, .int .i64 t.old, .int .i64 t.eden, .int .i64 t.surv, .bool t.flip, .int .i64 t.hash, .slice ha3 t.kept.length hc3]]) (w0 := wd) (by go_simp) ?_
    refine (LHt _ _ _ (rg.later hs) (rh.later hs)).mono ?_
    rintro e wz1 ⟨rfl, hbq⟩
    replace hs := bel_after hs hbq
    clear hbq
    refine ⟨_, rfl, .inr hs, ?_⟩
    simp only [List.setIfInBounds_toArray, List.set_cons_zero, List.set_cons_succ]
    refine Disk.z_take 5 69 (v := .bool true) rfl rfl (by kernel_rfl) (by kernel_rfl) (by kernel_rfl) (by kernel_rfl) (by rfl) hs (fun W' _ => (by
      go_simp; first | done | with_reducible rfl)) ?_
    simp only [List.setIfInBounds_toArray, List.set_cons_zero, List.set_cons_succ]
    refine Disk.z_take 6 70 (v := .bool true) rfl rfl (by kernel_rfl) (by kernel_rfl) (by kernel_rfl) (by kernel_rfl) (by rfl) hs (fun W' _ => (by
      go_simp; first | done | with_reducible rfl)) ?_
    simp only [List.setIfInBounds_toArray, List.set_cons_zero, List.set_cons_succ]
    refine Disk.z_take 7 71 (v := .bool true) rfl rfl (by kernel_rfl) (by kernel_rfl) (by kernel_rfl) (by kernel_rfl) (by rfl) hs (fun W' _ => (by
      go_simp; first | done | with_reducible rfl)) ?_
    simp only [List.setIfInBounds_toArray, List.set_cons_zero, List.set_cons_succ]
    refine Disk.z_take 8 72 (v := .bool true) rfl rfl (by kernel_rfl) (by kernel_rfl) (by kernel_rfl) (by kernel_rfl) (by rfl) hs (fun W' _ => (by
      go_simp; first | done | with_reducible rfl)) ?_
    simp only [List.setIfInBounds_toArray, List.set_cons_zero, List.set_cons_succ]
    refine Disk.z_take 9 73 (v := .bool true) rfl rfl (by kernel_rfl) (by kernel_rfl) (by kernel_rfl) (by kernel_rfl) (by rfl) hs (fun W' _ => (by
      go_simp; first | done | with_reducible rfl)) ?_
    simp only [List.setIfInBounds_toArray, List.set_cons_zero, List.set_cons_succ]
    refine Disk.z_take 10 74 (v := .agg #[.slice da1 r.words.length dc1, .slice da2 r.roots.length dc2, .int .i64 r.old, .int .i64 r.eden, .int .i64 r.surv, .bool r.flip, .int .i64 r.hash, .slice da3 r.kept.length dc3]) rfl rfl (by kernel_rfl) (by kernel_rfl) (by kernel_rfl) (by kernel_rfl) (by rfl) hs (fun W' hSw => (by
      obtain ⟨d0, d1, d2, d3, d4, d5, d6, d7⟩ := Xd.later hSw
      go_simp; first | done | with_reducible rfl)) ?_
    simp only [List.setIfInBounds_toArray, List.set_cons_zero, List.set_cons_succ]
    refine Disk.z_take 11 75 (v := .agg #[.slice ua1 r.words.length uc1, .slice ua2 r.roots.length uc2, .int .i64 r.old, .int .i64 r.eden, .int .i64 r.surv, .bool r.flip, .int .i64 r.hash, .slice ua3 r.kept.length uc3]) rfl rfl (by kernel_rfl) (by kernel_rfl) (by kernel_rfl) (by kernel_rfl) (by rfl) hs (fun W' hSw => (by
      obtain ⟨u0, u1, u2, u3, u4, u5, u6, u7⟩ := Xu.later hSw
      go_simp; first | done | with_reducible rfl)) ?_
    simp only [List.setIfInBounds_toArray, List.set_cons_zero, List.set_cons_succ]
    refine Disk.z_call 12 76 rfl rfl (by kernel_rfl) (by rfl) (f := 10) (args := #[.agg #[.slice da1 r.words.length dc1, .slice da2 r.roots.length dc2, .int .i64 r.old, .int .i64 r.eden, .int .i64 r.surv, .bool r.flip, .int .i64 r.hash, .slice da3 r.kept.length dc3], .agg #[.slice ua1 r.words.length uc1, .slice ua2 r.roots.length uc2, .int .i64 r.old, .int .i64 r.eden, .int .i64 r.surv, .bool r.flip, .int .i64 r.hash, .slice ua3 r.kept.length uc3]]) (w0 := wz1) (by go_simp) ?_
    refine (LH _ _ _ (rd.later hs) (ru.later hs)).mono ?_
    rintro e wz2 ⟨rfl, hbq⟩
    replace hs := bel_after hs hbq
    clear hbq
    refine ⟨_, rfl, .inr hs, ?_⟩
    simp only [List.setIfInBounds_toArray, List.set_cons_zero, List.set_cons_succ]
    refine Disk.z_take 13 77 (v := .bool true) rfl rfl (by kernel_rfl) (by kernel_rfl) (by kernel_rfl) (by kernel_rfl) (by rfl) hs (fun W' _ => (by
      go_simp; first | done | with_reducible rfl)) ?_
    simp only [List.setIfInBounds_toArray, List.set_cons_zero, List.set_cons_succ]
    refine Disk.z_take 14 78 (v := .bool true) rfl rfl (by kernel_rfl) (by kernel_rfl) (by kernel_rfl) (by kernel_rfl) (by rfl) hs (fun W' _ => (by
      go_simp; first | done | with_reducible rfl)) ?_
    simp only [List.setIfInBounds_toArray, List.set_cons_zero, List.set_cons_succ]
    refine Disk.z_take 15 79 (v := .agg #[.slice ua1 r.words.length uc1, .slice ua2 r.roots.length uc2, .int .i64 r.old, .int .i64 r.eden, .int .i64 r.surv, .bool r.flip, .int .i64 r.hash, .slice ua3 r.kept.length uc3]) rfl rfl (by kernel_rfl) (by kernel_rfl) (by kernel_rfl) (by kernel_rfl) (by rfl) hs (fun W' hSw => (by
      obtain ⟨u0, u1, u2, u3, u4, u5, u6, u7⟩ := Xu.later hSw
      go_simp; first | done | with_reducible rfl)) ?_
    simp only [List.setIfInBounds_toArray, List.set_cons_zero, List.set_cons_succ]
    refine Disk.z_call 16 80 rfl rfl (by kernel_rfl) (by rfl) (f := 18) (args := #[.agg #[.slice ua1 r.words.length uc1, .slice ua2 r.roots.length uc2, .int .i64 r.old, .int .i64 r.eden, .int .i64 r.surv, .bool r.flip, .int .i64 r.hash, .slice ua3 r.kept.length uc3]]) (w0 := wz2) (by go_simp) ?_
    refine (OKr _ _ (ru.later hs)).mono ?_
    rintro e wz3 ⟨rfl, hbq⟩
    replace hs := bel_after hs hbq
    clear hbq
    refine ⟨_, rfl, .inr hs, ?_⟩
    simp only [List.setIfInBounds_toArray, List.set_cons_zero, List.set_cons_succ]
    refine Disk.z_take 17 81 (v := .bool true) rfl rfl (by kernel_rfl) (by kernel_rfl) (by kernel_rfl) (by kernel_rfl) (by rfl) hs (fun W' _ => (by
      go_simp; first | done | with_reducible rfl)) ?_
    simp only [List.setIfInBounds_toArray, List.set_cons_zero, List.set_cons_succ]
    refine Disk.z_take 18 82 (v := .bool true) rfl rfl (by kernel_rfl) (by kernel_rfl) (by kernel_rfl) (by kernel_rfl) (by rfl) hs (fun W' _ => (by
      go_simp; first | done | with_reducible rfl)) ?_
    simp only [List.setIfInBounds_toArray, List.set_cons_zero, List.set_cons_succ]
    refine Disk.z_take 19 83 (v := .agg #[.slice ua1 r.words.length uc1, .slice ua2 r.roots.length uc2, .int .i64 r.old, .int .i64 r.eden, .int .i64 r.surv, .bool r.flip, .int .i64 r.hash, .slice ua3 r.kept.length uc3]) rfl rfl (by kernel_rfl) (by kernel_rfl) (by kernel_rfl) (by kernel_rfl) (by rfl) hs (fun W' hSw => (by
      obtain ⟨u0, u1, u2, u3, u4, u5, u6, u7⟩ := Xu.later hSw
      go_simp; first | done | with_reducible rfl)) ?_
    simp only [List.setIfInBounds_toArray, List.set_cons_zero, List.set_cons_succ]
    refine Disk.z_take 20 84 (v := .int .i64 y) rfl rfl (by kernel_rfl) (by kernel_rfl) (by kernel_rfl) (by kernel_rfl) (by rfl) hs (fun W' _ => (by
      go_simp; first | done | with_reducible rfl)) ?_
    simp only [List.setIfInBounds_toArray, List.set_cons_zero, List.set_cons_succ]
    refine Disk.z_take 22 86 (v := .agg #[.slice ha1 t.words.length hc1, .slice ha2 t.roots.length hc2, .int .i64 t.old, .int .i64 t.eden, .int .i64 t.surv, .bool t.flip, .int .i64 t.hash, .slice ha3 t.kept.length hc3]) rfl rfl (by kernel_rfl) (by kernel_rfl) (by kernel_rfl) (by kernel_rfl) (by rfl) hs (fun W' hSw => (by
      obtain ⟨x0, x1, x2, x3, x4, x5, x6, x7⟩ := Xx.later hSw
      go_simp; first | done | with_reducible rfl)) ?_
    simp only [List.setIfInBounds_toArray, List.set_cons_zero, List.set_cons_succ]
    refine Disk.z_take 23 87 (v := .int .i64 i) rfl rfl (by kernel_rfl) (by kernel_rfl) (by kernel_rfl) (by kernel_rfl) (by rfl) hs (fun W' _ => (by
      go_simp; first | done | with_reducible rfl)) ?_
    simp only [List.setIfInBounds_toArray, List.set_cons_zero, List.set_cons_succ]
    refine Disk.z_call 21 85 rfl rfl (by kernel_rfl) (by rfl) (f := 26) (args := #[.agg #[.slice ua1 r.words.length uc1, .slice ua2 r.roots.length uc2, .int .i64 r.old, .int .i64 r.eden, .int .i64 r.surv, .bool r.flip, .int .i64 r.hash, .slice ua3 r.kept.length uc3], .int .i64 y]) (w0 := wz3) (by go_simp) ?_
    refine (K1 _ _ (ru.later hs)).mono ?_
    rintro e wa ⟨⟨va, rfl, ova⟩, hbva⟩
    replace hs := bel_after hs hbva
    refine ⟨_, rfl, .inr hs, ?_⟩
    simp only [List.setIfInBounds_toArray, List.set_cons_zero, List.set_cons_succ]
    refine Disk.z_call 24 88 rfl rfl (by kernel_rfl) (by rfl) (f := 26) (args := #[.agg #[.slice ha1 t.words.length hc1, .slice ha2 t.roots.length hc2, .int .i64 t.old, .int .i64 t.eden, .int .i64 t.surv, .bool t.flip, .int .i64 t.hash, .slice ha3 t.kept.length hc3], .int .i64 i]) (w0 := wa) (by go_simp) ?_
    refine (K2 _ _ (rh.later hs)).mono ?_
    rintro e wb ⟨⟨vb, rfl, ovb⟩, hbvb⟩
    replace hs := bel_after hs hbvb
    refine ⟨_, rfl, .inr hs, ?_⟩
    simp only [List.setIfInBounds_toArray, List.set_cons_zero, List.set_cons_succ]
    refine Disk.z_call 25 89 rfl rfl (by kernel_rfl) (by rfl) (f := 14) (args := #[va, vb]) (w0 := wb) (by go_simp) ?_
    refine (LI _ _ _ ((IR_of_owns' ova).later hbvb) (IR_of_owns' ovb)).mono ?_
    rintro e wz4 ⟨rfl, hbq⟩
    replace hs := bel_after hs hbq
    clear hbq
    refine ⟨_, rfl, .inr hs, ?_⟩
    simp only [List.setIfInBounds_toArray, List.set_cons_zero, List.set_cons_succ]
    refine Disk.z_take 26 90 (v := .bool true) rfl rfl (by kernel_rfl) (by kernel_rfl) (by kernel_rfl) (by kernel_rfl) (by rfl) hs (fun W' _ => (by
      go_simp; first | done | with_reducible rfl)) ?_
    simp only [List.setIfInBounds_toArray, List.set_cons_zero, List.set_cons_succ]
    refine Disk.z_take 27 2 (v := .bool true) rfl rfl (by kernel_rfl) (by kernel_rfl) (by kernel_rfl) (by kernel_rfl) (by rfl) hs (fun W' _ => (by
      go_simp; first | done | with_reducible rfl)) ?_
    simp only [List.setIfInBounds_toArray, List.set_cons_zero, List.set_cons_succ]
    refine Disk.z_done (by kernel_rfl) ?_ _
    have hbe := bel_after hbw hs
    clear hs
    go_wp2
    go_ret
    exact ⟨rfl, hbe⟩

end Go.Proofs.YthdffigckohpoaaGreat
