/- The law FnCompacted, walked. -/
import Derived.Test.YthdffigckohpoaaGreatZV12
import Derived.Test.YthdffigckohpoaaGreatZV13
import Derived.Test.YthdffigckohpoaaGreatZV15
import Derived.Test.YthdffigckohpoaaGreatZLLikeG
import Derived.Test.YthdffigckohpoaaGreatZV16
import Derived.Test.YthdffigckohpoaaGreatZV17
import Derived.Test.YthdffigckohpoaaGreatZV18
import Derived.Test.YthdffigckohpoaaGreatZV19
import Derived.Test.YthdffigckohpoaaGreatZV20
import Derived.Test.YthdffigckohpoaaGreatZGShI
import Derived.Test.YthdffigckohpoaaGreatZV4
namespace Go.Proofs.YthdffigckohpoaaGreat
open Go.RowKit
set_option maxRecDepth 100000 in
set_option maxHeartbeats 6400000 in
theorem lawCompacted_any (cv : Value) (cs : List UInt8) (w : World) (hc : BR w cv cs) :
  Calls Tryz.prog 3 #[cv] w fun x w' => x = .returned (.bool true) /\ Below w.heap.size w w' := by
 have BG := big_any cv cs w hc
 by_cases hbig : 4096 < cs.length
 ·rw [decide_eq_true hbig] at BG
  go_enter Tryz.func3, Tryz.ntmps3
  go_wp2_with (go_at_call 6; refine BG.mono ?_; rintro x w' ⟨rfl, rfl⟩)
  go_ret
  exact ⟨rfl, Below.refl _ _⟩
 rw [decide_eq_false hbig] at BG
 go_enter Tryz.func3, Tryz.ntmps3
 go_wp2_with fail
 refine BG.mono ?_
 rintro x w0 ⟨rfl, rfl⟩
 clear BG
 have hbw := Below.refl w0.heap.size w0
 go_wp2_with fail
 refine (drawCompact_any cv cs _ (hc.later hbw) (by omega)).mono ?_
 rintro x w1 ⟨⟨t, hv1, hv2, hv3, rfl, hh, hwl, hrl, hkl⟩, hb⟩
 replace hbw := bel_after hbw hb
 clear hb
 have rh := hh.hr
 have ih1 := hh.w1
 have ih2 := IR_of_owns hh.o2
 obtain ⟨ha1, hc1, rfl, -⟩ := IRs hh.w1
 obtain ⟨ha2, hc2, rfl, -⟩ := IRs (IR_of_owns hh.o2)
 obtain ⟨ha3, hc3, rfl, -⟩ := IRs (IR_of_owns hh.o3)
 clear hh
 have al := bel_one w1 (.cells #[.slice ha1 t.words.length hc1, .slice ha2 t.roots.length hc2, .int .i64 t.old, .int .i64 t.eden, .int .i64 t.surv, .bool t.flip, .int .i64 t.hash, .slice ha3 t.kept.length hc3] 26)
 replace rh := rh.later al
 replace ih1 := ih1.later al
 replace ih2 := ih2.later al
 have Xx := Bx.new w1 (.slice ha1 t.words.length hc1) (.slice ha2 t.roots.length hc2) (.slice ha3 t.kept.length hc3) t 26
 replace hbw := bel_after hbw al
 clear al
 obtain ⟨x0, x1, x2, x3, x4, x5, x6, x7⟩ := id Xx
 have hmx : Tryz.prog.follows .mixedOrders = true := by kernel_rfl
 have PN : Hid (coB t = false -> coC t = zeroH /\ mvC t = []) := fun q => compacted_no q
 have PA : Hid (coB t = true -> okC t = true /\ okC (coC t) = true /\ (coB (coC t) = true /\ coC (coC t) = coC t) /\ shC (coC t) = shC t /\ gaC (coC t) = 0 /\ yoC (coC t) = 0 /\ (coC t).old = reC t /\ (mvC t).length = (obC t).length /\ ∀ j, j < (obC t).length -> 0 <= (mvC t).getD j 0 -> ∀ q, q < 4 -> hdC (coC t) ((mvC t).getD j 0) q = hdC t (((obC t).getD j 0 : Nat) : Int) q) := fun q => compacted q
 obtain ⟨rb1, rb2, rb3⟩ := co_short t
 have C1 := fun v W hv => implCompact_c v t W hv (by omega) (by omega) (by omega)
 have C2 := fun v W hv => specCompact_c v t W hv (by omega) (by omega)
 generalize coC t = r at *
 generalize coB t = b at *
 have LH := fun v u W hv hu => likeHeap_any v u r W hv hu (by omega) (by omega) (by omega)
 have tb : (b != b) = false := by simp
 go_wp2_with fail
 refine (C1 _ _ rh).mono ?_
 rintro e w2 ⟨⟨uu, rfl, hu⟩, hb⟩
 replace Xx := Xx.later hb
 replace rh := rh.later hb
 replace ih1 := ih1.later hb
 replace ih2 := ih2.later hb
 replace hbw := bel_after hbw hb
 clear hb
 have ru := hu.hr
 obtain ⟨ua1, uc1, ua2, uc2, ua3, uc3, rfl, iu1, iu2, iu3⟩ := hu.sh
 clear hu
 have al := bel_one w2 (.cells #[.slice ua1 r.words.length uc1, .slice ua2 r.roots.length uc2, .int .i64 r.old, .int .i64 r.eden, .int .i64 r.surv, .bool r.flip, .int .i64 r.hash, .slice ua3 r.kept.length uc3] 26)
 replace Xx := Xx.later al
 replace rh := rh.later al
 replace ih1 := ih1.later al
 replace ih2 := ih2.later al
 replace ru := ru.later al
 replace iu1 := iu1.later al
 replace iu2 := iu2.later al
 replace iu3 := iu3.later al
 have Xu := Bx.new w2 (.slice ua1 r.words.length uc1) (.slice ua2 r.roots.length uc2) (.slice ua3 r.kept.length uc3) r 26
 replace hbw := bel_after hbw al
 clear al
 clear x0 x1 x2 x3 x4 x5 x6 x7
 obtain ⟨x0, x1, x2, x3, x4, x5, x6, x7⟩ := id Xx
 go_wp2_with fail
 refine (C2 _ _ rh).mono ?_
 rintro e w3 ⟨⟨su, rfl, hs⟩, hb⟩
 replace Xx := Xx.later hb
 replace Xu := Xu.later hb
 replace rh := rh.later hb
 replace ih1 := ih1.later hb
 replace ih2 := ih2.later hb
 replace ru := ru.later hb
 replace iu1 := iu1.later hb
 replace iu2 := iu2.later hb
 replace iu3 := iu3.later hb
 replace hbw := bel_after hbw hb
 clear hb
 have rs := hs.hr
 obtain ⟨sa1, sc1, sa2, sc2, sa3, sc3, rfl, is1, is2, is3⟩ := hs.sh
 clear hs
 have al := bel_one w3 (.cells #[.slice sa1 r.words.length sc1, .slice sa2 r.roots.length sc2, .int .i64 r.old, .int .i64 r.eden, .int .i64 r.surv, .bool r.flip, .int .i64 r.hash, .slice sa3 r.kept.length sc3] 26)
 replace Xx := Xx.later al
 replace Xu := Xu.later al
 replace rh := rh.later al
 replace ih1 := ih1.later al
 replace ih2 := ih2.later al
 replace ru := ru.later al
 replace iu1 := iu1.later al
 replace iu2 := iu2.later al
 replace iu3 := iu3.later al
 replace rs := rs.later al
 replace is1 := is1.later al
 replace is2 := is2.later al
 replace is3 := is3.later al
 have Xs := Bx.new w3 (.slice sa1 r.words.length sc1) (.slice sa2 r.roots.length sc2) (.slice sa3 r.kept.length sc3) r 26
 replace hbw := bel_after hbw al
 clear al
 clear x0 x1 x2 x3 x4 x5 x6 x7
 obtain ⟨u0, u1, u2, u3, u4, u5, u6, u7⟩ := id Xu
 obtain ⟨s0, s1, s2, s3, s4, s5, s6, s7⟩ := id Xs
 go_wp2_with fail
 refine (LH _ _ _ ru rs).mono ?_
 rintro e w4 ⟨rfl, hb⟩
 replace Xx := Xx.later hb
 replace Xu := Xu.later hb
 replace rh := rh.later hb
 replace ru := ru.later hb
 replace hbw := bel_after hbw hb
 clear hb C1 C2 rs is1 is2 is3 Xs iu1 iu2 iu3 ih1 ih2
 clear s0 s1 s2 s3 s4 s5 s6 s7 u0 u1 u2 u3 u4 u5 u6 u7
 have G1 := fun v W hv => implGarbage_c v t W hv (by omega) (by omega)
 have G2 := fun v W hv => specGarbage_c v t W hv (by omega) (by omega)
 have M1 := fun v W hv => implMoves_c v t W hv (by omega) (by omega) (by omega)
 have M2 := fun v W hv => specMoves_c v t W hv (by omega) (by omega)
 have ms := mv_short t
 have LI := fun v u W hv hu => likeInts_any v u (mvC t) W hv hu (by omega)
 generalize mvC t = mv at *
 generalize gaC t = ga at *
 have tga : (ga != ga) = false := by simp
 obtain ⟨x0, x1, x2, x3, x4, x5, x6, x7⟩ := id Xx
 go_wp2_with fail
 refine (G1 _ _ rh).mono ?_
 rintro e w5 ⟨rfl, hb⟩
 replace Xx := Xx.later hb
 replace Xu := Xu.later hb
 replace rh := rh.later hb
 replace ru := ru.later hb
 replace hbw := bel_after hbw hb
 clear hb G1
 clear x0 x1 x2 x3 x4 x5 x6 x7
 obtain ⟨x0, x1, x2, x3, x4, x5, x6, x7⟩ := id Xx
 go_wp2_with fail
 refine (M1 _ _ rh).mono ?_
 rintro e w6 ⟨⟨mva, rfl, oM⟩, hb⟩
 replace Xx := Xx.later hb
 replace Xu := Xu.later hb
 replace rh := rh.later hb
 replace ru := ru.later hb
 replace hbw := bel_after hbw hb
 have iM := IR_of_owns oM
 clear hb M1 oM
 clear x0 x1 x2 x3 x4 x5 x6 x7
 obtain ⟨x0, x1, x2, x3, x4, x5, x6, x7⟩ := id Xx
 go_wp2_with fail
 refine (G2 _ _ rh).mono ?_
 rintro e w7 ⟨rfl, hb⟩
 replace Xx := Xx.later hb
 replace Xu := Xu.later hb
 replace rh := rh.later hb
 replace ru := ru.later hb
 replace iM := iM.later hb
 replace hbw := bel_after hbw hb
 clear hb G2
 clear x0 x1 x2 x3 x4 x5 x6 x7
 obtain ⟨x0, x1, x2, x3, x4, x5, x6, x7⟩ := id Xx
 go_wp2_with fail
 refine (M2 _ _ rh).mono ?_
 rintro e w8 ⟨⟨mvb, rfl, iN⟩, hb⟩
 replace Xx := Xx.later hb
 replace Xu := Xu.later hb
 replace rh := rh.later hb
 replace ru := ru.later hb
 replace iM := iM.later hb
 replace hbw := bel_after hbw hb
 clear hb M2
 clear x0 x1 x2 x3 x4 x5 x6 x7
 go_wp2_with fail
 refine (LI _ _ _ iM iN).mono ?_
 rintro e w9 ⟨rfl, hb⟩
 replace Xx := Xx.later hb
 replace Xu := Xu.later hb
 replace rh := rh.later hb
 replace ru := ru.later hb
 replace iM := iM.later hb
 replace hbw := bel_after hbw hb
 clear hb iN LI
 obtain ⟨ma, mc, rfl, -⟩ := IRs iM
 cases b
 ·clear PA
  obtain ⟨e1, e2⟩ := PN.out rfl
  subst e1
  subst e2
  clear PN
  obtain ⟨u0, u1, u2, u3, u4, u5, u6, u7⟩ := id Xu
  go_wp2_with fail
  refine (LH _ _ _ ru (zero_hn 0 _).hr).mono ?_
  rintro e wA ⟨rfl, hb⟩
  go_wp2
  go_ret
  exact ⟨rfl, bel_after hbw hb⟩
 ·obtain ⟨p1, p2, ⟨p3, p4⟩, p5, p6, p7, p8, p9, p10⟩ := PA.out rfl
  clear PN PA tb tga
  have C3 := fun v W hv => implCompact_c v r W hv (by omega) (by omega) (by omega)
  rw [p3, p4] at C3
  have OJ := fun v W hv => implObjects_c v t W hv (by omega) (by omega)
  have HT' := fun x v W hv => implHeader_c v t x W hv (by omega) (by omega)
  have HR' := fun x v W hv => implHeader_c v r x W hv (by omega) (by omega)
  unfold hdV at HT' HR'
  have OKr := fun v W hv => implHeapOk_c v r W hv (by omega) (by omega)
  rw [p2] at OKr
  have SR := fun v W hv => implShape_c v r W hv (by omega) (by omega)
  rw [p5] at SR
  have ST := fun v W hv => implShape_c v t W hv (by omega) (by omega)
  obtain ⟨sm1, sm2, sm3⟩ := sh_small p1
  have LG := fun v u W hv hu => likeGraph_any v u (shC t) W hv hu (by omega) (by omega) (fun n hn => by have := sm3 n hn; omega)
  have GA := fun v W hv => implGarbage_c v r W hv (by omega) (by omega)
  rw [p6] at GA
  have YO := fun v W hv => implYoung_c v r W hv (by omega) (by omega)
  rw [p7] at YO
  have RE := fun v W hv => implReached_c v t W hv (by omega) (by omega)
  have ol := ob_short t
  have P8 : Hid (r.old = reC t) := p8
  have P9 : Hid (mv.length = (obC t).length) := p9
  have P10 : Hid (∀ j, j < (obC t).length -> 0 <= mv.getD j 0 -> ∀ q, q < 4 -> hdC r (mv.getD j 0) q = hdC t (((obC t).getD j 0 : Nat) : Int) q) := p10
  generalize obC t = lo at *
  generalize shC t = gsh at *
  generalize reC t = rea at *
  clear p1 p2 p3 p4 p5 p6 p7 p8 p9 p10 sm1 sm2 sm3
  obtain ⟨u0, u1, u2, u3, u4, u5, u6, u7⟩ := id Xu
  go_wp2_with fail
  refine (C3 _ _ ru).mono ?_
  rintro e w10 ⟨⟨gu, rfl, hg⟩, hb⟩
  replace Xx := Xx.later hb
  replace Xu := Xu.later hb
  replace rh := rh.later hb
  replace ru := ru.later hb
  replace iM := iM.later hb
  replace hbw := bel_after hbw hb
  clear hb
  have rg := hg.hr
  obtain ⟨ga1, gc1, ga2, gc2, ga3, gc3, rfl, ig1, ig2, ig3⟩ := hg.sh
  clear hg
  have al := bel_one w10 (.cells #[.slice ga1 r.words.length gc1, .slice ga2 r.roots.length gc2, .int .i64 r.old, .int .i64 r.eden, .int .i64 r.surv, .bool r.flip, .int .i64 r.hash, .slice ga3 r.kept.length gc3] 26)
  replace Xx := Xx.later al
  replace Xu := Xu.later al
  replace rh := rh.later al
  replace ru := ru.later al
  replace iM := iM.later al
  replace rg := rg.later al
  replace ig1 := ig1.later al
  replace ig2 := ig2.later al
  replace ig3 := ig3.later al
  have Xg := Bx.new w10 (.slice ga1 r.words.length gc1) (.slice ga2 r.roots.length gc2) (.slice ga3 r.kept.length gc3) r 26
  replace hbw := bel_after hbw al
  clear al
  clear u0 u1 u2 u3 u4 u5 u6 u7
  obtain ⟨x0, x1, x2, x3, x4, x5, x6, x7⟩ := id Xx
  go_wp2_with fail
  refine (OJ _ _ rh).mono ?_
  rintro e w11 ⟨⟨lv, rfl, oL⟩, hb⟩
  replace Xx := Xx.later hb
  replace Xu := Xu.later hb
  replace Xg := Xg.later hb
  replace rh := rh.later hb
  replace ru := ru.later hb
  replace iM := iM.later hb
  replace rg := rg.later hb
  replace ig1 := ig1.later hb
  replace ig2 := ig2.later hb
  replace ig3 := ig3.later hb
  replace hbw := bel_after hbw hb
  have iL := IR_of_owns' oL
  clear hb oL OJ C3 ig1 ig2 ig3
  obtain ⟨la, lc, rfl, hL⟩ := intsI iL
  clear iL
  clear x0 x1 x2 x3 x4 x5 x6 x7
  go_wp2
  go_loopw [13] (fun jv wr => ∃ j : Nat, j <= lo.length /\ jv = .int .i64 j /\ Below w11.heap.size w11 wr) (fun jv _ => lo.length - (intOf jv).toNat)
  case atStart => exact ⟨0, Nat.zero_le _, rfl, Below.refl _ _⟩
  case round =>
   obtain ⟨j, hj, rfl, hb⟩ := hrel
   replace Xx := Xx.later hb
   replace Xu := Xu.later hb
   replace Xg := Xg.later hb
   replace rh := rh.later hb
   replace ru := ru.later hb
   replace rg := rg.later hb
   replace iM := iM.later hb
   replace hbw := bel_after hbw hb
   by_cases hlt : j < lo.length
   ·obtain ⟨mb, mo, rfl, cm⟩ := iM.at (k := j) (by have := P9.out; omega)
    obtain ⟨lb, lo2, rfl, cl⟩ := hL j hlt
    replace cl := cell_later hb cl
    have P := P10.out j hlt
    have mlt : (j : Int) < (mv.length : Int) := by have := P9.out; omega
    have llt : (j : Int) < (lo.length : Int) := by omega
    generalize mv.getD j 0 = m at *
    generalize lo.getD j 0 = z at *
    by_cases hm : m < 0
    ·clear P P10 hL
     go_wp2
     exact ⟨⟨j + 1, by omega, by go_num, hb⟩, by simp [intOf]; omega⟩
    ·have HTz := HT' ((z : Nat) : Int)
     have HRm := HR' m
     have P' := fun q hq => P (by omega) q hq
     rw [P' 0 (by omega), P' 1 (by omega), P' 2 (by omega), P' 3 (by omega)] at HRm
     generalize hdC t ((z : Nat) : Int) 0 = z0 at *
     generalize hdC t ((z : Nat) : Int) 1 = z1 at *
     generalize hdC t ((z : Nat) : Int) 2 = z2 at *
     generalize hdC t ((z : Nat) : Int) 3 = z3 at *
     have t0 : (z0 != z0) = false := by simp
     have t1 : (z1 != z1) = false := by simp
     have t2 : (z2 != z2) = false := by simp
     have t3 : (z3 != z3) = false := by simp
     clear P P' P10 hL P8 P9 OKr SR ST LG GA YO RE LH
     clear HT' HR'
     have hs0 : Below wr.heap.size wr wr.drew := (Below.refl _ _).drew
     go_wp2_with fail
     refine Disk.z_plain 99 (fun W' => Below wr.heap.size wr W') hmx hs0 (fun hs => ?_)
     clear hs0
     generalize wr.drew = wd at hs ⊢
     refine Disk.zt 0 89 (v := .agg #[.slice ha1 t.words.length hc1, .slice ha2 t.roots.length hc2, .int .i64 t.old, .int .i64 t.eden, .int .i64 t.surv, .bool t.flip, .int .i64 t.hash, .slice ha3 t.kept.length hc3]) rfl rfl hs (fun W' hSw => (by
      obtain ⟨x0, x1, x2, x3, x4, x5, x6, x7⟩ := Xx.later hSw
      go_simp; first | done | with_reducible rfl)) ?_
     simp only [zA, zB, zC]
     refine Disk.zt0 1 90 (v := .slice (some ⟨lb, lo2, none⟩) lo.length lc) rfl rfl hs ?_
     simp only [zA, zB, zC]
     refine Disk.zt0 2 91 (v := .int .i64 j) rfl rfl hs ?_
     simp only [zA, zB, zC]
     refine Disk.zt0 3 92 (v := .pointer (some ⟨lb, lo2 + j, none⟩)) rfl rfl hs ?_
     simp only [zA, zB, zC]
     refine Disk.zt 4 93 (v := .int .i64 ((z : Nat) : Int)) rfl rfl hs (fun W' hSw => (by
      have cc := cell_later hSw cl
      go_simp; first | done | with_reducible rfl)) ?_
     simp only [zA, zB, zC]
     refine Disk.zc 5 94 rfl rfl (f := 17) (args := #[.agg #[.slice ha1 t.words.length hc1, .slice ha2 t.roots.length hc2, .int .i64 t.old, .int .i64 t.eden, .int .i64 t.surv, .bool t.flip, .int .i64 t.hash, .slice ha3 t.kept.length hc3], .int .i64 ((z : Nat) : Int)]) (w0 := wd) ?_
     refine (HTz _ _ (rh.later hs)).mono ?_
     rintro e wx ⟨rfl, hbq⟩
     replace hs := bel_after hs hbq
     clear hbq
     refine ⟨_, rfl, .inr hs, ?_⟩
     simp only [zA, zB, zC]
     refine Disk.zr 6 88 (v := .tuple #[.int .i64 z0, .int .i64 z1, .int .i64 z2, .int .i64 z3]) rfl rfl (w' := wx) (.inr hs) ?_
     simp only [zA, zB, zC]
     refine Disk.zt0 7 95 (v := .int .i64 z0) rfl rfl hs ?_
     simp only [zA, zB, zC]
     refine Disk.zt0 8 96 (v := .int .i64 z1) rfl rfl hs ?_
     simp only [zA, zB, zC]
     refine Disk.zt0 9 97 (v := .int .i64 z2) rfl rfl hs ?_
     simp only [zA, zB, zC]
     refine Disk.zt0 10 98 (v := .int .i64 z3) rfl rfl hs ?_
     simp only [zA, zB, zC]
     refine Disk.zr 11 14 (v := .int .i64 z0) rfl rfl (w' := wx) (.inr hs) ?_
     simp only [zA, zB, zC]
     refine Disk.zr 12 15 (v := .int .i64 z1) rfl rfl (w' := wx) (.inr hs) ?_
     simp only [zA, zB, zC]
     refine Disk.zr 13 16 (v := .int .i64 z2) rfl rfl (w' := wx) (.inr hs) ?_
     simp only [zA, zB, zC]
     refine Disk.zr 14 17 (v := .int .i64 z3) rfl rfl (w' := wx) (.inr hs) ?_
     simp only [zA, zB, zC]
     refine Disk.z_done (by kernel_rfl) ?_ _
     have hbx : Below wr.heap.size wr wx := hs
     have cm2 := cell_later hbx cm
     replace Xu := Xu.later hbx
     replace ru := ru.later hbx
     clear hs
     have hs0 : Below wx.heap.size wx wx.drew := (Below.refl _ _).drew
     go_wp2_with fail
     refine Disk.z_plain 99 (fun W' => Below wx.heap.size wx W') hmx hs0 (fun hs => ?_)
     clear hs0
     generalize wx.drew = wd at hs ⊢
     refine Disk.zt 0 100 (v := .agg #[.slice ua1 r.words.length uc1, .slice ua2 r.roots.length uc2, .int .i64 r.old, .int .i64 r.eden, .int .i64 r.surv, .bool r.flip, .int .i64 r.hash, .slice ua3 r.kept.length uc3]) rfl rfl hs (fun W' hSw => (by
      obtain ⟨u0, u1, u2, u3, u4, u5, u6, u7⟩ := Xu.later hSw
      go_simp; first | done | with_reducible rfl)) ?_
     simp only [zA, zB, zC]
     refine Disk.zt0 1 101 (v := .slice (some ⟨mb, mo, none⟩) mv.length mc) rfl rfl hs ?_
     simp only [zA, zB, zC]
     refine Disk.zt0 2 102 (v := .int .i64 j) rfl rfl hs ?_
     simp only [zA, zB, zC]
     refine Disk.zt0 3 103 (v := .pointer (some ⟨mb, mo + j, none⟩)) rfl rfl hs ?_
     simp only [zA, zB, zC]
     refine Disk.zt 4 104 (v := .int .i64 m) rfl rfl hs (fun W' hSw => (by
      have cc := cell_later hSw cm2
      go_simp; first | done | with_reducible rfl)) ?_
     simp only [zA, zB, zC]
     refine Disk.zc 5 105 rfl rfl (f := 17) (args := #[.agg #[.slice ua1 r.words.length uc1, .slice ua2 r.roots.length uc2, .int .i64 r.old, .int .i64 r.eden, .int .i64 r.surv, .bool r.flip, .int .i64 r.hash, .slice ua3 r.kept.length uc3], .int .i64 m]) (w0 := wd) ?_
     refine (HRm _ _ (ru.later hs)).mono ?_
     rintro e wy ⟨rfl, hbq⟩
     replace hs := bel_after hs hbq
     clear hbq
     refine ⟨_, rfl, .inr hs, ?_⟩
     simp only [zA, zB, zC]
     refine Disk.zr 6 99 (v := .tuple #[.int .i64 z0, .int .i64 z1, .int .i64 z2, .int .i64 z3]) rfl rfl (w' := wy) (.inr hs) ?_
     simp only [zA, zB, zC]
     refine Disk.zt0 7 106 (v := .int .i64 z0) rfl rfl hs ?_
     simp only [zA, zB, zC]
     refine Disk.zt0 8 107 (v := .int .i64 z1) rfl rfl hs ?_
     simp only [zA, zB, zC]
     refine Disk.zt0 9 108 (v := .int .i64 z2) rfl rfl hs ?_
     simp only [zA, zB, zC]
     refine Disk.zt0 10 109 (v := .int .i64 z3) rfl rfl hs ?_
     simp only [zA, zB, zC]
     refine Disk.zr 11 18 (v := .int .i64 z0) rfl rfl (w' := wy) (.inr hs) ?_
     simp only [zA, zB, zC]
     refine Disk.zr 12 19 (v := .int .i64 z1) rfl rfl (w' := wy) (.inr hs) ?_
     simp only [zA, zB, zC]
     refine Disk.zr 13 20 (v := .int .i64 z2) rfl rfl (w' := wy) (.inr hs) ?_
     simp only [zA, zB, zC]
     refine Disk.zr 14 21 (v := .int .i64 z3) rfl rfl (w' := wy) (.inr hs) ?_
     simp only [zA, zB, zC]
     refine Disk.z_done (by kernel_rfl) ?_ _
     have hby : Below w11.heap.size w11 wy := bel_after (bel_after hb hbx) hs
     clear hs
     go_wp2
     exact ⟨⟨j + 1, by omega, by go_num, hby⟩, by simp [intOf]; omega⟩
   ·obtain rfl : j = lo.length := by omega
    have re := P8.out
    have tr : (r.old == rea) = true := by simp [re]
    clear hL P8 P9 P10 HT' HR' re
    have hs0 : Below wr.heap.size wr wr.drew := (Below.refl _ _).drew
    go_wp2_with fail
    refine Disk.z_plain 99 (fun W' => Below wr.heap.size wr W') hmx hs0 (fun hs => ?_)
    clear hs0
    generalize wr.drew = wd at hs ⊢
    refine Disk.zt 0 128 (v := .agg #[.slice ua1 r.words.length uc1, .slice ua2 r.roots.length uc2, .int .i64 r.old, .int .i64 r.eden, .int .i64 r.surv, .bool r.flip, .int .i64 r.hash, .slice ua3 r.kept.length uc3]) rfl rfl hs (fun W' hSw => (by
     obtain ⟨u0, u1, u2, u3, u4, u5, u6, u7⟩ := Xu.later hSw
     go_simp; first | done | with_reducible rfl)) ?_
    simp only [zA, zB, zC]
    refine Disk.zc 1 129 rfl rfl (f := 18) (args := #[.agg #[.slice ua1 r.words.length uc1, .slice ua2 r.roots.length uc2, .int .i64 r.old, .int .i64 r.eden, .int .i64 r.surv, .bool r.flip, .int .i64 r.hash, .slice ua3 r.kept.length uc3]]) (w0 := wd) ?_
    refine (OKr _ _ (ru.later hs)).mono ?_
    rintro e wz1 ⟨rfl, hbq⟩
    replace hs := bel_after hs hbq
    clear hbq
    refine ⟨_, rfl, .inr hs, ?_⟩
    simp only [zA, zB, zC]
    refine Disk.zt0 2 130 (v := .bool true) rfl rfl hs ?_
    simp only [zA, zB, zC]
    refine Disk.zt 3 131 (v := .agg #[.slice ua1 r.words.length uc1, .slice ua2 r.roots.length uc2, .int .i64 r.old, .int .i64 r.eden, .int .i64 r.surv, .bool r.flip, .int .i64 r.hash, .slice ua3 r.kept.length uc3]) rfl rfl hs (fun W' hSw => (by
     obtain ⟨u0, u1, u2, u3, u4, u5, u6, u7⟩ := Xu.later hSw
     go_simp; first | done | with_reducible rfl)) ?_
    simp only [zA, zB, zC]
    refine Disk.zt 5 133 (v := .agg #[.slice ha1 t.words.length hc1, .slice ha2 t.roots.length hc2, .int .i64 t.old, .int .i64 t.eden, .int .i64 t.surv, .bool t.flip, .int .i64 t.hash, .slice ha3 t.kept.length hc3]) rfl rfl hs (fun W' hSw => (by
     obtain ⟨x0, x1, x2, x3, x4, x5, x6, x7⟩ := Xx.later hSw
     go_simp; first | done | with_reducible rfl)) ?_
    simp only [zA, zB, zC]
    refine Disk.zc 4 132 rfl rfl (f := 20) (args := #[.agg #[.slice ua1 r.words.length uc1, .slice ua2 r.roots.length uc2, .int .i64 r.old, .int .i64 r.eden, .int .i64 r.surv, .bool r.flip, .int .i64 r.hash, .slice ua3 r.kept.length uc3]]) (w0 := wz1) ?_
    refine (SR _ _ (ru.later hs)).mono ?_
    rintro e wa ⟨⟨va, rfl, ova⟩, hbva⟩
    replace hs := bel_after hs hbva
    refine ⟨_, rfl, .inr hs, ?_⟩
    simp only [zA, zB, zC]
    refine Disk.zc 6 134 rfl rfl (f := 20) (args := #[.agg #[.slice ha1 t.words.length hc1, .slice ha2 t.roots.length hc2, .int .i64 t.old, .int .i64 t.eden, .int .i64 t.surv, .bool t.flip, .int .i64 t.hash, .slice ha3 t.kept.length hc3]]) (w0 := wa) ?_
    refine (ST _ _ (rh.later hs)).mono ?_
    rintro e wb ⟨⟨vb, rfl, ovb⟩, hbvb⟩
    replace hs := bel_after hs hbvb
    refine ⟨_, rfl, .inr hs, ?_⟩
    simp only [zA, zB, zC]
    refine Disk.zc 7 135 rfl rfl (f := 19) (args := #[va, vb]) (w0 := wb) ?_
    refine (LG _ _ _ (ova.grn.gr.later hbvb) ovb.grn.gr).mono ?_
    rintro e wz2 ⟨rfl, hbq⟩
    replace hs := bel_after hs hbq
    clear hbq
    refine ⟨_, rfl, .inr hs, ?_⟩
    simp only [zA, zB, zC]
    refine Disk.zt0 8 136 (v := .bool true) rfl rfl hs ?_
    simp only [zA, zB, zC]
    refine Disk.zt0 9 137 (v := .bool true) rfl rfl hs ?_
    simp only [zA, zB, zC]
    refine Disk.zt 10 138 (v := .agg #[.slice ua1 r.words.length uc1, .slice ua2 r.roots.length uc2, .int .i64 r.old, .int .i64 r.eden, .int .i64 r.surv, .bool r.flip, .int .i64 r.hash, .slice ua3 r.kept.length uc3]) rfl rfl hs (fun W' hSw => (by
     obtain ⟨u0, u1, u2, u3, u4, u5, u6, u7⟩ := Xu.later hSw
     go_simp; first | done | with_reducible rfl)) ?_
    simp only [zA, zB, zC]
    refine Disk.zc 11 139 rfl rfl (f := 11) (args := #[.agg #[.slice ua1 r.words.length uc1, .slice ua2 r.roots.length uc2, .int .i64 r.old, .int .i64 r.eden, .int .i64 r.surv, .bool r.flip, .int .i64 r.hash, .slice ua3 r.kept.length uc3]]) (w0 := wz2) ?_
    refine (GA _ _ (ru.later hs)).mono ?_
    rintro e wz3 ⟨rfl, hbq⟩
    replace hs := bel_after hs hbq
    clear hbq
    refine ⟨_, rfl, .inr hs, ?_⟩
    simp only [zA, zB, zC]
    refine Disk.zt0 12 140 (v := .bool true) rfl rfl hs ?_
    simp only [zA, zB, zC]
    refine Disk.zt0 13 141 (v := .bool true) rfl rfl hs ?_
    simp only [zA, zB, zC]
    refine Disk.zt0 14 142 (v := .bool true) rfl rfl hs ?_
    simp only [zA, zB, zC]
    refine Disk.zt 15 143 (v := .agg #[.slice ua1 r.words.length uc1, .slice ua2 r.roots.length uc2, .int .i64 r.old, .int .i64 r.eden, .int .i64 r.surv, .bool r.flip, .int .i64 r.hash, .slice ua3 r.kept.length uc3]) rfl rfl hs (fun W' hSw => (by
     obtain ⟨u0, u1, u2, u3, u4, u5, u6, u7⟩ := Xu.later hSw
     go_simp; first | done | with_reducible rfl)) ?_
    simp only [zA, zB, zC]
    refine Disk.zc 16 144 rfl rfl (f := 21) (args := #[.agg #[.slice ua1 r.words.length uc1, .slice ua2 r.roots.length uc2, .int .i64 r.old, .int .i64 r.eden, .int .i64 r.surv, .bool r.flip, .int .i64 r.hash, .slice ua3 r.kept.length uc3]]) (w0 := wz3) ?_
    refine (YO _ _ (ru.later hs)).mono ?_
    rintro e wz4 ⟨rfl, hbq⟩
    replace hs := bel_after hs hbq
    clear hbq
    refine ⟨_, rfl, .inr hs, ?_⟩
    simp only [zA, zB, zC]
    refine Disk.zt0 17 145 (v := .bool true) rfl rfl hs ?_
    simp only [zA, zB, zC]
    refine Disk.zt0 18 146 (v := .bool true) rfl rfl hs ?_
    simp only [zA, zB, zC]
    refine Disk.zt0 19 147 (v := .bool true) rfl rfl hs ?_
    simp only [zA, zB, zC]
    refine Disk.zt0 20 148 (v := .pointer (some ⟨w2.heap.size, 2, none⟩)) rfl rfl hs ?_
    simp only [zA, zB, zC]
    refine Disk.zt 21 149 (v := .int .i64 r.old) rfl rfl hs (fun W' hSw => (by
     obtain ⟨u0, u1, u2, u3, u4, u5, u6, u7⟩ := Xu.later hSw
     go_simp; first | done | with_reducible rfl)) ?_
    simp only [zA, zB, zC]
    refine Disk.zt 22 150 (v := .agg #[.slice ha1 t.words.length hc1, .slice ha2 t.roots.length hc2, .int .i64 t.old, .int .i64 t.eden, .int .i64 t.surv, .bool t.flip, .int .i64 t.hash, .slice ha3 t.kept.length hc3]) rfl rfl hs (fun W' hSw => (by
     obtain ⟨x0, x1, x2, x3, x4, x5, x6, x7⟩ := Xx.later hSw
     go_simp; first | done | with_reducible rfl)) ?_
    simp only [zA, zB, zC]
    refine Disk.zc 23 151 rfl rfl (f := 22) (args := #[.agg #[.slice ha1 t.words.length hc1, .slice ha2 t.roots.length hc2, .int .i64 t.old, .int .i64 t.eden, .int .i64 t.surv, .bool t.flip, .int .i64 t.hash, .slice ha3 t.kept.length hc3]]) (w0 := wz4) ?_
    refine (RE _ _ (rh.later hs)).mono ?_
    rintro e wz5 ⟨rfl, hbq⟩
    replace hs := bel_after hs hbq
    clear hbq
    refine ⟨_, rfl, .inr hs, ?_⟩
    simp only [zA, zB, zC]
    refine Disk.zt0 24 152 (v := .bool true) rfl rfl hs ?_
    simp only [zA, zB, zC]
    refine Disk.zt0 25 153 (v := .bool true) rfl rfl hs ?_
    simp only [zA, zB, zC]
    refine Disk.zt0 26 154 (v := .bool true) rfl rfl hs ?_
    simp only [zA, zB, zC]
    refine Disk.zt0 27 155 (v := .bool true) rfl rfl hs ?_
    simp only [zA, zB, zC]
    refine Disk.zt0 28 156 (v := .bool true) rfl rfl hs ?_
    simp only [zA, zB, zC]
    refine Disk.zt0 29 157 (v := .bool true) rfl rfl hs ?_
    simp only [zA, zB, zC]
    refine Disk.zt 30 158 (v := .agg #[.slice ga1 r.words.length gc1, .slice ga2 r.roots.length gc2, .int .i64 r.old, .int .i64 r.eden, .int .i64 r.surv, .bool r.flip, .int .i64 r.hash, .slice ga3 r.kept.length gc3]) rfl rfl hs (fun W' hSw => (by
     obtain ⟨g0, g1, g2, g3, g4, g5, g6, g7⟩ := Xg.later hSw
     go_simp; first | done | with_reducible rfl)) ?_
    simp only [zA, zB, zC]
    refine Disk.zt 31 159 (v := .agg #[.slice ua1 r.words.length uc1, .slice ua2 r.roots.length uc2, .int .i64 r.old, .int .i64 r.eden, .int .i64 r.surv, .bool r.flip, .int .i64 r.hash, .slice ua3 r.kept.length uc3]) rfl rfl hs (fun W' hSw => (by
     obtain ⟨u0, u1, u2, u3, u4, u5, u6, u7⟩ := Xu.later hSw
     go_simp; first | done | with_reducible rfl)) ?_
    simp only [zA, zB, zC]
    refine Disk.zc 32 160 rfl rfl (f := 10) (args := #[.agg #[.slice ga1 r.words.length gc1, .slice ga2 r.roots.length gc2, .int .i64 r.old, .int .i64 r.eden, .int .i64 r.surv, .bool r.flip, .int .i64 r.hash, .slice ga3 r.kept.length gc3], .agg #[.slice ua1 r.words.length uc1, .slice ua2 r.roots.length uc2, .int .i64 r.old, .int .i64 r.eden, .int .i64 r.surv, .bool r.flip, .int .i64 r.hash, .slice ua3 r.kept.length uc3]]) (w0 := wz5) ?_
    refine (LH _ _ _ (rg.later hs) (ru.later hs)).mono ?_
    rintro e wz6 ⟨rfl, hbq⟩
    replace hs := bel_after hs hbq
    clear hbq
    refine ⟨_, rfl, .inr hs, ?_⟩
    simp only [zA, zB, zC]
    refine Disk.zt0 33 161 (v := .bool true) rfl rfl hs ?_
    simp only [zA, zB, zC]
    refine Disk.zt0 34 2 (v := .bool true) rfl rfl hs ?_
    simp only [zA, zB, zC]
    refine Disk.z_done (by kernel_rfl) ?_ _
    have hbe := bel_after hbw hs
    clear hs
    go_wp2
    go_ret
    exact ⟨rfl, hbe⟩
end Go.Proofs.YthdffigckohpoaaGreat
