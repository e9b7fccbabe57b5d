/- The law FnRooted, walked. -/
import Derived.Test.YtphkmgalgngjiaaGreatZLDAdd
import Derived.Test.YtphkmgalgngjiaaGreatZLDSetR
import Derived.Test.YtphkmgalgngjiaaGreatZN16
import Derived.Test.YtphkmgalgngjiaaGreatZMIAdd
import Derived.Test.YtphkmgalgngjiaaGreatZMISet
import Derived.Test.YtphkmgalgngjiaaGreatZMSSet
import Derived.Test.YtphkmgalgngjiaaGreatZMSAdd
namespace Go.Proofs.YtphkmgalgngjiaaGreat
open Go.RowKit

set_option maxRecDepth 100000 in
set_option maxHeartbeats 6400000 in
theorem lawRooted_any (cv : Value) (cs : List UInt8) (w : World) (hc : BR w cv cs) :
    Calls Tryz.prog 4 #[cv] w fun x w' => x = .returned (.bool true) ∧ Below w.heap.size w w' := by
  have BG := big_any cv cs w hc
  by_cases hbig : 4096 < cs.length
  · rw [decide_eq_true hbig] at BG
    go_enter Tryz.func4, Tryz.ntmps4
    go_wp2_with (go_at_call 6; refine BG.mono ?_; rintro x w' ⟨rfl, rfl⟩)
    go_ret
    exact ⟨rfl, Below.refl _ _⟩
  rw [decide_eq_false hbig] at BG
  go_enter Tryz.func4, Tryz.ntmps4
  go_wp2_with fail
  refine BG.mono ?_
  rintro x w0 ⟨rfl, rfl⟩
  clear BG
  have hbw := Below.refl w0.heap.size w0
  go_wp2_with fail
  refine (drawAddRoot_any cv cs _ (hc.later hbw) (by omega)).mono ?_
  rintro x w1 ⟨⟨t, hv1, hv2, hv3, y, rfl, hy, hh, hwl, hrl, hkl⟩, hb⟩
  replace hbw := bel_after hbw hb
  clear hb
  have rh := hh.hr
  have ih1 := hh.w1
  have ih2 := IR_of_owns hh.o2
  obtain ⟨ha1, hc1, rfl, -⟩ := IRs hh.w1
  obtain ⟨ha2, hc2, rfl, -⟩ := IRs (IR_of_owns hh.o2)
  obtain ⟨ha3, hc3, rfl, -⟩ := IRs (IR_of_owns hh.o3)
  clear hh
  have al := bel_one w1 (.cells #[.slice ha1 t.words.length hc1, .slice ha2 t.roots.length hc2, .int .i64 t.old, .int .i64 t.eden, .int .i64 t.surv, .bool t.flip, .int .i64 t.hash, .slice ha3 t.kept.length hc3] 26)
  replace rh := rh.later al
  replace ih1 := ih1.later al
  replace ih2 := ih2.later al
  have Xx := Bx.new w1 (.slice ha1 t.words.length hc1) (.slice ha2 t.roots.length hc2) (.slice ha3 t.kept.length hc3) t 26
  replace hbw := bel_after hbw al
  clear al
  obtain ⟨x0, x1, x2, x3, x4, x5, x6, x7⟩ := id Xx
  have AF : Hid (addB t y = true → okC (addC t y) = true ∧ (addC t y).words = t.words ∧ (addC t y).roots.length = t.roots.length + 1 ∧ (addC t y).roots.getD t.roots.length 0 = y) := fun q => (by rw [(add_ok q).2]; exact ⟨by have := (add_ok q).1; rw [(add_ok q).2] at this; exact this, rfl, by show (t.roots ++ [y]).length = _; rw [List.length_append, List.length_singleton], by show (t.roots ++ [y]).getD _ 0 = _; simp⟩)
  obtain ⟨rb1, rb2, rb3⟩ := add_bounds (h := t) y ⟨by omega, by omega, by omega⟩
  have C1 := fun v W hv => implAddRoot_c v t y W hv (by omega) (by omega) (by omega)
  have C2 := fun v W hv => specAddRoot_c v t y W hv (by omega) (by omega) (by omega) hy
  generalize addC t y = r at *
  generalize addB t y = b at *
  have LH := fun v u W hv hu => likeHeap_any v u r W hv hu (by omega) (by omega) (by omega)
  have tb : (b != b) = false := by simp
  go_wp2_with fail
  refine (C1 _ _ rh).mono ?_
  rintro e w2 ⟨⟨uu, rfl, hu⟩, hb⟩
  replace Xx := Xx.later hb
  replace rh := rh.later hb
  replace ih1 := ih1.later hb
  replace ih2 := ih2.later hb
  replace hbw := bel_after hbw hb
  clear hb
  have ru := hu.hr
  obtain ⟨ua1, uc1, ua2, uc2, ua3, uc3, rfl, iu1, iu2, iu3⟩ := hu.sh
  clear hu
  have al := bel_one w2 (.cells #[.slice ua1 r.words.length uc1, .slice ua2 r.roots.length uc2, .int .i64 r.old, .int .i64 r.eden, .int .i64 r.surv, .bool r.flip, .int .i64 r.hash, .slice ua3 r.kept.length uc3] 26)
  replace Xx := Xx.later al
  replace rh := rh.later al
  replace ih1 := ih1.later al
  replace ih2 := ih2.later al
  replace ru := ru.later al
  replace iu1 := iu1.later al
  replace iu2 := iu2.later al
  replace iu3 := iu3.later al
  have Xu := Bx.new w2 (.slice ua1 r.words.length uc1) (.slice ua2 r.roots.length uc2) (.slice ua3 r.kept.length uc3) r 26
  replace hbw := bel_after hbw al
  clear al
  clear x0 x1 x2 x3 x4 x5 x6 x7
  obtain ⟨x0, x1, x2, x3, x4, x5, x6, x7⟩ := id Xx
  go_wp2_with fail
  refine (C2 _ _ rh).mono ?_
  rintro e w3 ⟨⟨su, rfl, hs⟩, hb⟩
  replace Xx := Xx.later hb
  replace Xu := Xu.later hb
  replace rh := rh.later hb
  replace ih1 := ih1.later hb
  replace ih2 := ih2.later hb
  replace ru := ru.later hb
  replace iu1 := iu1.later hb
  replace iu2 := iu2.later hb
  replace iu3 := iu3.later hb
  replace hbw := bel_after hbw hb
  clear hb
  have rs := hs.hr
  obtain ⟨sa1, sc1, sa2, sc2, sa3, sc3, rfl, is1, is2, is3⟩ := hs.sh
  clear hs
  have al := bel_one w3 (.cells #[.slice sa1 r.words.length sc1, .slice sa2 r.roots.length sc2, .int .i64 r.old, .int .i64 r.eden, .int .i64 r.surv, .bool r.flip, .int .i64 r.hash, .slice sa3 r.kept.length sc3] 26)
  replace Xx := Xx.later al
  replace Xu := Xu.later al
  replace rh := rh.later al
  replace ih1 := ih1.later al
  replace ih2 := ih2.later al
  replace ru := ru.later al
  replace iu1 := iu1.later al
  replace iu2 := iu2.later al
  replace iu3 := iu3.later al
  replace rs := rs.later al
  replace is1 := is1.later al
  replace is2 := is2.later al
  replace is3 := is3.later al
  have Xs := Bx.new w3 (.slice sa1 r.words.length sc1) (.slice sa2 r.roots.length sc2) (.slice sa3 r.kept.length sc3) r 26
  replace hbw := bel_after hbw al
  clear al
  clear x0 x1 x2 x3 x4 x5 x6 x7
  obtain ⟨u0, u1, u2, u3, u4, u5, u6, u7⟩ := id Xu
  obtain ⟨s0, s1, s2, s3, s4, s5, s6, s7⟩ := id Xs
  go_wp2_with fail
  refine (LH _ _ _ ru rs).mono ?_
  rintro e w4 ⟨rfl, hb⟩
  replace Xx := Xx.later hb
  replace Xu := Xu.later hb
  replace rh := rh.later hb
  replace ih1 := ih1.later hb
  replace ih2 := ih2.later hb
  replace ru := ru.later hb
  replace iu1 := iu1.later hb
  replace iu2 := iu2.later hb
  replace iu3 := iu3.later hb
  replace hbw := bel_after hbw hb
  clear hb LH C1 C2 rs is1 is2 is3 Xs
  clear s0 s1 s2 s3 s4 s5 s6 s7 u0 u1 u2 u3 u4 u5 u6 u7
  go_wp2_with fail
  refine (drawSetRoot_any cv cs _ (hc.later hbw) (by omega)).mono ?_
  rintro x w5 ⟨⟨m, ov1, ov2, ov3, i, z, rfl, hi, hz, ho, owl, orl, okl⟩, hb⟩
  replace Xx := Xx.later hb
  replace Xu := Xu.later hb
  replace rh := rh.later hb
  replace ih1 := ih1.later hb
  replace ih2 := ih2.later hb
  replace ru := ru.later hb
  replace iu1 := iu1.later hb
  replace iu2 := iu2.later hb
  replace iu3 := iu3.later hb
  replace hbw := bel_after hbw hb
  clear hb
  have ro := ho.hr
  have io1 := ho.w1
  have io2 := IR_of_owns ho.o2
  obtain ⟨oa1, oc1, rfl, -⟩ := IRs ho.w1
  obtain ⟨oa2, oc2, rfl, -⟩ := IRs (IR_of_owns ho.o2)
  obtain ⟨oa3, oc3, rfl, -⟩ := IRs (IR_of_owns ho.o3)
  clear ho
  have al := bel_one w5 (.cells #[.slice oa1 m.words.length oc1, .slice oa2 m.roots.length oc2, .int .i64 m.old, .int .i64 m.eden, .int .i64 m.surv, .bool m.flip, .int .i64 m.hash, .slice oa3 m.kept.length oc3] 26)
  replace Xx := Xx.later al
  replace Xu := Xu.later al
  replace rh := rh.later al
  replace ih1 := ih1.later al
  replace ih2 := ih2.later al
  replace ru := ru.later al
  replace iu1 := iu1.later al
  replace iu2 := iu2.later al
  replace iu3 := iu3.later al
  replace ro := ro.later al
  replace io1 := io1.later al
  replace io2 := io2.later al
  have Xo := Bx.new w5 (.slice oa1 m.words.length oc1) (.slice oa2 m.roots.length oc2) (.slice oa3 m.kept.length oc3) m 26
  replace hbw := bel_after hbw al
  clear al
  obtain ⟨o0, o1, o2, o3, o4, o5, o6, o7⟩ := id Xo
  have SF : Hid (setB m i z = true → okC (setC m i z) = true ∧ (setC m i z).words = m.words ∧ (setC m i z).roots.length = m.roots.length ∧ ∃ k : Nat, i = k ∧ k < m.roots.length ∧ (setC m i z).roots.getD k 0 = z) := fun q => (by
    obtain ⟨q1, q2, q3, q4⟩ := set_ok q
    obtain ⟨k, rfl⟩ := Int.eq_ofNat_of_zero_le q3
    refine ⟨q1, by rw [q2], by rw [q2]; show (m.roots.set _ z).length = _; rw [List.length_set], k, rfl, by omega, ?_⟩
    rw [q2]
    show (m.roots.set ((k : Int).toNat) z).getD k 0 = z
    rw [Int.toNat_natCast, List.getD_eq_getElem?_getD, List.getElem?_set, if_pos rfl, if_pos (by omega)]
    rfl)
  obtain ⟨sb1, sb2, sb3⟩ := set_bounds (h := m) i z ⟨by omega, by omega, by omega⟩
  have C3 := fun v W hv => implSetRoot_c v m i z W hv (by omega) (by omega) (by omega)
  have C4 := fun v W hv => specSetRoot_c v m i z W hv (by omega) (by omega) (by omega) hz
  generalize setC m i z = q at *
  generalize setB m i z = f at *
  have LH := fun v u W hv hu => likeHeap_any v u q W hv hu (by omega) (by omega) (by omega)
  have tf : (f != f) = false := by simp
  go_wp2_with fail
  refine (C3 _ _ ro).mono ?_
  rintro e w6 ⟨⟨gu, rfl, hg⟩, hb⟩
  replace Xx := Xx.later hb
  replace Xu := Xu.later hb
  replace Xo := Xo.later hb
  replace rh := rh.later hb
  replace ih1 := ih1.later hb
  replace ih2 := ih2.later hb
  replace ru := ru.later hb
  replace iu1 := iu1.later hb
  replace iu2 := iu2.later hb
  replace iu3 := iu3.later hb
  replace ro := ro.later hb
  replace io1 := io1.later hb
  replace io2 := io2.later hb
  replace hbw := bel_after hbw hb
  clear hb
  have rg := hg.hr
  obtain ⟨ga1, gc1, ga2, gc2, ga3, gc3, rfl, ig1, ig2, ig3⟩ := hg.sh
  clear hg
  have al := bel_one w6 (.cells #[.slice ga1 q.words.length gc1, .slice ga2 q.roots.length gc2, .int .i64 q.old, .int .i64 q.eden, .int .i64 q.surv, .bool q.flip, .int .i64 q.hash, .slice ga3 q.kept.length gc3] 26)
  replace Xx := Xx.later al
  replace Xu := Xu.later al
  replace Xo := Xo.later al
  replace rh := rh.later al
  replace ih1 := ih1.later al
  replace ih2 := ih2.later al
  replace ru := ru.later al
  replace iu1 := iu1.later al
  replace iu2 := iu2.later al
  replace iu3 := iu3.later al
  replace ro := ro.later al
  replace io1 := io1.later al
  replace io2 := io2.later al
  replace rg := rg.later al
  replace ig1 := ig1.later al
  replace ig2 := ig2.later al
  replace ig3 := ig3.later al
  have Xg := Bx.new w6 (.slice ga1 q.words.length gc1) (.slice ga2 q.roots.length gc2) (.slice ga3 q.kept.length gc3) q 26
  replace hbw := bel_after hbw al
  clear al
  clear o0 o1 o2 o3 o4 o5 o6 o7
  obtain ⟨o0, o1, o2, o3, o4, o5, o6, o7⟩ := id Xo
  go_wp2_with fail
  refine (C4 _ _ ro).mono ?_
  rintro e w7 ⟨⟨du, rfl, hd⟩, hb⟩
  replace Xx := Xx.later hb
  replace Xu := Xu.later hb
  replace Xo := Xo.later hb
  replace Xg := Xg.later hb
  replace rh := rh.later hb
  replace ih1 := ih1.later hb
  replace ih2 := ih2.later hb
  replace ru := ru.later hb
  replace iu1 := iu1.later hb
  replace iu2 := iu2.later hb
  replace iu3 := iu3.later hb
  replace ro := ro.later hb
  replace io1 := io1.later hb
  replace io2 := io2.later hb
  replace rg := rg.later hb
  replace ig1 := ig1.later hb
  replace ig2 := ig2.later hb
  replace ig3 := ig3.later hb
  replace hbw := bel_after hbw hb
  clear hb
  have rd := hd.hr
  obtain ⟨da1, dc1, da2, dc2, da3, dc3, rfl, id1, id2, id3⟩ := hd.sh
  clear hd
  have al := bel_one w7 (.cells #[.slice da1 q.words.length dc1, .slice da2 q.roots.length dc2, .int .i64 q.old, .int .i64 q.eden, .int .i64 q.surv, .bool q.flip, .int .i64 q.hash, .slice da3 q.kept.length dc3] 26)
  replace Xx := Xx.later al
  replace Xu := Xu.later al
  replace Xo := Xo.later al
  replace Xg := Xg.later al
  replace rh := rh.later al
  replace ih1 := ih1.later al
  replace ih2 := ih2.later al
  replace ru := ru.later al
  replace iu1 := iu1.later al
  replace iu2 := iu2.later al
  replace iu3 := iu3.later al
  replace ro := ro.later al
  replace io1 := io1.later al
  replace io2 := io2.later al
  replace rg := rg.later al
  replace ig1 := ig1.later al
  replace ig2 := ig2.later al
  replace ig3 := ig3.later al
  replace rd := rd.later al
  replace id1 := id1.later al
  replace id2 := id2.later al
  replace id3 := id3.later al
  have Xd := Bx.new w7 (.slice da1 q.words.length dc1) (.slice da2 q.roots.length dc2) (.slice da3 q.kept.length dc3) q 26
  replace hbw := bel_after hbw al
  clear al
  clear o0 o1 o2 o3 o4 o5 o6 o7
  obtain ⟨g0, g1, g2, g3, g4, g5, g6, g7⟩ := id Xg
  obtain ⟨d0, d1, d2, d3, d4, d5, d6, d7⟩ := id Xd
  go_wp2_with fail
  refine (LH _ _ _ rg rd).mono ?_
  rintro e w8 ⟨rfl, hb⟩
  replace Xx := Xx.later hb
  replace Xu := Xu.later hb
  replace Xo := Xo.later hb
  replace Xg := Xg.later hb
  replace rh := rh.later hb
  replace ih1 := ih1.later hb
  replace ih2 := ih2.later hb
  replace ru := ru.later hb
  replace iu1 := iu1.later hb
  replace iu2 := iu2.later hb
  replace iu3 := iu3.later hb
  replace ro := ro.later hb
  replace io1 := io1.later hb
  replace io2 := io2.later hb
  replace rg := rg.later hb
  replace ig1 := ig1.later hb
  replace ig2 := ig2.later hb
  replace ig3 := ig3.later hb
  replace hbw := bel_after hbw hb
  clear hb LH C3 C4 rd id1 id2 id3 Xd
  have LI := fun v u ss W hv hu h1 => likeInts_any v u ss W hv hu h1
  have HK := fun v W hv => implHeapOk_c v r W hv (by omega) (by omega)
  have HQ := fun v W hv => implHeapOk_c v q W hv (by omega) (by omega)
  clear d0 d1 d2 d3 d4 d5 d6 d7 g0 g1 g2 g3 g4 g5 g6 g7
  cases b
  · obtain ⟨o0, o1, o2, o3, o4, o5, o6, o7⟩ := id Xo
    obtain ⟨g0, g1, g2, g3, g4, g5, g6, g7⟩ := id Xg
    clear AF HK Xx Xu rh ih1 ih2 ru iu1 iu2 iu3
    cases f
    · go_wp2
      go_ret
      exact ⟨rfl, hbw⟩
    · obtain ⟨f1, f2, f3, k, rfl, f4, f5⟩ := SF.out rfl
      rw [f1] at HQ
      obtain ⟨gb, go, rfl, ci⟩ := ig2.at (k := k) (by omega)
      rw [f5] at ci
      have zz : (z == z) = true := by simp
      have kl : (k : Int) < (q.roots.length : Int) := by omega
      have f2' : Hid (q.words = m.words) := f2
      clear SF f1 f2 f3 f4 f5
      go_wp2_with fail
      refine (LI _ _ q.words _ ig1 (by rw [f2'.out]; exact io1) (by omega)).mono ?_
      rintro e w9 ⟨rfl, hb9⟩
      have rg9 := rg.later hb9
      have hbw9 := bel_after hbw hb9
      clear o0 o1 o2 o3 o4 o5 o6 o7 g0 g1 g2 g3 g4 g5 g6 g7
      obtain ⟨g0, g1, g2, g3, g4, g5, g6, g7⟩ := Xg.later hb9
      go_wp2_with fail
      refine (HQ _ _ rg9).mono ?_
      rintro e wA ⟨rfl, hbA⟩
      go_wp2
      go_ret
      exact ⟨rfl, bel_after hbw9 hbA⟩
  · obtain ⟨a1, a2, a3, a4⟩ := AF.out rfl
    rw [a1] at HK
    obtain ⟨ub, uo, rfl, ci⟩ := iu2.at (k := t.roots.length) (by omega)
    rw [a4] at ci
    generalize hnr : r.roots.length = nr at *
    obtain rfl : nr = t.roots.length + 1 := a3
    clear hnr
    have yy : (y != y) = false := by simp
    have nn : ((t.roots.length : Int) + 1 != (t.roots.length : Int) + 1) = false := by simp
    have a2' : Hid (r.words = t.words) := a2
    clear AF a1 a2 a4
    obtain ⟨x0, x1, x2, x3, x4, x5, x6, x7⟩ := id Xx
    obtain ⟨u0, u1, u2, u3, u4, u5, u6, u7⟩ := id Xu
    go_wp2_with fail
    refine (LI _ _ r.words _ iu1 (by rw [a2'.out]; exact ih1) (by omega)).mono ?_
    rintro e wB ⟨rfl, hb⟩
    clear x0 x1 x2 x3 x4 x5 x6 x7 u0 u1 u2 u3 u4 u5 u6 u7 ci
    replace ru := ru.later hb
    replace Xu := Xu.later hb
    replace Xo := Xo.later hb
    replace Xg := Xg.later hb
    replace rg := rg.later hb
    replace ig1 := ig1.later hb
    replace ig2 := ig2.later hb
    replace io1 := io1.later hb
    replace hbw := bel_after hbw hb
    clear hb
    obtain ⟨u0, u1, u2, u3, u4, u5, u6, u7⟩ := id Xu
    go_wp2_with fail
    refine (HK _ _ ru).mono ?_
    rintro e wC ⟨rfl, hb⟩
    clear u0 u1 u2 u3 u4 u5 u6 u7
    replace Xo := Xo.later hb
    replace Xg := Xg.later hb
    replace rg := rg.later hb
    replace ig1 := ig1.later hb
    replace ig2 := ig2.later hb
    replace io1 := io1.later hb
    replace hbw := bel_after hbw hb
    clear hb Xu Xx rh ih1 ih2 ru iu1 iu2 iu3 HK a2'
    obtain ⟨o0, o1, o2, o3, o4, o5, o6, o7⟩ := id Xo
    obtain ⟨g0, g1, g2, g3, g4, g5, g6, g7⟩ := id Xg
    cases f
    · go_wp2
      go_ret
      exact ⟨rfl, hbw⟩
    · obtain ⟨f1, f2, f3, k, rfl, f4, f5⟩ := SF.out rfl
      rw [f1] at HQ
      obtain ⟨gb, go, rfl, ci⟩ := ig2.at (k := k) (by omega)
      rw [f5] at ci
      have zz : (z == z) = true := by simp
      have kl : (k : Int) < (q.roots.length : Int) := by omega
      have f2' : Hid (q.words = m.words) := f2
      clear SF f1 f2 f3 f4 f5
      go_wp2_with fail
      refine (LI _ _ q.words _ ig1 (by rw [f2'.out]; exact io1) (by omega)).mono ?_
      rintro e w9 ⟨rfl, hb9⟩
      have rg9 := rg.later hb9
      have hbw9 := bel_after hbw hb9
      clear o0 o1 o2 o3 o4 o5 o6 o7 g0 g1 g2 g3 g4 g5 g6 g7
      obtain ⟨g0, g1, g2, g3, g4, g5, g6, g7⟩ := Xg.later hb9
      go_wp2_with fail
      refine (HQ _ _ rg9).mono ?_
      rintro e wA ⟨rfl, hbA⟩
      go_wp2
      go_ret
      exact ⟨rfl, bel_after hbw9 hbA⟩

end Go.Proofs.YtphkmgalgngjiaaGreat
