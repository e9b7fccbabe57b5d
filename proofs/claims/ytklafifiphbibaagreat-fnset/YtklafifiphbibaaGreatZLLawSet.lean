/- The law FnSet, walked. -/
import Derived.Test.YtklafifiphbibaaGreatZV14
import Derived.Test.YtklafifiphbibaaGreatZV15
import Derived.Test.YtklafifiphbibaaGreatZV17
import Derived.Test.YtklafifiphbibaaGreatZFGet
import Derived.Test.YtklafifiphbibaaGreatZFSSet
import Derived.Test.YtklafifiphbibaaGreatZFSpec
import Derived.Test.YtklafifiphbibaaGreatZV7
namespace Go.Proofs.YtklafifiphbibaaGreat
open Go.RowKit

theorem put_bounds {h : Hp} (x i y : Int) (k : h.words.length ≤ 10000000 ∧ h.roots.length ≤ 10000000 ∧ h.kept.length ≤ 10000000) : (putC h x i y).words.length ≤ 1000000000 ∧ (putC h x i y).roots.length ≤ 1000000000 ∧ (putC h x i y).kept.length ≤ 1000000000 := by
  unfold putC
  split
  · refine ⟨by unfold putH; simp; omega, by show h.roots.length ≤ _; omega, ?_⟩
    show (keptOf _ _).length ≤ _
    unfold keptOf
    rw [ints_length]
    have := List.length_filter_le (fun b => decide (b < 2000) && hasY (h.words.set ((x / 2).toNat + 4 + i.toNat) y) b) (obC h)
    have := ob_short h
    omega
  · simp [zeroH]

/-- All that FnSet asks of a field that was set, in one word. -/
def PutAll (t r : Hp) (y i z : Int) : Prop := ∃ p : Nat, p < 3200 ∧ t.words.length = 3200 ∧ r.words = t.words.set p z ∧ okC r = true ∧ getC t y i = gw t.words p ∧ fldB t y i = true ∧ getC r y i = z ∧ fldB r y i = true ∧ putC r y i (gw t.words p) = t ∧ putB r y i (gw t.words p) = true ∧
    (∀ k c, k < 4 → clsC r y k c = clsC t y k c) ∧ In64 (gw t.words p)
theorem put_all' {t : Hp} {y i z : Int} (q : putB t y i z = true) : PutAll t (putC t y i z) y i z := by
  obtain ⟨p, p1, p2, p3, _, _, p4, p5, p6, p7, p8, p9, p10, p11, p12⟩ := put_all q
  exact ⟨p, p1, p2, p3, p4, p6, p5, p8, p7, p10, p9, p11, p12⟩

set_option maxRecDepth 100000 in
set_option maxHeartbeats 25600000 in
theorem lawSet_any (cv : Value) (cs : List UInt8) (w : World) (hc : BR w cv cs) :
    Calls Tryz.prog 3 #[cv] w fun x w' => x = .returned (.bool true) ∧ Below w.heap.size w w' := by
  have BG := big_any cv cs w hc
  by_cases hbig : 4096 < cs.length
  · rw [decide_eq_true hbig] at BG
    go_enter Tryz.func3, Tryz.ntmps3
    go_wp2_with (go_at_call 5; refine BG.mono ?_; rintro x w' ⟨rfl, rfl⟩)
    go_ret
    exact ⟨rfl, Below.refl _ _⟩
  rw [decide_eq_false hbig] at BG
  go_enter Tryz.func3, Tryz.ntmps3
  go_wp2_with fail
  refine BG.mono ?_
  rintro x w0 ⟨rfl, rfl⟩
  clear BG
  have hbw := Below.refl w0.heap.size w0
  go_wp2_with fail
  refine (drawSet_any cv cs _ (hc.later hbw) (by omega)).mono ?_
  rintro x w1 ⟨⟨t, hv1, hv2, hv3, y, i, z, rfl, hy, hi, hz, hh, hwl, hrl, hkl⟩, hb⟩
  replace hbw := bel_after hbw hb
  clear hb
  have rh := hh.hr
  have ih1 := hh.w1
  have ih2 := IR_of_owns hh.o2
  obtain ⟨ha1, hc1, rfl, -⟩ := IRs hh.w1
  obtain ⟨ha2, hc2, rfl, -⟩ := IRs (IR_of_owns hh.o2)
  obtain ⟨ha3, hc3, rfl, -⟩ := IRs (IR_of_owns hh.o3)
  clear hh
  have al := bel_one w1 (.cells #[.slice ha1 t.words.length hc1, .slice ha2 t.roots.length hc2, .int .i64 t.old, .int .i64 t.eden, .int .i64 t.surv, .bool t.flip, .int .i64 t.hash, .slice ha3 t.kept.length hc3] 26)
  replace rh := rh.later al
  replace ih1 := ih1.later al
  replace ih2 := ih2.later al
  have Xx := Bx.new w1 (.slice ha1 t.words.length hc1) (.slice ha2 t.roots.length hc2) (.slice ha3 t.kept.length hc3) t 26
  replace hbw := bel_after hbw al
  clear al
  obtain ⟨x0, x1, x2, x3, x4, x5, x6, x7⟩ := id Xx
  have hmx : Tryz.prog.follows .mixedOrders = true := by kernel_rfl
  have PN : Hid (putB t y i z = false → putC t y i z = zeroH) := fun q => put_no q
  have PA : Hid (putB t y i z = true → PutAll t (putC t y i z) y i z) := fun q => put_all' q
  obtain ⟨rb1, rb2, rb3⟩ := put_bounds (h := t) y i z ⟨by omega, by omega, by omega⟩
  have C1 := fun v W hv => implSet_c v t y i z W hv (by omega) (by omega) (by omega)
  have C2 := fun v W hv => specSet_c v t y i z W hv (by omega) (by omega) (by omega) hy hz
  have G1 := fun v W hv => implGet_c v t y i W hv (by omega) (by omega)
  have G2 := fun v W hv => specGet_c v t y i W hv (by omega) (by omega) hy
  generalize putC t y i z = r at *
  generalize putB t y i z = b at *
  have LH := fun v u W hv hu => likeHeap_any v u r W hv hu (by omega) (by omega) (by omega)
  have tb : (b != b) = false := by simp
  go_wp2_with fail
  refine (C1 _ _ rh).mono ?_
  rintro e w2 ⟨⟨uu, rfl, hu⟩, hb⟩
  replace Xx := Xx.later hb
  replace rh := rh.later hb
  replace ih1 := ih1.later hb
  replace ih2 := ih2.later hb
  replace hbw := bel_after hbw hb
  clear hb
  have ru := hu.hr
  obtain ⟨ua1, uc1, ua2, uc2, ua3, uc3, rfl, iu1, iu2, iu3⟩ := hu.sh
  clear hu
  have al := bel_one w2 (.cells #[.slice ua1 r.words.length uc1, .slice ua2 r.roots.length uc2, .int .i64 r.old, .int .i64 r.eden, .int .i64 r.surv, .bool r.flip, .int .i64 r.hash, .slice ua3 r.kept.length uc3] 26)
  replace Xx := Xx.later al
  replace rh := rh.later al
  replace ih1 := ih1.later al
  replace ih2 := ih2.later al
  replace ru := ru.later al
  replace iu1 := iu1.later al
  replace iu2 := iu2.later al
  replace iu3 := iu3.later al
  have Xu := Bx.new w2 (.slice ua1 r.words.length uc1) (.slice ua2 r.roots.length uc2) (.slice ua3 r.kept.length uc3) r 26
  replace hbw := bel_after hbw al
  clear al
  clear x0 x1 x2 x3 x4 x5 x6 x7
  obtain ⟨x0, x1, x2, x3, x4, x5, x6, x7⟩ := id Xx
  go_wp2_with fail
  refine (C2 _ _ rh).mono ?_
  rintro e w3 ⟨⟨su, rfl, hs⟩, hb⟩
  replace Xx := Xx.later hb
  replace Xu := Xu.later hb
  replace rh := rh.later hb
  replace ih1 := ih1.later hb
  replace ih2 := ih2.later hb
  replace ru := ru.later hb
  replace iu1 := iu1.later hb
  replace iu2 := iu2.later hb
  replace iu3 := iu3.later hb
  replace hbw := bel_after hbw hb
  clear hb
  have rs := hs.hr
  obtain ⟨sa1, sc1, sa2, sc2, sa3, sc3, rfl, is1, is2, is3⟩ := hs.sh
  clear hs
  have al := bel_one w3 (.cells #[.slice sa1 r.words.length sc1, .slice sa2 r.roots.length sc2, .int .i64 r.old, .int .i64 r.eden, .int .i64 r.surv, .bool r.flip, .int .i64 r.hash, .slice sa3 r.kept.length sc3] 26)
  replace Xx := Xx.later al
  replace Xu := Xu.later al
  replace rh := rh.later al
  replace ih1 := ih1.later al
  replace ih2 := ih2.later al
  replace ru := ru.later al
  replace iu1 := iu1.later al
  replace iu2 := iu2.later al
  replace iu3 := iu3.later al
  replace rs := rs.later al
  replace is1 := is1.later al
  replace is2 := is2.later al
  replace is3 := is3.later al
  have Xs := Bx.new w3 (.slice sa1 r.words.length sc1) (.slice sa2 r.roots.length sc2) (.slice sa3 r.kept.length sc3) r 26
  replace hbw := bel_after hbw al
  clear al
  clear x0 x1 x2 x3 x4 x5 x6 x7
  obtain ⟨u0, u1, u2, u3, u4, u5, u6, u7⟩ := id Xu
  obtain ⟨s0, s1, s2, s3, s4, s5, s6, s7⟩ := id Xs
  go_wp2_with fail
  refine (LH _ _ _ ru rs).mono ?_
  rintro e w4 ⟨rfl, hb⟩
  replace Xx := Xx.later hb
  replace Xu := Xu.later hb
  replace rh := rh.later hb
  replace ih1 := ih1.later hb
  replace ru := ru.later hb
  replace iu1 := iu1.later hb
  replace hbw := bel_after hbw hb
  clear hb C1 C2 rs is1 is2 is3 Xs iu2 iu3 ih2
  clear s0 s1 s2 s3 s4 s5 s6 s7 u0 u1 u2 u3 u4 u5 u6 u7
  obtain ⟨x0, x1, x2, x3, x4, x5, x6, x7⟩ := id Xx
  have tf : (fldB t y i != fldB t y i) = false := by simp
  have tg : (getC t y i != getC t y i) = false := by simp
  go_wp2_with fail
  refine (G1 _ _ rh).mono ?_
  rintro e w5 ⟨rfl, hb⟩
  replace Xx := Xx.later hb
  replace Xu := Xu.later hb
  replace rh := rh.later hb
  replace ih1 := ih1.later hb
  replace ru := ru.later hb
  replace iu1 := iu1.later hb
  replace hbw := bel_after hbw hb
  clear hb
  clear x0 x1 x2 x3 x4 x5 x6 x7
  obtain ⟨x0, x1, x2, x3, x4, x5, x6, x7⟩ := id Xx
  go_wp2_with fail
  refine (G2 _ _ rh).mono ?_
  rintro e w6 ⟨rfl, hb⟩
  replace Xx := Xx.later hb
  replace Xu := Xu.later hb
  replace rh := rh.later hb
  replace ih1 := ih1.later hb
  replace ru := ru.later hb
  replace iu1 := iu1.later hb
  replace hbw := bel_after hbw hb
  clear hb G1 G2
  clear x0 x1 x2 x3 x4 x5 x6 x7
  obtain ⟨u0, u1, u2, u3, u4, u5, u6, u7⟩ := id Xu
  cases b
  · clear PA
    obtain rfl := PN.out rfl
    clear PN u0 u1 u2 u3 u4 u5 u6 u7
    obtain ⟨u0, u1, u2, u3, u4, u5, u6, u7⟩ := id Xu
    go_wp2_with fail
    refine (LH _ _ _ ru (zero_hn 0 _).hr).mono ?_
    rintro e w7 ⟨rfl, hb⟩
    go_wp2
    go_ret
    exact ⟨rfl, bel_after hbw hb⟩
  · obtain ⟨p, p1, p2, p3, p4, p5, p6, p7, p8, p9, p10, p11, p12⟩ := PA.out rfl
    clear PN PA LH tb tf tg
    have G3 := fun v W hv => implGet_c v r y i W hv (by omega) (by omega)
    rw [p7, p8] at G3
    have S3 := fun v W hv => implSet_c v r y i (gw t.words p) W hv (by omega) (by omega) (by omega)
    rw [p9, p10] at S3
    have K1 := fun v W hv => implClassOf_c v r y W hv (by omega) (by omega)
    have K2 := fun v W hv => implClassOf_c v t y W hv (by omega) (by omega)
    have K3 := fun v W hv => implHashOf_c v r y W hv (by omega) (by omega)
    have K4 := fun v W hv => implHashOf_c v t y W hv (by omega) (by omega)
    rw [p11 1 100 (by omega)] at K1
    rw [p11 2 0 (by omega)] at K3
    have OKr := fun v W hv => implHeapOk_c v r W hv (by omega) (by omega)
    rw [p4] at OKr
    have LHt := fun v u W hv hu => likeHeap_any v u t W hv hu (by omega) (by omega) (by omega)
    rw [p5, p6]
    generalize clsC t y 1 100 = k1 at *
    generalize clsC t y 2 0 = k2 at *
    have L2 : Hid (t.words.length = 3200 ∧ r.words.length = 3200) := ⟨p2, by rw [p3, List.length_set]; exact p2⟩
    have CP : Hid (∀ k, k < 3200 → (gw t.words k != gw r.words k) = (decide (k = p) && (gw t.words p != z))) := fun k hk => (by rw [p3]; exact count_put (by omega))
    obtain ⟨hb, ho, rfl, -⟩ := ih1.at (k := 0) (by omega)
    obtain ⟨ub, uo, rfl, -⟩ := iu1.at (k := 0) (by have := L2.out.2; omega)
    clear p2 p3 p4 p5 p6 p7 p8 p9 p10 p11 p12
    go_wp2_with fail
    refine (G3 _ _ ru).mono ?_
    rintro e w7 ⟨rfl, hbb⟩
    replace Xx := Xx.later hbb
    replace Xu := Xu.later hbb
    replace rh := rh.later hbb
    replace ru := ru.later hbb
    replace ih1 := ih1.later hbb
    replace iu1 := iu1.later hbb
    replace hbw := bel_after hbw hbb
    clear hbb G3
    clear u0 u1 u2 u3 u4 u5 u6 u7
    obtain ⟨x0, x1, x2, x3, x4, x5, x6, x7⟩ := id Xx
    obtain ⟨u0, u1, u2, u3, u4, u5, u6, u7⟩ := id Xu
    have HC : Hid (∀ k, k < 3200 → w7.cell? ⟨hb, ho + k, none⟩ = some (.int .i64 (gw t.words k)) ∧ w7.cell? ⟨ub, uo + k, none⟩ = some (.int .i64 (gw r.words k))) := fun k hk => (by
      obtain ⟨b1, o1, e1, c1⟩ := ih1.at (k := k) (by have := L2.out.1; omega)
      obtain ⟨b2, o2, e2, c2⟩ := iu1.at (k := k) (by have := L2.out.2; omega)
      simp only [Option.some.injEq, Addr.mk.injEq, and_true] at e1 e2
      obtain ⟨rfl, rfl⟩ := e1
      obtain ⟨rfl, rfl⟩ := e2
      exact ⟨c1, c2⟩)
    clear ih1 iu1
    go_wp2
    go_loopw [17, 18] (fun nv kv wr => ∃ k : Nat, k ≤ t.words.length ∧ kv = .int .i64 k ∧ nv = .int .i64 (if p < k ∧ (gw t.words p != z) = true then 1 else 0) ∧ ∃ n, wr = w7.drewN n) (fun _ kv _ => t.words.length - (intOf kv).toNat)
    case atStart => exact ⟨0, Nat.zero_le _, rfl, by rw [if_neg (by omega)], 0, rfl⟩
    case round =>
      obtain ⟨k, hk, rfl, rfl, n, rfl⟩ := hrel
      by_cases hlt : k < t.words.length
      · obtain ⟨c1, c2⟩ := HC.out k (by have := L2.out.1; omega)
        have cp := CP.out k (by have := L2.out.1; omega)
        have lt1 : (k : Int) < (t.words.length : Int) := by omega
        have lt2 : (k : Int) < (r.words.length : Int) := by have := L2.out; omega
        have lt3 : k + 1 ≤ t.words.length := hlt
        have lt4 : t.words.length ≤ 3200 := by have := L2.out.1; omega
        generalize gw t.words k = va at *
        generalize gw r.words k = vb at *
        generalize gw t.words p = vo at *
        cases hbb : (decide (k = p) && (vo != z))
        · have E1 : (if p < k + 1 ∧ (vo != z) = true then (1 : Int) else 0) = (if p < k ∧ (vo != z) = true then 1 else 0) := by
            by_cases e : k = p
            · subst e
              have q : ¬ (vo != z) = true := by
                intro q
                rw [q] at hbb
                simp at hbb
              rw [if_neg (fun x => q x.2), if_neg (fun x => q x.2)]
            · by_cases e2 : p < k ∧ (vo != z) = true
              · rw [if_pos e2, if_pos ⟨by omega, e2.2⟩]
              · rw [if_neg e2, if_neg (fun x => e2 ⟨by omega, x.2⟩)]
          have E : Hid ((if p < k + 1 ∧ (vo != z) = true then (1 : Int) else 0) = (if p < k ∧ (vo != z) = true then 1 else 0)) := E1
          clear E1
          rw [hbb] at cp
          clear HC CP hbb
          generalize (if p < k ∧ (vo != z) = true then (1 : Int) else 0) = cn at *
          go_wp2
          go_quiet (fail)
          go_wp2
          exact ⟨⟨k + 1, lt3, by go_num, by rw [E.out], _, rfl⟩, by simp [intOf]; omega⟩
        · have hbb' := hbb
          simp only [Bool.and_eq_true, decide_eq_true_eq] at hbb'
          have E1 : (if p < k + 1 ∧ (vo != z) = true then (1 : Int) else 0) = 1 := by rw [if_pos ⟨by omega, hbb'.2⟩]
          have E : Hid ((if p < k + 1 ∧ (vo != z) = true then (1 : Int) else 0) = 1) := E1
          clear E1
          have E0 : (if p < k ∧ (vo != z) = true then (1 : Int) else 0) = 0 := by rw [if_neg (by omega)]
          rw [E0]
          rw [hbb] at cp
          clear HC CP hbb hbb' E0
          go_wp2
          go_quiet (fail)
          go_wp2
          exact ⟨⟨k + 1, lt3, by go_num, by rw [E.out], _, rfl⟩, by simp [intOf]; omega⟩
      · obtain rfl : k = t.words.length := by omega
        have pl : p < t.words.length := by have := L2.out.1; omega
        have hbd : Below w7.heap.size w7 (w7.drewN n) := below_drewN (Below.refl _ _) _
        replace Xx := Xx.later hbd
        replace Xu := Xu.later hbd
        replace rh := rh.later hbd
        replace ru := ru.later hbd
        replace hbw := bel_after hbw hbd
        clear HC CP hbd
        generalize w7.drewN n = w8 at *
        clear x0 x1 x2 x3 x4 x5 x6 x7 u0 u1 u2 u3 u4 u5 u6 u7
        generalize gw t.words p = vo at *
        cases hvo : (vo != z)
        · rw [if_neg (fun q => by cases q.2)]
          obtain rfl : vo = z := by simpa using hvo
          obtain ⟨x0, x1, x2, x3, x4, x5, x6, x7⟩ := id Xx
          obtain ⟨u0, u1, u2, u3, u4, u5, u6, u7⟩ := id Xu
          go_wp2_with fail
          refine (S3 _ _ ru).mono ?_
          rintro e w9 ⟨⟨gu, rfl, hg⟩, hb⟩
          replace Xx := Xx.later hb
          replace Xu := Xu.later hb
          replace rh := rh.later hb
          replace ru := ru.later hb
          replace hbw := bel_after hbw hb
          clear hb
          have rg := hg.hr
          obtain ⟨ga1, gc1, ga2, gc2, ga3, gc3, rfl, ig1, ig2, ig3⟩ := hg.sh
          clear hg
          have al := bel_one w9 (.cells #[.slice ga1 t.words.length gc1, .slice ga2 t.roots.length gc2, .int .i64 t.old, .int .i64 t.eden, .int .i64 t.surv, .bool t.flip, .int .i64 t.hash, .slice ga3 t.kept.length gc3] 26)
          replace Xx := Xx.later al
          replace Xu := Xu.later al
          replace rh := rh.later al
          replace ru := ru.later al
          replace rg := rg.later al
          replace ig1 := ig1.later al
          replace ig2 := ig2.later al
          replace ig3 := ig3.later al
          have Xg := Bx.new w9 (.slice ga1 t.words.length gc1) (.slice ga2 t.roots.length gc2) (.slice ga3 t.kept.length gc3) t 26
          replace hbw := bel_after hbw al
          clear al
          clear u0 u1 u2 u3 u4 u5 u6 u7 x0 x1 x2 x3 x4 x5 x6 x7
          have kk1 : (k1 == k1) = true := by simp
          have kk2 : (k2 == k2) = true := by simp
          have zz : (vo == vo) = true := by simp

          have hs0 : Below (w9.alloc (.cells #[.slice ga1 t.words.length gc1, .slice ga2 t.roots.length gc2, .int .i64 t.old, .int .i64 t.eden, .int .i64 t.surv, .bool t.flip, .int .i64 t.hash, .slice ga3 t.kept.length gc3] 26)).heap.size (w9.alloc (.cells #[.slice ga1 t.words.length gc1, .slice ga2 t.roots.length gc2, .int .i64 t.old, .int .i64 t.eden, .int .i64 t.surv, .bool t.flip, .int .i64 t.hash, .slice ga3 t.kept.length gc3] 26)) (w9.alloc (.cells #[.slice ga1 t.words.length gc1, .slice ga2 t.roots.length gc2, .int .i64 t.old, .int .i64 t.eden, .int .i64 t.surv, .bool t.flip, .int .i64 t.hash, .slice ga3 t.kept.length gc3] 26)).drew := (Below.refl _ _).drew
          go_wp2_with fail
          refine Disk.z_plain 99 (fun W' => Below (w9.alloc (.cells #[.slice ga1 t.words.length gc1, .slice ga2 t.roots.length gc2, .int .i64 t.old, .int .i64 t.eden, .int .i64 t.surv, .bool t.flip, .int .i64 t.hash, .slice ga3 t.kept.length gc3] 26)).heap.size (w9.alloc (.cells #[.slice ga1 t.words.length gc1, .slice ga2 t.roots.length gc2, .int .i64 t.old, .int .i64 t.eden, .int .i64 t.surv, .bool t.flip, .int .i64 t.hash, .slice ga3 t.kept.length gc3] 26)) W') hmx hs0 (fun hs => ?_)
          clear hs0
          generalize (w9.alloc (.cells #[.slice ga1 t.words.length gc1, .slice ga2 t.roots.length gc2, .int .i64 t.old, .int .i64 t.eden, .int .i64 t.surv, .bool t.flip, .int .i64 t.hash, .slice ga3 t.kept.length gc3] 26)).drew = wd at hs ⊢
          refine Disk.z_take 0 117 (v := .bool true) rfl rfl (by kernel_rfl) (by kernel_rfl) (by kernel_rfl) (by kernel_rfl) (by rfl) hs (fun W' _ => (by
            go_simp; first | done | with_reducible rfl)) ?_
          simp only [List.setIfInBounds_toArray, List.set_cons_zero, List.set_cons_succ]
          refine Disk.z_take 1 118 (v := .bool true) rfl rfl (by kernel_rfl) (by kernel_rfl) (by kernel_rfl) (by kernel_rfl) (by rfl) hs (fun W' _ => (by
            go_simp; first | done | with_reducible rfl)) ?_
          simp only [List.setIfInBounds_toArray, List.set_cons_zero, List.set_cons_succ]
          refine Disk.z_take 2 119 (v := .bool true) rfl rfl (by kernel_rfl) (by kernel_rfl) (by kernel_rfl) (by kernel_rfl) (by rfl) hs (fun W' _ => (by
            go_simp; first | done | with_reducible rfl)) ?_
          simp only [List.setIfInBounds_toArray, List.set_cons_zero, List.set_cons_succ]
          refine Disk.z_take 3 120 (v := .bool true) rfl rfl (by kernel_rfl) (by kernel_rfl) (by kernel_rfl) (by kernel_rfl) (by rfl) hs (fun W' _ => (by
            go_simp; first | done | with_reducible rfl)) ?_
          simp only [List.setIfInBounds_toArray, List.set_cons_zero, List.set_cons_succ]
          refine Disk.z_take 4 121 (v := .bool true) rfl rfl (by kernel_rfl) (by kernel_rfl) (by kernel_rfl) (by kernel_rfl) (by rfl) hs (fun W' _ => (by
            go_simp; first | done | with_reducible rfl)) ?_
          simp only [List.setIfInBounds_toArray, List.set_cons_zero, List.set_cons_succ]
          refine Disk.z_take 5 122 (v := .int .i64 vo) rfl rfl (by kernel_rfl) (by kernel_rfl) (by kernel_rfl) (by kernel_rfl) (by rfl) hs (fun W' _ => (by
            go_simp; first | done | with_reducible rfl)) ?_
          simp only [List.setIfInBounds_toArray, List.set_cons_zero, List.set_cons_succ]
          refine Disk.z_take 6 123 (v := .int .i64 vo) rfl rfl (by kernel_rfl) (by kernel_rfl) (by kernel_rfl) (by kernel_rfl) (by rfl) hs (fun W' _ => (by
            go_simp; first | done | with_reducible rfl)) ?_
          simp only [List.setIfInBounds_toArray, List.set_cons_zero, List.set_cons_succ]
          refine Disk.z_take 7 124 (v := .bool true) rfl rfl (by kernel_rfl) (by kernel_rfl) (by kernel_rfl) (by kernel_rfl) (by rfl) hs (fun W' _ => (by
            go_simp; first | done | with_reducible rfl)) ?_
          simp only [List.setIfInBounds_toArray, List.set_cons_zero, List.set_cons_succ]
          refine Disk.z_take 8 125 (v := .bool true) rfl rfl (by kernel_rfl) (by kernel_rfl) (by kernel_rfl) (by kernel_rfl) (by rfl) hs (fun W' _ => (by
            go_simp; first | done | with_reducible rfl)) ?_
          simp only [List.setIfInBounds_toArray, List.set_cons_zero, List.set_cons_succ]
          refine Disk.z_take 9 126 (v := .bool true) rfl rfl (by kernel_rfl) (by kernel_rfl) (by kernel_rfl) (by kernel_rfl) (by rfl) hs (fun W' _ => (by
            go_simp; first | done | with_reducible rfl)) ?_
          simp only [List.setIfInBounds_toArray, List.set_cons_zero, List.set_cons_succ]
          refine Disk.z_take 10 127 (v := .int .i64 0) rfl rfl (by kernel_rfl) (by kernel_rfl) (by kernel_rfl) (by kernel_rfl) (by rfl) hs (fun W' _ => (by
            go_simp; first | done | with_reducible rfl)) ?_
          simp only [List.setIfInBounds_toArray, List.set_cons_zero, List.set_cons_succ]
          refine Disk.z_take 11 128 (v := .bool false) rfl rfl (by kernel_rfl) (by kernel_rfl) (by kernel_rfl) (by kernel_rfl) (by rfl) hs (fun W' _ => (by
            go_simp; first | done | with_reducible rfl)) ?_
          simp only [List.setIfInBounds_toArray, List.set_cons_zero, List.set_cons_succ]
          refine Disk.z_take 12 129 (v := .bool false) rfl rfl (by kernel_rfl) (by kernel_rfl) (by kernel_rfl) (by kernel_rfl) (by rfl) hs (fun W' _ => (by
            go_simp; first | done | with_reducible rfl)) ?_
          simp only [List.setIfInBounds_toArray, List.set_cons_zero, List.set_cons_succ]
          refine Disk.z_take 13 130 (v := .int .i64 0) rfl rfl (by kernel_rfl) (by kernel_rfl) (by kernel_rfl) (by kernel_rfl) (by rfl) hs (fun W' _ => (by
            go_simp; first | done | with_reducible rfl)) ?_
          simp only [List.setIfInBounds_toArray, List.set_cons_zero, List.set_cons_succ]
          refine Disk.z_take 14 131 (v := .bool true) rfl rfl (by kernel_rfl) (by kernel_rfl) (by kernel_rfl) (by kernel_rfl) (by rfl) hs (fun W' _ => (by
            go_simp; first | done | with_reducible rfl)) ?_
          simp only [List.setIfInBounds_toArray, List.set_cons_zero, List.set_cons_succ]
          refine Disk.z_take 15 132 (v := .bool true) rfl rfl (by kernel_rfl) (by kernel_rfl) (by kernel_rfl) (by kernel_rfl) (by rfl) hs (fun W' _ => (by
            go_simp; first | done | with_reducible rfl)) ?_
          simp only [List.setIfInBounds_toArray, List.set_cons_zero, List.set_cons_succ]
          refine Disk.z_take 16 133 (v := .int .i64 vo) rfl rfl (by kernel_rfl) (by kernel_rfl) (by kernel_rfl) (by kernel_rfl) (by rfl) hs (fun W' _ => (by
            go_simp; first | done | with_reducible rfl)) ?_
          simp only [List.setIfInBounds_toArray, List.set_cons_zero, List.set_cons_succ]
          refine Disk.z_take 17 134 (v := .int .i64 vo) rfl rfl (by kernel_rfl) (by kernel_rfl) (by kernel_rfl) (by kernel_rfl) (by rfl) hs (fun W' _ => (by
            go_simp; first | done | with_reducible rfl)) ?_
          simp only [List.setIfInBounds_toArray, List.set_cons_zero, List.set_cons_succ]
          refine Disk.z_take 18 135 (v := .bool true) rfl rfl (by kernel_rfl) (by kernel_rfl) (by kernel_rfl) (by kernel_rfl) (by rfl) hs (fun W' _ => (by
            go_simp; first | done | with_reducible rfl)) ?_
          simp only [List.setIfInBounds_toArray, List.set_cons_zero, List.set_cons_succ]
          refine Disk.z_take 19 136 (v := .bool true) rfl rfl (by kernel_rfl) (by kernel_rfl) (by kernel_rfl) (by kernel_rfl) (by rfl) hs (fun W' _ => (by
            go_simp; first | done | with_reducible rfl)) ?_
          simp only [List.setIfInBounds_toArray, List.set_cons_zero, List.set_cons_succ]
          refine Disk.z_take 20 137 (v := .bool true) rfl rfl (by kernel_rfl) (by kernel_rfl) (by kernel_rfl) (by kernel_rfl) (by rfl) hs (fun W' _ => (by
            go_simp; first | done | with_reducible rfl)) ?_
          simp only [List.setIfInBounds_toArray, List.set_cons_zero, List.set_cons_succ]
          refine Disk.z_take 21 138 (v := .bool true) rfl rfl (by kernel_rfl) (by kernel_rfl) (by kernel_rfl) (by kernel_rfl) (by rfl) hs (fun W' _ => (by
            go_simp; first | done | with_reducible rfl)) ?_
          simp only [List.setIfInBounds_toArray, List.set_cons_zero, List.set_cons_succ]
          refine Disk.z_take 22 139 (v := .bool true) rfl rfl (by kernel_rfl) (by kernel_rfl) (by kernel_rfl) (by kernel_rfl) (by rfl) hs (fun W' _ => (by
            go_simp; first | done | with_reducible rfl)) ?_
          simp only [List.setIfInBounds_toArray, List.set_cons_zero, List.set_cons_succ]
          refine Disk.z_take 23 140 (v := .agg #[.slice (some ⟨ub, uo, none⟩) r.words.length uc1, .slice ua2 r.roots.length uc2, .int .i64 r.old, .int .i64 r.eden, .int .i64 r.surv, .bool r.flip, .int .i64 r.hash, .slice ua3 r.kept.length uc3]) rfl rfl (by kernel_rfl) (by kernel_rfl) (by kernel_rfl) (by kernel_rfl) (by rfl) hs (fun W' hSw => (by
            obtain ⟨u0, u1, u2, u3, u4, u5, u6, u7⟩ := Xu.later hSw
            go_simp; first | done | with_reducible rfl)) ?_
          simp only [List.setIfInBounds_toArray, List.set_cons_zero, List.set_cons_succ]
          refine Disk.z_call 24 141 rfl rfl (by kernel_rfl) (by rfl) (f := 12) (args := #[.agg #[.slice (some ⟨ub, uo, none⟩) r.words.length uc1, .slice ua2 r.roots.length uc2, .int .i64 r.old, .int .i64 r.eden, .int .i64 r.surv, .bool r.flip, .int .i64 r.hash, .slice ua3 r.kept.length uc3]]) (w0 := wd) (by go_simp) ?_
          refine (OKr _ _ (ru.later hs)).mono ?_
          rintro e wz1 ⟨rfl, hbq⟩
          replace hs := bel_after hs hbq
          clear hbq
          refine ⟨_, rfl, .inr hs, ?_⟩
          simp only [List.setIfInBounds_toArray, List.set_cons_zero, List.set_cons_succ]
          refine Disk.z_take 25 142 (v := .bool true) rfl rfl (by kernel_rfl) (by kernel_rfl) (by kernel_rfl) (by kernel_rfl) (by rfl) hs (fun W' _ => (by
            go_simp; first | done | with_reducible rfl)) ?_
          simp only [List.setIfInBounds_toArray, List.set_cons_zero, List.set_cons_succ]
          refine Disk.z_take 26 143 (v := .bool true) rfl rfl (by kernel_rfl) (by kernel_rfl) (by kernel_rfl) (by kernel_rfl) (by rfl) hs (fun W' _ => (by
            go_simp; first | done | with_reducible rfl)) ?_
          simp only [List.setIfInBounds_toArray, List.set_cons_zero, List.set_cons_succ]
          refine Disk.z_take 27 144 (v := .bool true) rfl rfl (by kernel_rfl) (by kernel_rfl) (by kernel_rfl) (by kernel_rfl) (by rfl) hs (fun W' _ => (by
            go_simp; first | done | with_reducible rfl)) ?_
          simp only [List.setIfInBounds_toArray, List.set_cons_zero, List.set_cons_succ]
          refine Disk.z_take 28 145 (v := .bool true) rfl rfl (by kernel_rfl) (by kernel_rfl) (by kernel_rfl) (by kernel_rfl) (by rfl) hs (fun W' _ => (by
            go_simp; first | done | with_reducible rfl)) ?_
          simp only [List.setIfInBounds_toArray, List.set_cons_zero, List.set_cons_succ]
          refine Disk.z_take 29 146 (v := .bool true) rfl rfl (by kernel_rfl) (by kernel_rfl) (by kernel_rfl) (by kernel_rfl) (by rfl) hs (fun W' _ => (by
            go_simp; first | done | with_reducible rfl)) ?_
          simp only [List.setIfInBounds_toArray, List.set_cons_zero, List.set_cons_succ]
          refine Disk.z_take 30 147 (v := .agg #[.slice ga1 t.words.length gc1, .slice ga2 t.roots.length gc2, .int .i64 t.old, .int .i64 t.eden, .int .i64 t.surv, .bool t.flip, .int .i64 t.hash, .slice ga3 t.kept.length gc3]) rfl rfl (by kernel_rfl) (by kernel_rfl) (by kernel_rfl) (by kernel_rfl) (by rfl) hs (fun W' hSw => (by
            obtain ⟨g0, g1, g2, g3, g4, g5, g6, g7⟩ := Xg.later hSw
            go_simp; first | done | with_reducible rfl)) ?_
          simp only [List.setIfInBounds_toArray, List.set_cons_zero, List.set_cons_succ]
          refine Disk.z_take 31 148 (v := .agg #[.slice (some ⟨hb, ho, none⟩) t.words.length hc1, .slice ha2 t.roots.length hc2, .int .i64 t.old, .int .i64 t.eden, .int .i64 t.surv, .bool t.flip, .int .i64 t.hash, .slice ha3 t.kept.length hc3]) rfl rfl (by kernel_rfl) (by kernel_rfl) (by kernel_rfl) (by kernel_rfl) (by rfl) hs (fun W' hSw => (by
            obtain ⟨x0, x1, x2, x3, x4, x5, x6, x7⟩ := Xx.later hSw
            go_simp; first | done | with_reducible rfl)) ?_
          simp only [List.setIfInBounds_toArray, List.set_cons_zero, List.set_cons_succ]
          refine Disk.z_call 32 149 rfl rfl (by kernel_rfl) (by rfl) (f := 9) (args := #[.agg #[.slice ga1 t.words.length gc1, .slice ga2 t.roots.length gc2, .int .i64 t.old, .int .i64 t.eden, .int .i64 t.surv, .bool t.flip, .int .i64 t.hash, .slice ga3 t.kept.length gc3], .agg #[.slice (some ⟨hb, ho, none⟩) t.words.length hc1, .slice ha2 t.roots.length hc2, .int .i64 t.old, .int .i64 t.eden, .int .i64 t.surv, .bool t.flip, .int .i64 t.hash, .slice ha3 t.kept.length hc3]]) (w0 := wz1) (by go_simp) ?_
          refine (LHt _ _ _ (rg.later hs) (rh.later hs)).mono ?_
          rintro e wz2 ⟨rfl, hbq⟩
          replace hs := bel_after hs hbq
          clear hbq
          refine ⟨_, rfl, .inr hs, ?_⟩
          simp only [List.setIfInBounds_toArray, List.set_cons_zero, List.set_cons_succ]
          refine Disk.z_take 33 150 (v := .bool true) rfl rfl (by kernel_rfl) (by kernel_rfl) (by kernel_rfl) (by kernel_rfl) (by rfl) hs (fun W' _ => (by
            go_simp; first | done | with_reducible rfl)) ?_
          simp only [List.setIfInBounds_toArray, List.set_cons_zero, List.set_cons_succ]
          refine Disk.z_take 34 151 (v := .bool true) rfl rfl (by kernel_rfl) (by kernel_rfl) (by kernel_rfl) (by kernel_rfl) (by rfl) hs (fun W' _ => (by
            go_simp; first | done | with_reducible rfl)) ?_
          simp only [List.setIfInBounds_toArray, List.set_cons_zero, List.set_cons_succ]
          refine Disk.z_take 35 152 (v := .agg #[.slice (some ⟨ub, uo, none⟩) r.words.length uc1, .slice ua2 r.roots.length uc2, .int .i64 r.old, .int .i64 r.eden, .int .i64 r.surv, .bool r.flip, .int .i64 r.hash, .slice ua3 r.kept.length uc3]) rfl rfl (by kernel_rfl) (by kernel_rfl) (by kernel_rfl) (by kernel_rfl) (by rfl) hs (fun W' hSw => (by
            obtain ⟨u0, u1, u2, u3, u4, u5, u6, u7⟩ := Xu.later hSw
            go_simp; first | done | with_reducible rfl)) ?_
          simp only [List.setIfInBounds_toArray, List.set_cons_zero, List.set_cons_succ]
          refine Disk.z_take 36 153 (v := .int .i64 y) rfl rfl (by kernel_rfl) (by kernel_rfl) (by kernel_rfl) (by kernel_rfl) (by rfl) hs (fun W' _ => (by
            go_simp; first | done | with_reducible rfl)) ?_
          simp only [List.setIfInBounds_toArray, List.set_cons_zero, List.set_cons_succ]
          refine Disk.z_take 38 155 (v := .agg #[.slice (some ⟨hb, ho, none⟩) t.words.length hc1, .slice ha2 t.roots.length hc2, .int .i64 t.old, .int .i64 t.eden, .int .i64 t.surv, .bool t.flip, .int .i64 t.hash, .slice ha3 t.kept.length hc3]) rfl rfl (by kernel_rfl) (by kernel_rfl) (by kernel_rfl) (by kernel_rfl) (by rfl) hs (fun W' hSw => (by
            obtain ⟨x0, x1, x2, x3, x4, x5, x6, x7⟩ := Xx.later hSw
            go_simp; first | done | with_reducible rfl)) ?_
          simp only [List.setIfInBounds_toArray, List.set_cons_zero, List.set_cons_succ]
          refine Disk.z_take 39 156 (v := .int .i64 y) rfl rfl (by kernel_rfl) (by kernel_rfl) (by kernel_rfl) (by kernel_rfl) (by rfl) hs (fun W' _ => (by
            go_simp; first | done | with_reducible rfl)) ?_
          simp only [List.setIfInBounds_toArray, List.set_cons_zero, List.set_cons_succ]
          refine Disk.z_call 37 154 rfl rfl (by kernel_rfl) (by rfl) (f := 13) (args := #[.agg #[.slice (some ⟨ub, uo, none⟩) r.words.length uc1, .slice ua2 r.roots.length uc2, .int .i64 r.old, .int .i64 r.eden, .int .i64 r.surv, .bool r.flip, .int .i64 r.hash, .slice ua3 r.kept.length uc3], .int .i64 y]) (w0 := wz2) (by go_simp) ?_
          refine (K1 _ _ (ru.later hs)).mono ?_
          rintro e wz3 ⟨rfl, hbq⟩
          replace hs := bel_after hs hbq
          clear hbq
          refine ⟨_, rfl, .inr hs, ?_⟩
          simp only [List.setIfInBounds_toArray, List.set_cons_zero, List.set_cons_succ]
          refine Disk.z_call 40 157 rfl rfl (by kernel_rfl) (by rfl) (f := 13) (args := #[.agg #[.slice (some ⟨hb, ho, none⟩) t.words.length hc1, .slice ha2 t.roots.length hc2, .int .i64 t.old, .int .i64 t.eden, .int .i64 t.surv, .bool t.flip, .int .i64 t.hash, .slice ha3 t.kept.length hc3], .int .i64 y]) (w0 := wz3) (by go_simp) ?_
          refine (K2 _ _ (rh.later hs)).mono ?_
          rintro e wz4 ⟨rfl, hbq⟩
          replace hs := bel_after hs hbq
          clear hbq
          refine ⟨_, rfl, .inr hs, ?_⟩
          simp only [List.setIfInBounds_toArray, List.set_cons_zero, List.set_cons_succ]
          refine Disk.z_take 41 158 (v := .bool true) rfl rfl (by kernel_rfl) (by kernel_rfl) (by kernel_rfl) (by kernel_rfl) (by rfl) hs (fun W' _ => (by
            go_simp; first | done | with_reducible rfl)) ?_
          simp only [List.setIfInBounds_toArray, List.set_cons_zero, List.set_cons_succ]
          refine Disk.z_take 42 159 (v := .bool true) rfl rfl (by kernel_rfl) (by kernel_rfl) (by kernel_rfl) (by kernel_rfl) (by rfl) hs (fun W' _ => (by
            go_simp; first | done | with_reducible rfl)) ?_
          simp only [List.setIfInBounds_toArray, List.set_cons_zero, List.set_cons_succ]
          refine Disk.z_take 43 160 (v := .bool true) rfl rfl (by kernel_rfl) (by kernel_rfl) (by kernel_rfl) (by kernel_rfl) (by rfl) hs (fun W' _ => (by
            go_simp; first | done | with_reducible rfl)) ?_
          simp only [List.setIfInBounds_toArray, List.set_cons_zero, List.set_cons_succ]
          refine Disk.z_take 44 161 (v := .agg #[.slice (some ⟨ub, uo, none⟩) r.words.length uc1, .slice ua2 r.roots.length uc2, .int .i64 r.old, .int .i64 r.eden, .int .i64 r.surv, .bool r.flip, .int .i64 r.hash, .slice ua3 r.kept.length uc3]) rfl rfl (by kernel_rfl) (by kernel_rfl) (by kernel_rfl) (by kernel_rfl) (by rfl) hs (fun W' hSw => (by
            obtain ⟨u0, u1, u2, u3, u4, u5, u6, u7⟩ := Xu.later hSw
            go_simp; first | done | with_reducible rfl)) ?_
          simp only [List.setIfInBounds_toArray, List.set_cons_zero, List.set_cons_succ]
          refine Disk.z_take 45 162 (v := .int .i64 y) rfl rfl (by kernel_rfl) (by kernel_rfl) (by kernel_rfl) (by kernel_rfl) (by rfl) hs (fun W' _ => (by
            go_simp; first | done | with_reducible rfl)) ?_
          simp only [List.setIfInBounds_toArray, List.set_cons_zero, List.set_cons_succ]
          refine Disk.z_take 47 164 (v := .agg #[.slice (some ⟨hb, ho, none⟩) t.words.length hc1, .slice ha2 t.roots.length hc2, .int .i64 t.old, .int .i64 t.eden, .int .i64 t.surv, .bool t.flip, .int .i64 t.hash, .slice ha3 t.kept.length hc3]) rfl rfl (by kernel_rfl) (by kernel_rfl) (by kernel_rfl) (by kernel_rfl) (by rfl) hs (fun W' hSw => (by
            obtain ⟨x0, x1, x2, x3, x4, x5, x6, x7⟩ := Xx.later hSw
            go_simp; first | done | with_reducible rfl)) ?_
          simp only [List.setIfInBounds_toArray, List.set_cons_zero, List.set_cons_succ]
          refine Disk.z_take 48 165 (v := .int .i64 y) rfl rfl (by kernel_rfl) (by kernel_rfl) (by kernel_rfl) (by kernel_rfl) (by rfl) hs (fun W' _ => (by
            go_simp; first | done | with_reducible rfl)) ?_
          simp only [List.setIfInBounds_toArray, List.set_cons_zero, List.set_cons_succ]
          refine Disk.z_call 46 163 rfl rfl (by kernel_rfl) (by rfl) (f := 14) (args := #[.agg #[.slice (some ⟨ub, uo, none⟩) r.words.length uc1, .slice ua2 r.roots.length uc2, .int .i64 r.old, .int .i64 r.eden, .int .i64 r.surv, .bool r.flip, .int .i64 r.hash, .slice ua3 r.kept.length uc3], .int .i64 y]) (w0 := wz4) (by go_simp) ?_
          refine (K3 _ _ (ru.later hs)).mono ?_
          rintro e wz5 ⟨rfl, hbq⟩
          replace hs := bel_after hs hbq
          clear hbq
          refine ⟨_, rfl, .inr hs, ?_⟩
          simp only [List.setIfInBounds_toArray, List.set_cons_zero, List.set_cons_succ]
          refine Disk.z_call 49 166 rfl rfl (by kernel_rfl) (by rfl) (f := 14) (args := #[.agg #[.slice (some ⟨hb, ho, none⟩) t.words.length hc1, .slice ha2 t.roots.length hc2, .int .i64 t.old, .int .i64 t.eden, .int .i64 t.surv, .bool t.flip, .int .i64 t.hash, .slice ha3 t.kept.length hc3], .int .i64 y]) (w0 := wz5) (by go_simp) ?_
          refine (K4 _ _ (rh.later hs)).mono ?_
          rintro e wz6 ⟨rfl, hbq⟩
          replace hs := bel_after hs hbq
          clear hbq
          refine ⟨_, rfl, .inr hs, ?_⟩
          simp only [List.setIfInBounds_toArray, List.set_cons_zero, List.set_cons_succ]
          refine Disk.z_take 50 167 (v := .bool true) rfl rfl (by kernel_rfl) (by kernel_rfl) (by kernel_rfl) (by kernel_rfl) (by rfl) hs (fun W' _ => (by
            go_simp; first | done | with_reducible rfl)) ?_
          simp only [List.setIfInBounds_toArray, List.set_cons_zero, List.set_cons_succ]
          refine Disk.z_take 51 168 (v := .bool true) rfl rfl (by kernel_rfl) (by kernel_rfl) (by kernel_rfl) (by kernel_rfl) (by rfl) hs (fun W' _ => (by
            go_simp; first | done | with_reducible rfl)) ?_
          simp only [List.setIfInBounds_toArray, List.set_cons_zero, List.set_cons_succ]
          refine Disk.z_take 52 2 (v := .bool true) rfl rfl (by kernel_rfl) (by kernel_rfl) (by kernel_rfl) (by kernel_rfl) (by rfl) hs (fun W' _ => (by
            go_simp; first | done | with_reducible rfl)) ?_
          simp only [List.setIfInBounds_toArray, List.set_cons_zero, List.set_cons_succ]
          refine Disk.z_done (by kernel_rfl) ?_ _
          have hbe := bel_after hbw hs
          clear hs
          go_wp2
          go_ret
          exact ⟨rfl, hbe⟩
        · rw [if_pos ⟨pl, rfl⟩]
          obtain ⟨x0, x1, x2, x3, x4, x5, x6, x7⟩ := id Xx
          obtain ⟨u0, u1, u2, u3, u4, u5, u6, u7⟩ := id Xu
          go_wp2_with fail
          refine (S3 _ _ ru).mono ?_
          rintro e w9 ⟨⟨gu, rfl, hg⟩, hb⟩
          replace Xx := Xx.later hb
          replace Xu := Xu.later hb
          replace rh := rh.later hb
          replace ru := ru.later hb
          replace hbw := bel_after hbw hb
          clear hb
          have rg := hg.hr
          obtain ⟨ga1, gc1, ga2, gc2, ga3, gc3, rfl, ig1, ig2, ig3⟩ := hg.sh
          clear hg
          have al := bel_one w9 (.cells #[.slice ga1 t.words.length gc1, .slice ga2 t.roots.length gc2, .int .i64 t.old, .int .i64 t.eden, .int .i64 t.surv, .bool t.flip, .int .i64 t.hash, .slice ga3 t.kept.length gc3] 26)
          replace Xx := Xx.later al
          replace Xu := Xu.later al
          replace rh := rh.later al
          replace ru := ru.later al
          replace rg := rg.later al
          replace ig1 := ig1.later al
          replace ig2 := ig2.later al
          replace ig3 := ig3.later al
          have Xg := Bx.new w9 (.slice ga1 t.words.length gc1) (.slice ga2 t.roots.length gc2) (.slice ga3 t.kept.length gc3) t 26
          replace hbw := bel_after hbw al
          clear al
          clear u0 u1 u2 u3 u4 u5 u6 u7 x0 x1 x2 x3 x4 x5 x6 x7
          have kk1 : (k1 == k1) = true := by simp
          have kk2 : (k2 == k2) = true := by simp
          have zz : (z == z) = true := by simp

          have hs0 : Below (w9.alloc (.cells #[.slice ga1 t.words.length gc1, .slice ga2 t.roots.length gc2, .int .i64 t.old, .int .i64 t.eden, .int .i64 t.surv, .bool t.flip, .int .i64 t.hash, .slice ga3 t.kept.length gc3] 26)).heap.size (w9.alloc (.cells #[.slice ga1 t.words.length gc1, .slice ga2 t.roots.length gc2, .int .i64 t.old, .int .i64 t.eden, .int .i64 t.surv, .bool t.flip, .int .i64 t.hash, .slice ga3 t.kept.length gc3] 26)) (w9.alloc (.cells #[.slice ga1 t.words.length gc1, .slice ga2 t.roots.length gc2, .int .i64 t.old, .int .i64 t.eden, .int .i64 t.surv, .bool t.flip, .int .i64 t.hash, .slice ga3 t.kept.length gc3] 26)).drew := (Below.refl _ _).drew
          go_wp2_with fail
          refine Disk.z_plain 99 (fun W' => Below (w9.alloc (.cells #[.slice ga1 t.words.length gc1, .slice ga2 t.roots.length gc2, .int .i64 t.old, .int .i64 t.eden, .int .i64 t.surv, .bool t.flip, .int .i64 t.hash, .slice ga3 t.kept.length gc3] 26)).heap.size (w9.alloc (.cells #[.slice ga1 t.words.length gc1, .slice ga2 t.roots.length gc2, .int .i64 t.old, .int .i64 t.eden, .int .i64 t.surv, .bool t.flip, .int .i64 t.hash, .slice ga3 t.kept.length gc3] 26)) W') hmx hs0 (fun hs => ?_)
          clear hs0
          generalize (w9.alloc (.cells #[.slice ga1 t.words.length gc1, .slice ga2 t.roots.length gc2, .int .i64 t.old, .int .i64 t.eden, .int .i64 t.surv, .bool t.flip, .int .i64 t.hash, .slice ga3 t.kept.length gc3] 26)).drew = wd at hs ⊢
          refine Disk.z_take 0 117 (v := .bool true) rfl rfl (by kernel_rfl) (by kernel_rfl) (by kernel_rfl) (by kernel_rfl) (by rfl) hs (fun W' _ => (by
            go_simp; first | done | with_reducible rfl)) ?_
          simp only [List.setIfInBounds_toArray, List.set_cons_zero, List.set_cons_succ]
          refine Disk.z_take 1 118 (v := .bool true) rfl rfl (by kernel_rfl) (by kernel_rfl) (by kernel_rfl) (by kernel_rfl) (by rfl) hs (fun W' _ => (by
            go_simp; first | done | with_reducible rfl)) ?_
          simp only [List.setIfInBounds_toArray, List.set_cons_zero, List.set_cons_succ]
          refine Disk.z_take 2 119 (v := .bool true) rfl rfl (by kernel_rfl) (by kernel_rfl) (by kernel_rfl) (by kernel_rfl) (by rfl) hs (fun W' _ => (by
            go_simp; first | done | with_reducible rfl)) ?_
          simp only [List.setIfInBounds_toArray, List.set_cons_zero, List.set_cons_succ]
          refine Disk.z_take 3 120 (v := .bool true) rfl rfl (by kernel_rfl) (by kernel_rfl) (by kernel_rfl) (by kernel_rfl) (by rfl) hs (fun W' _ => (by
            go_simp; first | done | with_reducible rfl)) ?_
          simp only [List.setIfInBounds_toArray, List.set_cons_zero, List.set_cons_succ]
          refine Disk.z_take 4 121 (v := .bool true) rfl rfl (by kernel_rfl) (by kernel_rfl) (by kernel_rfl) (by kernel_rfl) (by rfl) hs (fun W' _ => (by
            go_simp; first | done | with_reducible rfl)) ?_
          simp only [List.setIfInBounds_toArray, List.set_cons_zero, List.set_cons_succ]
          refine Disk.z_take 5 122 (v := .int .i64 z) rfl rfl (by kernel_rfl) (by kernel_rfl) (by kernel_rfl) (by kernel_rfl) (by rfl) hs (fun W' _ => (by
            go_simp; first | done | with_reducible rfl)) ?_
          simp only [List.setIfInBounds_toArray, List.set_cons_zero, List.set_cons_succ]
          refine Disk.z_take 6 123 (v := .int .i64 z) rfl rfl (by kernel_rfl) (by kernel_rfl) (by kernel_rfl) (by kernel_rfl) (by rfl) hs (fun W' _ => (by
            go_simp; first | done | with_reducible rfl)) ?_
          simp only [List.setIfInBounds_toArray, List.set_cons_zero, List.set_cons_succ]
          refine Disk.z_take 7 124 (v := .bool true) rfl rfl (by kernel_rfl) (by kernel_rfl) (by kernel_rfl) (by kernel_rfl) (by rfl) hs (fun W' _ => (by
            go_simp; first | done | with_reducible rfl)) ?_
          simp only [List.setIfInBounds_toArray, List.set_cons_zero, List.set_cons_succ]
          refine Disk.z_take 8 125 (v := .bool true) rfl rfl (by kernel_rfl) (by kernel_rfl) (by kernel_rfl) (by kernel_rfl) (by rfl) hs (fun W' _ => (by
            go_simp; first | done | with_reducible rfl)) ?_
          simp only [List.setIfInBounds_toArray, List.set_cons_zero, List.set_cons_succ]
          refine Disk.z_take 9 126 (v := .bool true) rfl rfl (by kernel_rfl) (by kernel_rfl) (by kernel_rfl) (by kernel_rfl) (by rfl) hs (fun W' _ => (by
            go_simp; first | done | with_reducible rfl)) ?_
          simp only [List.setIfInBounds_toArray, List.set_cons_zero, List.set_cons_succ]
          refine Disk.z_take 10 127 (v := .int .i64 1) rfl rfl (by kernel_rfl) (by kernel_rfl) (by kernel_rfl) (by kernel_rfl) (by rfl) hs (fun W' _ => (by
            go_simp; first | done | with_reducible rfl)) ?_
          simp only [List.setIfInBounds_toArray, List.set_cons_zero, List.set_cons_succ]
          refine Disk.z_take 11 128 (v := .bool true) rfl rfl (by kernel_rfl) (by kernel_rfl) (by kernel_rfl) (by kernel_rfl) (by rfl) hs (fun W' _ => (by
            go_simp; first | done | with_reducible rfl)) ?_
          simp only [List.setIfInBounds_toArray, List.set_cons_zero, List.set_cons_succ]
          refine Disk.z_take 12 129 (v := .bool true) rfl rfl (by kernel_rfl) (by kernel_rfl) (by kernel_rfl) (by kernel_rfl) (by rfl) hs (fun W' _ => (by
            go_simp; first | done | with_reducible rfl)) ?_
          simp only [List.setIfInBounds_toArray, List.set_cons_zero, List.set_cons_succ]
          refine Disk.z_pass 13 130 rfl rfl (by kernel_rfl) (by kernel_rfl) (by kernel_rfl) (by kernel_rfl) (by rfl) hs ?_
          simp only [List.setIfInBounds_toArray, List.set_cons_zero, List.set_cons_succ]
          refine Disk.z_pass 14 131 rfl rfl (by kernel_rfl) (by kernel_rfl) (by kernel_rfl) (by kernel_rfl) (by rfl) hs ?_
          simp only [List.setIfInBounds_toArray, List.set_cons_zero, List.set_cons_succ]
          refine Disk.z_pass 15 132 rfl rfl (by kernel_rfl) (by kernel_rfl) (by kernel_rfl) (by kernel_rfl) (by rfl) hs ?_
          simp only [List.setIfInBounds_toArray, List.set_cons_zero, List.set_cons_succ]
          refine Disk.z_pass 16 133 rfl rfl (by kernel_rfl) (by kernel_rfl) (by kernel_rfl) (by kernel_rfl) (by rfl) hs ?_
          simp only [List.setIfInBounds_toArray, List.set_cons_zero, List.set_cons_succ]
          refine Disk.z_pass 17 134 rfl rfl (by kernel_rfl) (by kernel_rfl) (by kernel_rfl) (by kernel_rfl) (by rfl) hs ?_
          simp only [List.setIfInBounds_toArray, List.set_cons_zero, List.set_cons_succ]
          refine Disk.z_pass 18 135 rfl rfl (by kernel_rfl) (by kernel_rfl) (by kernel_rfl) (by kernel_rfl) (by rfl) hs ?_
          simp only [List.setIfInBounds_toArray, List.set_cons_zero, List.set_cons_succ]
          refine Disk.z_pass 19 136 rfl rfl (by kernel_rfl) (by kernel_rfl) (by kernel_rfl) (by kernel_rfl) (by rfl) hs ?_
          simp only [List.setIfInBounds_toArray, List.set_cons_zero, List.set_cons_succ]
          refine Disk.z_take 20 137 (v := .bool true) rfl rfl (by kernel_rfl) (by kernel_rfl) (by kernel_rfl) (by kernel_rfl) (by rfl) hs (fun W' _ => (by
            go_simp; first | done | with_reducible rfl)) ?_
          simp only [List.setIfInBounds_toArray, List.set_cons_zero, List.set_cons_succ]
          refine Disk.z_take 21 138 (v := .bool true) rfl rfl (by kernel_rfl) (by kernel_rfl) (by kernel_rfl) (by kernel_rfl) (by rfl) hs (fun W' _ => (by
            go_simp; first | done | with_reducible rfl)) ?_
          simp only [List.setIfInBounds_toArray, List.set_cons_zero, List.set_cons_succ]
          refine Disk.z_take 22 139 (v := .bool true) rfl rfl (by kernel_rfl) (by kernel_rfl) (by kernel_rfl) (by kernel_rfl) (by rfl) hs (fun W' _ => (by
            go_simp; first | done | with_reducible rfl)) ?_
          simp only [List.setIfInBounds_toArray, List.set_cons_zero, List.set_cons_succ]
          refine Disk.z_take 23 140 (v := .agg #[.slice (some ⟨ub, uo, none⟩) r.words.length uc1, .slice ua2 r.roots.length uc2, .int .i64 r.old, .int .i64 r.eden, .int .i64 r.surv, .bool r.flip, .int .i64 r.hash, .slice ua3 r.kept.length uc3]) rfl rfl (by kernel_rfl) (by kernel_rfl) (by kernel_rfl) (by kernel_rfl) (by rfl) hs (fun W' hSw => (by
            obtain ⟨u0, u1, u2, u3, u4, u5, u6, u7⟩ := Xu.later hSw
            go_simp; first | done | with_reducible rfl)) ?_
          simp only [List.setIfInBounds_toArray, List.set_cons_zero, List.set_cons_succ]
          refine Disk.z_call 24 141 rfl rfl (by kernel_rfl) (by rfl) (f := 12) (args := #[.agg #[.slice (some ⟨ub, uo, none⟩) r.words.length uc1, .slice ua2 r.roots.length uc2, .int .i64 r.old, .int .i64 r.eden, .int .i64 r.surv, .bool r.flip, .int .i64 r.hash, .slice ua3 r.kept.length uc3]]) (w0 := wd) (by go_simp) ?_
          refine (OKr _ _ (ru.later hs)).mono ?_
          rintro e wz1 ⟨rfl, hbq⟩
          replace hs := bel_after hs hbq
          clear hbq
          refine ⟨_, rfl, .inr hs, ?_⟩
          simp only [List.setIfInBounds_toArray, List.set_cons_zero, List.set_cons_succ]
          refine Disk.z_take 25 142 (v := .bool true) rfl rfl (by kernel_rfl) (by kernel_rfl) (by kernel_rfl) (by kernel_rfl) (by rfl) hs (fun W' _ => (by
            go_simp; first | done | with_reducible rfl)) ?_
          simp only [List.setIfInBounds_toArray, List.set_cons_zero, List.set_cons_succ]
          refine Disk.z_take 26 143 (v := .bool true) rfl rfl (by kernel_rfl) (by kernel_rfl) (by kernel_rfl) (by kernel_rfl) (by rfl) hs (fun W' _ => (by
            go_simp; first | done | with_reducible rfl)) ?_
          simp only [List.setIfInBounds_toArray, List.set_cons_zero, List.set_cons_succ]
          refine Disk.z_take 27 144 (v := .bool true) rfl rfl (by kernel_rfl) (by kernel_rfl) (by kernel_rfl) (by kernel_rfl) (by rfl) hs (fun W' _ => (by
            go_simp; first | done | with_reducible rfl)) ?_
          simp only [List.setIfInBounds_toArray, List.set_cons_zero, List.set_cons_succ]
          refine Disk.z_take 28 145 (v := .bool true) rfl rfl (by kernel_rfl) (by kernel_rfl) (by kernel_rfl) (by kernel_rfl) (by rfl) hs (fun W' _ => (by
            go_simp; first | done | with_reducible rfl)) ?_
          simp only [List.setIfInBounds_toArray, List.set_cons_zero, List.set_cons_succ]
          refine Disk.z_take 29 146 (v := .bool true) rfl rfl (by kernel_rfl) (by kernel_rfl) (by kernel_rfl) (by kernel_rfl) (by rfl) hs (fun W' _ => (by
            go_simp; first | done | with_reducible rfl)) ?_
          simp only [List.setIfInBounds_toArray, List.set_cons_zero, List.set_cons_succ]
          refine Disk.z_take 30 147 (v := .agg #[.slice ga1 t.words.length gc1, .slice ga2 t.roots.length gc2, .int .i64 t.old, .int .i64 t.eden, .int .i64 t.surv, .bool t.flip, .int .i64 t.hash, .slice ga3 t.kept.length gc3]) rfl rfl (by kernel_rfl) (by kernel_rfl) (by kernel_rfl) (by kernel_rfl) (by rfl) hs (fun W' hSw => (by
            obtain ⟨g0, g1, g2, g3, g4, g5, g6, g7⟩ := Xg.later hSw
            go_simp; first | done | with_reducible rfl)) ?_
          simp only [List.setIfInBounds_toArray, List.set_cons_zero, List.set_cons_succ]
          refine Disk.z_take 31 148 (v := .agg #[.slice (some ⟨hb, ho, none⟩) t.words.length hc1, .slice ha2 t.roots.length hc2, .int .i64 t.old, .int .i64 t.eden, .int .i64 t.surv, .bool t.flip, .int .i64 t.hash, .slice ha3 t.kept.length hc3]) rfl rfl (by kernel_rfl) (by kernel_rfl) (by kernel_rfl) (by kernel_rfl) (by rfl) hs (fun W' hSw => (by
            obtain ⟨x0, x1, x2, x3, x4, x5, x6, x7⟩ := Xx.later hSw
            go_simp; first | done | with_reducible rfl)) ?_
          simp only [List.setIfInBounds_toArray, List.set_cons_zero, List.set_cons_succ]
          refine Disk.z_call 32 149 rfl rfl (by kernel_rfl) (by rfl) (f := 9) (args := #[.agg #[.slice ga1 t.words.length gc1, .slice ga2 t.roots.length gc2, .int .i64 t.old, .int .i64 t.eden, .int .i64 t.surv, .bool t.flip, .int .i64 t.hash, .slice ga3 t.kept.length gc3], .agg #[.slice (some ⟨hb, ho, none⟩) t.words.length hc1, .slice ha2 t.roots.length hc2, .int .i64 t.old, .int .i64 t.eden, .int .i64 t.surv, .bool t.flip, .int .i64 t.hash, .slice ha3 t.kept.length hc3]]) (w0 := wz1) (by go_simp) ?_
          refine (LHt _ _ _ (rg.later hs) (rh.later hs)).mono ?_
          rintro e wz2 ⟨rfl, hbq⟩
          replace hs := bel_after hs hbq
          clear hbq
          refine ⟨_, rfl, .inr hs, ?_⟩
          simp only [List.setIfInBounds_toArray, List.set_cons_zero, List.set_cons_succ]
          refine Disk.z_take 33 150 (v := .bool true) rfl rfl (by kernel_rfl) (by kernel_rfl) (by kernel_rfl) (by kernel_rfl) (by rfl) hs (fun W' _ => (by
            go_simp; first | done | with_reducible rfl)) ?_
          simp only [List.setIfInBounds_toArray, List.set_cons_zero, List.set_cons_succ]
          refine Disk.z_take 34 151 (v := .bool true) rfl rfl (by kernel_rfl) (by kernel_rfl) (by kernel_rfl) (by kernel_rfl) (by rfl) hs (fun W' _ => (by
            go_simp; first | done | with_reducible rfl)) ?_
          simp only [List.setIfInBounds_toArray, List.set_cons_zero, List.set_cons_succ]
          refine Disk.z_take 35 152 (v := .agg #[.slice (some ⟨ub, uo, none⟩) r.words.length uc1, .slice ua2 r.roots.length uc2, .int .i64 r.old, .int .i64 r.eden, .int .i64 r.surv, .bool r.flip, .int .i64 r.hash, .slice ua3 r.kept.length uc3]) rfl rfl (by kernel_rfl) (by kernel_rfl) (by kernel_rfl) (by kernel_rfl) (by rfl) hs (fun W' hSw => (by
            obtain ⟨u0, u1, u2, u3, u4, u5, u6, u7⟩ := Xu.later hSw
            go_simp; first | done | with_reducible rfl)) ?_
          simp only [List.setIfInBounds_toArray, List.set_cons_zero, List.set_cons_succ]
          refine Disk.z_take 36 153 (v := .int .i64 y) rfl rfl (by kernel_rfl) (by kernel_rfl) (by kernel_rfl) (by kernel_rfl) (by rfl) hs (fun W' _ => (by
            go_simp; first | done | with_reducible rfl)) ?_
          simp only [List.setIfInBounds_toArray, List.set_cons_zero, List.set_cons_succ]
          refine Disk.z_take 38 155 (v := .agg #[.slice (some ⟨hb, ho, none⟩) t.words.length hc1, .slice ha2 t.roots.length hc2, .int .i64 t.old, .int .i64 t.eden, .int .i64 t.surv, .bool t.flip, .int .i64 t.hash, .slice ha3 t.kept.length hc3]) rfl rfl (by kernel_rfl) (by kernel_rfl) (by kernel_rfl) (by kernel_rfl) (by rfl) hs (fun W' hSw => (by
            obtain ⟨x0, x1, x2, x3, x4, x5, x6, x7⟩ := Xx.later hSw
            go_simp; first | done | with_reducible rfl)) ?_
          simp only [List.setIfInBounds_toArray, List.set_cons_zero, List.set_cons_succ]
          refine Disk.z_take 39 156 (v := .int .i64 y) rfl rfl (by kernel_rfl) (by kernel_rfl) (by kernel_rfl) (by kernel_rfl) (by rfl) hs (fun W' _ => (by
            go_simp; first | done | with_reducible rfl)) ?_
          simp only [List.setIfInBounds_toArray, List.set_cons_zero, List.set_cons_succ]
          refine Disk.z_call 37 154 rfl rfl (by kernel_rfl) (by rfl) (f := 13) (args := #[.agg #[.slice (some ⟨ub, uo, none⟩) r.words.length uc1, .slice ua2 r.roots.length uc2, .int .i64 r.old, .int .i64 r.eden, .int .i64 r.surv, .bool r.flip, .int .i64 r.hash, .slice ua3 r.kept.length uc3], .int .i64 y]) (w0 := wz2) (by go_simp) ?_
          refine (K1 _ _ (ru.later hs)).mono ?_
          rintro e wz3 ⟨rfl, hbq⟩
          replace hs := bel_after hs hbq
          clear hbq
          refine ⟨_, rfl, .inr hs, ?_⟩
          simp only [List.setIfInBounds_toArray, List.set_cons_zero, List.set_cons_succ]
          refine Disk.z_call 40 157 rfl rfl (by kernel_rfl) (by rfl) (f := 13) (args := #[.agg #[.slice (some ⟨hb, ho, none⟩) t.words.length hc1, .slice ha2 t.roots.length hc2, .int .i64 t.old, .int .i64 t.eden, .int .i64 t.surv, .bool t.flip, .int .i64 t.hash, .slice ha3 t.kept.length hc3], .int .i64 y]) (w0 := wz3) (by go_simp) ?_
          refine (K2 _ _ (rh.later hs)).mono ?_
          rintro e wz4 ⟨rfl, hbq⟩
          replace hs := bel_after hs hbq
          clear hbq
          refine ⟨_, rfl, .inr hs, ?_⟩
          simp only [List.setIfInBounds_toArray, List.set_cons_zero, List.set_cons_succ]
          refine Disk.z_take 41 158 (v := .bool true) rfl rfl (by kernel_rfl) (by kernel_rfl) (by kernel_rfl) (by kernel_rfl) (by rfl) hs (fun W' _ => (by
            go_simp; first | done | with_reducible rfl)) ?_
          simp only [List.setIfInBounds_toArray, List.set_cons_zero, List.set_cons_succ]
          refine Disk.z_take 42 159 (v := .bool true) rfl rfl (by kernel_rfl) (by kernel_rfl) (by kernel_rfl) (by kernel_rfl) (by rfl) hs (fun W' _ => (by
            go_simp; first | done | with_reducible rfl)) ?_
          simp only [List.setIfInBounds_toArray, List.set_cons_zero, List.set_cons_succ]
          refine Disk.z_take 43 160 (v := .bool true) rfl rfl (by kernel_rfl) (by kernel_rfl) (by kernel_rfl) (by kernel_rfl) (by rfl) hs (fun W' _ => (by
            go_simp; first | done | with_reducible rfl)) ?_
          simp only [List.setIfInBounds_toArray, List.set_cons_zero, List.set_cons_succ]
          refine Disk.z_take 44 161 (v := .agg #[.slice (some ⟨ub, uo, none⟩) r.words.length uc1, .slice ua2 r.roots.length uc2, .int .i64 r.old, .int .i64 r.eden, .int .i64 r.surv, .bool r.flip, .int .i64 r.hash, .slice ua3 r.kept.length uc3]) rfl rfl (by kernel_rfl) (by kernel_rfl) (by kernel_rfl) (by kernel_rfl) (by rfl) hs (fun W' hSw => (by
            obtain ⟨u0, u1, u2, u3, u4, u5, u6, u7⟩ := Xu.later hSw
            go_simp; first | done | with_reducible rfl)) ?_
          simp only [List.setIfInBounds_toArray, List.set_cons_zero, List.set_cons_succ]
          refine Disk.z_take 45 162 (v := .int .i64 y) rfl rfl (by kernel_rfl) (by kernel_rfl) (by kernel_rfl) (by kernel_rfl) (by rfl) hs (fun W' _ => (by
            go_simp; first | done | with_reducible rfl)) ?_
          simp only [List.setIfInBounds_toArray, List.set_cons_zero, List.set_cons_succ]
          refine Disk.z_take 47 164 (v := .agg #[.slice (some ⟨hb, ho, none⟩) t.words.length hc1, .slice ha2 t.roots.length hc2, .int .i64 t.old, .int .i64 t.eden, .int .i64 t.surv, .bool t.flip, .int .i64 t.hash, .slice ha3 t.kept.length hc3]) rfl rfl (by kernel_rfl) (by kernel_rfl) (by kernel_rfl) (by kernel_rfl) (by rfl) hs (fun W' hSw => (by
            obtain ⟨x0, x1, x2, x3, x4, x5, x6, x7⟩ := Xx.later hSw
            go_simp; first | done | with_reducible rfl)) ?_
          simp only [List.setIfInBounds_toArray, List.set_cons_zero, List.set_cons_succ]
          refine Disk.z_take 48 165 (v := .int .i64 y) rfl rfl (by kernel_rfl) (by kernel_rfl) (by kernel_rfl) (by kernel_rfl) (by rfl) hs (fun W' _ => (by
            go_simp; first | done | with_reducible rfl)) ?_
          simp only [List.setIfInBounds_toArray, List.set_cons_zero, List.set_cons_succ]
          refine Disk.z_call 46 163 rfl rfl (by kernel_rfl) (by rfl) (f := 14) (args := #[.agg #[.slice (some ⟨ub, uo, none⟩) r.words.length uc1, .slice ua2 r.roots.length uc2, .int .i64 r.old, .int .i64 r.eden, .int .i64 r.surv, .bool r.flip, .int .i64 r.hash, .slice ua3 r.kept.length uc3], .int .i64 y]) (w0 := wz4) (by go_simp) ?_
          refine (K3 _ _ (ru.later hs)).mono ?_
          rintro e wz5 ⟨rfl, hbq⟩
          replace hs := bel_after hs hbq
          clear hbq
          refine ⟨_, rfl, .inr hs, ?_⟩
          simp only [List.setIfInBounds_toArray, List.set_cons_zero, List.set_cons_succ]
          refine Disk.z_call 49 166 rfl rfl (by kernel_rfl) (by rfl) (f := 14) (args := #[.agg #[.slice (some ⟨hb, ho, none⟩) t.words.length hc1, .slice ha2 t.roots.length hc2, .int .i64 t.old, .int .i64 t.eden, .int .i64 t.surv, .bool t.flip, .int .i64 t.hash, .slice ha3 t.kept.length hc3], .int .i64 y]) (w0 := wz5) (by go_simp) ?_
          refine (K4 _ _ (rh.later hs)).mono ?_
          rintro e wz6 ⟨rfl, hbq⟩
          replace hs := bel_after hs hbq
          clear hbq
          refine ⟨_, rfl, .inr hs, ?_⟩
          simp only [List.setIfInBounds_toArray, List.set_cons_zero, List.set_cons_succ]
          refine Disk.z_take 50 167 (v := .bool true) rfl rfl (by kernel_rfl) (by kernel_rfl) (by kernel_rfl) (by kernel_rfl) (by rfl) hs (fun W' _ => (by
            go_simp; first | done | with_reducible rfl)) ?_
          simp only [List.setIfInBounds_toArray, List.set_cons_zero, List.set_cons_succ]
          refine Disk.z_take 51 168 (v := .bool true) rfl rfl (by kernel_rfl) (by kernel_rfl) (by kernel_rfl) (by kernel_rfl) (by rfl) hs (fun W' _ => (by
            go_simp; first | done | with_reducible rfl)) ?_
          simp only [List.setIfInBounds_toArray, List.set_cons_zero, List.set_cons_succ]
          refine Disk.z_take 52 2 (v := .bool true) rfl rfl (by kernel_rfl) (by kernel_rfl) (by kernel_rfl) (by kernel_rfl) (by rfl) hs (fun W' _ => (by
            go_simp; first | done | with_reducible rfl)) ?_
          simp only [List.setIfInBounds_toArray, List.set_cons_zero, List.set_cons_succ]
          refine Disk.z_done (by kernel_rfl) ?_ _
          have hbe := bel_after hbw hs
          clear hs
          go_wp2
          go_ret
          exact ⟨rfl, hbe⟩

end Go.Proofs.YtklafifiphbibaaGreat
