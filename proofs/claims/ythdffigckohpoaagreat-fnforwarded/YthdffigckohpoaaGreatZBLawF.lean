/- The law FnForwarded, walked. -/
import Derived.Test.YthdffigckohpoaaGreatZU15
import Derived.Test.YthdffigckohpoaaGreatZU17
import Derived.Test.YthdffigckohpoaaGreatZBFwS
import Derived.Test.YthdffigckohpoaaGreatZBRf
namespace Go.Proofs.YthdffigckohpoaaGreat
open Go.RowKit

theorem take_has (C : List Nat) (z k : Nat) (h : k < C.length) : (C.take (k + 1)).contains z = ((C.take k).contains z || decide (C.getD k 0 = z)) := by
  rw [ltake_snoc C k h, Bool.eq_iff_iff, List.contains_iff_mem, List.mem_append, Bool.or_eq_true, List.contains_iff_mem, List.mem_singleton, decide_eq_true_eq]
  exact or_congr Iff.rfl eq_comm

set_option maxRecDepth 100000 in
set_option maxHeartbeats 6400000 in
theorem lawForwarded_any (cv : Value) (cs : List UInt8) (w : World) (hc : BR w cv cs) :
    Calls Tryz.prog 5 #[cv] w fun x w' => x = .returned (.bool true) ∧ Below w.heap.size w w' := by
  have BG := big_any cv cs w hc
  by_cases hbig : 4096 < cs.length
  · rw [decide_eq_true hbig] at BG
    go_enter Tryz.func5, Tryz.ntmps5
    go_wp2_with (go_at_call 6; refine BG.mono ?_; rintro x w' ⟨rfl, rfl⟩)
    go_ret
    exact ⟨rfl, Below.refl _ _⟩
  rw [decide_eq_false hbig] at BG
  go_enter Tryz.func5, Tryz.ntmps5
  go_wp2_with fail
  refine BG.mono ?_
  rintro x w0 ⟨rfl, rfl⟩
  clear BG
  have hbw := Below.refl w0.heap.size w0
  go_wp2_with fail
  refine (drawForward_any cv cs _ (hc.later hbw) (by omega)).mono ?_
  rintro x w1 ⟨⟨t, hv1, hv2, hv3, y, i, rfl, hy, hi, hh, hwl, hrl, hkl⟩, hb⟩
  replace hbw := bel_after hbw hb
  clear hb
  have rh := hh.hr
  have ih1 := hh.w1
  have ih2 := IR_of_owns hh.o2
  obtain ⟨ha1, hc1, rfl, -⟩ := IRs hh.w1
  obtain ⟨ha2, hc2, rfl, -⟩ := IRs (IR_of_owns hh.o2)
  obtain ⟨ha3, hc3, rfl, -⟩ := IRs (IR_of_owns hh.o3)
  clear hh
  have al := bel_one w1 (.cells #[.slice ha1 t.words.length hc1, .slice ha2 t.roots.length hc2, .int .i64 t.old, .int .i64 t.eden, .int .i64 t.surv, .bool t.flip, .int .i64 t.hash, .slice ha3 t.kept.length hc3] 26)
  replace rh := rh.later al
  replace ih1 := ih1.later al
  replace ih2 := ih2.later al
  have Xx := Bx.new w1 (.slice ha1 t.words.length hc1) (.slice ha2 t.roots.length hc2) (.slice ha3 t.kept.length hc3) t 26
  replace hbw := bel_after hbw al
  clear al
  obtain ⟨x0, x1, x2, x3, x4, x5, x6, x7⟩ := id Xx
  have hmx : Tryz.prog.follows .mixedOrders = true := by kernel_rfl
  have PN : Hid (befB t y i = false → beC (fwd y i) t y i = zeroH) := fun q => be_no q
  have PA : Hid (befB t y i = true → okC (beC (fwd y i) t y i) = true ∧ (∀ z, z ∈ rfC t y ∨ z ∈ rfC t i → z ∈ rfC (beC (fwd y i) t y i) i) ∧ (y ≠ i → rfC (beC (fwd y i) t y i) y = [])) := fun q => forwarded q
  obtain ⟨rb1, rb2, rb3⟩ := be_short (f := fwd y i) (h := t) (a := y) (b := i)
  have C1 := fun v W hv => implForward_c v t y i W hv (by omega) (by omega) (by omega)
  have C2 := fun v W hv => specForward_c v t y i W hv (by omega) (by omega) (by omega) hy hi
  generalize beC (fwd y i) t y i = r at *
  generalize befB t y i = b at *
  have LH := fun v u W hv hu => likeHeap_any v u r W hv hu (by omega) (by omega) (by omega)
  have tb : (b != b) = false := by simp
  go_wp2_with fail
  refine (C1 _ _ rh).mono ?_
  rintro e w2 ⟨⟨uu, rfl, hu⟩, hb⟩
  replace Xx := Xx.later hb
  replace rh := rh.later hb
  replace ih1 := ih1.later hb
  replace ih2 := ih2.later hb
  replace hbw := bel_after hbw hb
  clear hb
  have ru := hu.hr
  obtain ⟨ua1, uc1, ua2, uc2, ua3, uc3, rfl, iu1, iu2, iu3⟩ := hu.sh
  clear hu
  have al := bel_one w2 (.cells #[.slice ua1 r.words.length uc1, .slice ua2 r.roots.length uc2, .int .i64 r.old, .int .i64 r.eden, .int .i64 r.surv, .bool r.flip, .int .i64 r.hash, .slice ua3 r.kept.length uc3] 26)
  replace Xx := Xx.later al
  replace rh := rh.later al
  replace ih1 := ih1.later al
  replace ih2 := ih2.later al
  replace ru := ru.later al
  replace iu1 := iu1.later al
  replace iu2 := iu2.later al
  replace iu3 := iu3.later al
  have Xu := Bx.new w2 (.slice ua1 r.words.length uc1) (.slice ua2 r.roots.length uc2) (.slice ua3 r.kept.length uc3) r 26
  replace hbw := bel_after hbw al
  clear al
  clear x0 x1 x2 x3 x4 x5 x6 x7
  obtain ⟨x0, x1, x2, x3, x4, x5, x6, x7⟩ := id Xx
  go_wp2_with fail
  refine (C2 _ _ rh).mono ?_
  rintro e w3 ⟨⟨su, rfl, hs⟩, hb⟩
  replace Xx := Xx.later hb
  replace Xu := Xu.later hb
  replace rh := rh.later hb
  replace ih1 := ih1.later hb
  replace ih2 := ih2.later hb
  replace ru := ru.later hb
  replace iu1 := iu1.later hb
  replace iu2 := iu2.later hb
  replace iu3 := iu3.later hb
  replace hbw := bel_after hbw hb
  clear hb
  have rs := hs.hr
  obtain ⟨sa1, sc1, sa2, sc2, sa3, sc3, rfl, is1, is2, is3⟩ := hs.sh
  clear hs
  have al := bel_one w3 (.cells #[.slice sa1 r.words.length sc1, .slice sa2 r.roots.length sc2, .int .i64 r.old, .int .i64 r.eden, .int .i64 r.surv, .bool r.flip, .int .i64 r.hash, .slice sa3 r.kept.length sc3] 26)
  replace Xx := Xx.later al
  replace Xu := Xu.later al
  replace rh := rh.later al
  replace ih1 := ih1.later al
  replace ih2 := ih2.later al
  replace ru := ru.later al
  replace iu1 := iu1.later al
  replace iu2 := iu2.later al
  replace iu3 := iu3.later al
  replace rs := rs.later al
  replace is1 := is1.later al
  replace is2 := is2.later al
  replace is3 := is3.later al
  have Xs := Bx.new w3 (.slice sa1 r.words.length sc1) (.slice sa2 r.roots.length sc2) (.slice sa3 r.kept.length sc3) r 26
  replace hbw := bel_after hbw al
  clear al
  clear x0 x1 x2 x3 x4 x5 x6 x7
  obtain ⟨u0, u1, u2, u3, u4, u5, u6, u7⟩ := id Xu
  obtain ⟨s0, s1, s2, s3, s4, s5, s6, s7⟩ := id Xs
  go_wp2_with fail
  refine (LH _ _ _ ru rs).mono ?_
  rintro e w4 ⟨rfl, hb⟩
  replace Xx := Xx.later hb
  replace Xu := Xu.later hb
  replace rh := rh.later hb
  replace ru := ru.later hb
  replace hbw := bel_after hbw hb
  clear hb C1 C2 rs is1 is2 is3 Xs iu1 iu2 iu3 ih1 ih2
  clear s0 s1 s2 s3 s4 s5 s6 s7 u0 u1 u2 u3 u4 u5 u6 u7
  cases b
  · clear PA
    obtain rfl := PN.out rfl
    clear PN
    obtain ⟨u0, u1, u2, u3, u4, u5, u6, u7⟩ := id Xu
    go_wp2_with fail
    refine (LH _ _ _ ru (zero_hn 0 _).hr).mono ?_
    rintro e w7 ⟨rfl, hb⟩
    go_wp2
    go_ret
    exact ⟨rfl, bel_after hbw hb⟩
  · obtain ⟨p1, p2, p3⟩ := PA.out rfl
    clear PN PA tb LH
    have OKr := fun v W hv => implHeapOk_c v r W hv (by omega) (by omega)
    rw [p1] at OKr
    have K1 := fun v W hv => implReferrers_c v t y W hv (by omega) (by omega)
    have K2 := fun v W hv => implReferrers_c v t i W hv (by omega) (by omega)
    have K3 := fun v W hv => implReferrers_c v r i W hv (by omega) (by omega)
    have K4 := fun v W hv => implReferrers_c v r y W hv (by omega) (by omega)
    have sA := rf_short t y
    have sB := rf_short t i
    have sC := rf_short r i
    have P2 : Hid (∀ z, z ∈ rfC t y ∨ z ∈ rfC t i → z ∈ rfC r i) := p2
    have P3 : Hid (y ≠ i → rfC r y = []) := p3
    generalize rfC t y = A at *
    generalize rfC t i = B at *
    generalize rfC r i = C at *
    clear p1 p2 p3
    obtain ⟨x0, x1, x2, x3, x4, x5, x6, x7⟩ := id Xx
    go_wp2_with fail
    refine (K1 _ _ rh).mono ?_
    rintro e w5 ⟨⟨va, rfl, oA⟩, hb⟩
    replace Xx := Xx.later hb
    replace Xu := Xu.later hb
    replace rh := rh.later hb
    replace ru := ru.later hb
    replace hbw := bel_after hbw hb
    clear hb
    clear x0 x1 x2 x3 x4 x5 x6 x7
    obtain ⟨x0, x1, x2, x3, x4, x5, x6, x7⟩ := id Xx
    go_wp2_with fail
    refine (K2 _ _ rh).mono ?_
    rintro e w6 ⟨⟨vb, rfl, oB⟩, hb⟩
    replace Xx := Xx.later hb
    replace Xu := Xu.later hb
    replace rh := rh.later hb
    replace ru := ru.later hb
    replace hbw := bel_after hbw hb
    have iA := (IR_of_owns' oA).later hb
    clear hb oA
    clear x0 x1 x2 x3 x4 x5 x6 x7
    obtain ⟨u0, u1, u2, u3, u4, u5, u6, u7⟩ := id Xu
    go_wp2_with fail
    refine (K3 _ _ ru).mono ?_
    rintro e w7 ⟨⟨vc, rfl, oC⟩, hb⟩
    replace Xx := Xx.later hb
    replace Xu := Xu.later hb
    replace rh := rh.later hb
    replace ru := ru.later hb
    replace hbw := bel_after hbw hb
    replace iA := iA.later hb
    have iB := (IR_of_owns' oB).later hb
    have iC := IR_of_owns' oC
    clear hb oB oC K1 K2 K3
    obtain ⟨aA, cA, rfl, hA⟩ := intsI iA
    obtain ⟨aB, cB, rfl, hB⟩ := intsI iB
    obtain ⟨aC, cC, rfl, hC⟩ := intsI iC
    clear iA iB iC rh Xx
    clear u0 u1 u2 u3 u4 u5 u6 u7
    go_wp2
    go_loopw [13] (fun jv wr => ∃ j : Nat, j ≤ A.length + B.length ∧ jv = .int .i64 j ∧ wr = w7) (fun jv _ => A.length + B.length - (intOf jv).toNat)
    case atStart => exact ⟨0, Nat.zero_le _, rfl, rfl⟩
    case round =>
      obtain ⟨j, hj, rfl, hwr⟩ := hrel
      obtain rfl := hwr.symm
      clear hwr
      by_cases hlt : j < A.length + B.length
      · by_cases hla : j < A.length
        · have IN := P2.out (A.getD j 0) (.inl (lget_mem A j hla))
          obtain ⟨b', o', e', ci⟩ := hA j hla
          subst e'
          have D1 : decide ((j : Int) < (A.length : Int) + (B.length : Int)) = true := decide_eq_true (by omega)
          have D2 : decide ((j : Int) < (A.length : Int)) = true := decide_eq_true (by omega)
          generalize A.getD j 0 = z at *
          clear P2 P3 hA hB
          go_wp2
          go_loopw [15, 16] (fun fv kv wr => ∃ k : Nat, k ≤ C.length ∧ kv = .int .i64 k ∧ fv = .bool ((C.take k).contains z) ∧ wr = w7) (fun _ kv _ => C.length - (intOf kv).toNat)
          case atStart => exact ⟨0, Nat.zero_le _, rfl, by simp, rfl⟩
          case round =>
            obtain ⟨k, hk, rfl, rfl, hwr⟩ := hrel
            obtain rfl := hwr.symm
            clear hwr
            by_cases hkl : k < C.length
            · obtain ⟨b2, o2, e2, cc⟩ := hC k hkl
              subst e2
              have E := take_has C z k hkl
              have Dk : decide ((k : Int) < (C.length : Int)) = true := decide_eq_true (by omega)
              generalize C.getD k 0 = q at *
              clear IN hC
              generalize (C.take k).contains z = fo at *
              cases fo
              · have E' : Hid ((C.take (k + 1)).contains z = ((q : Int) == (z : Int))) := (by rw [E, Bool.false_or, Bool.eq_iff_iff, decide_eq_true_eq, beq_iff_eq]; omega : (C.take (k + 1)).contains z = ((q : Int) == (z : Int)))
                clear E
                go_wp2
                exact ⟨⟨k + 1, by omega, by go_num, by rw [E'.out], trivial⟩, by simp [intOf]; omega⟩
              · have E' : Hid ((C.take (k + 1)).contains z = true) := (by rw [E, Bool.true_or] : (C.take (k + 1)).contains z = true)
                clear E
                go_wp2
                exact ⟨⟨k + 1, by omega, by go_num, by rw [E'.out], trivial⟩, by simp [intOf]; omega⟩
            · obtain rfl : k = C.length := by omega
              have Dk : decide ((C.length : Int) < (C.length : Int)) = false := decide_eq_false (by omega)
              have F : (C.take C.length).contains z = true := by rw [List.take_length]; exact List.contains_iff_mem.2 IN
              rw [F]
              clear IN hC F
              go_wp2
              exact ⟨⟨j + 1, by omega, by go_num, trivial⟩, by simp [intOf]; omega⟩
        · have IN := P2.out (B.getD (j - A.length) 0) (.inr (lget_mem B (j - A.length) (by omega)))
          obtain ⟨b', o', e', ci⟩ := hB (j - A.length) (by omega)
          subst e'
          have D1 : decide ((j : Int) < (A.length : Int) + (B.length : Int)) = true := decide_eq_true (by omega)
          have D2 : decide ((j : Int) < (A.length : Int)) = false := decide_eq_false (by omega)
          obtain ⟨m, rfl⟩ : ∃ m, j = A.length + m := ⟨j - A.length, by omega⟩
          rw [show A.length + m - A.length = m from by omega] at IN ci
          have wj : ((A.length + m : Nat) : Int) = (A.length : Int) + m := by omega
          have mlt : m < B.length := by omega
          generalize B.getD m 0 = z at *
          clear P2 P3 hA hB
          go_wp2
          go_loopw [15, 16] (fun fv kv wr => ∃ k : Nat, k ≤ C.length ∧ kv = .int .i64 k ∧ fv = .bool ((C.take k).contains z) ∧ wr = w7) (fun _ kv _ => C.length - (intOf kv).toNat)
          case atStart => exact ⟨0, Nat.zero_le _, rfl, by simp, rfl⟩
          case round =>
            obtain ⟨k, hk, rfl, rfl, hwr⟩ := hrel
            obtain rfl := hwr.symm
            clear hwr
            by_cases hkl : k < C.length
            · obtain ⟨b2, o2, e2, cc⟩ := hC k hkl
              subst e2
              have E := take_has C z k hkl
              have Dk : decide ((k : Int) < (C.length : Int)) = true := decide_eq_true (by omega)
              generalize C.getD k 0 = q at *
              clear IN hC
              generalize (C.take k).contains z = fo at *
              cases fo
              · have E' : Hid ((C.take (k + 1)).contains z = ((q : Int) == (z : Int))) := (by rw [E, Bool.false_or, Bool.eq_iff_iff, decide_eq_true_eq, beq_iff_eq]; omega : (C.take (k + 1)).contains z = ((q : Int) == (z : Int)))
                clear E
                go_wp2
                exact ⟨⟨k + 1, by omega, by go_num, by rw [E'.out], trivial⟩, by simp [intOf]; omega⟩
              · have E' : Hid ((C.take (k + 1)).contains z = true) := (by rw [E, Bool.true_or] : (C.take (k + 1)).contains z = true)
                clear E
                go_wp2
                exact ⟨⟨k + 1, by omega, by go_num, by rw [E'.out], trivial⟩, by simp [intOf]; omega⟩
            · obtain rfl : k = C.length := by omega
              have Dk : decide ((C.length : Int) < (C.length : Int)) = false := decide_eq_false (by omega)
              have F : (C.take C.length).contains z = true := by rw [List.take_length]; exact List.contains_iff_mem.2 IN
              rw [F]
              clear IN hC F
              go_wp2
              exact ⟨⟨(A.length + m) + 1, by omega, by go_num, trivial⟩, by simp [intOf]; omega⟩
      · obtain rfl : j = A.length + B.length := by omega
        have D1 : decide (((A.length + B.length : Nat) : Int) < (A.length : Int) + (B.length : Int)) = false := decide_eq_false (by omega)
        obtain ⟨u0, u1, u2, u3, u4, u5, u6, u7⟩ := id Xu
        clear hA hB hC
        go_wp2_with fail
        refine (OKr _ _ ru).mono ?_
        rintro e w8 ⟨rfl, hb8⟩
        have ru8 := ru.later hb8
        have hbw8 := bel_after hbw hb8
        clear u0 u1 u2 u3 u4 u5 u6 u7
        obtain ⟨u0, u1, u2, u3, u4, u5, u6, u7⟩ := Xu.later hb8
        by_cases hyi : y = i
        · have D : (y == i) = true := by simp [hyi]
          clear K4
          go_wp2
          go_ret
          exact ⟨rfl, hbw8⟩
        · have D : (y == i) = false := by simp [hyi]
          have Z := P3.out hyi
          have K5 := K4 _ _ ru8
          rw [Z] at K5
          clear K4 P3 Z hyi
          go_wp2_with fail
          refine K5.mono ?_
          rintro e w9 ⟨⟨vd, rfl, oD⟩, hb9⟩
          obtain ⟨aD, cD, rfl, -⟩ := intsI (IR_of_owns' oD)
          go_wp2
          go_ret
          exact ⟨rfl, bel_after hbw8 hb9⟩

end Go.Proofs.YthdffigckohpoaaGreat
