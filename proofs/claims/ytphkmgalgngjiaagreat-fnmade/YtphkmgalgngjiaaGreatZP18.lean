
import Derived.Test.YtphkmgalgngjiaaGreatZP5
import Derived.Test.YtphkmgalgngjiaaGreatZP1
import Derived.Test.YtphkmgalgngjiaaGreatZLDNew
import Derived.Test.YtphkmgalgngjiaaGreatZP14
import Derived.Test.YtphkmgalgngjiaaGreatZLLikeG
import Derived.Test.YtphkmgalgngjiaaGreatZP15
import Derived.Test.YtphkmgalgngjiaaGreatZMINew
import Derived.Test.YtphkmgalgngjiaaGreatZMSNew
import Derived.Test.YtphkmgalgngjiaaGreatZGShI
import Derived.Test.YtphkmgalgngjiaaGreatZP7
/- How long the lists of an answer are. -/
namespace Go.Proofs.YtphkmgalgngjiaaGreat
open Go.RowKit

theorem new_bounds {h : Hp} (i x : Int) (k : h.words.length ≤ 10000000 ∧ h.roots.length ≤ 10000000 ∧ h.kept.length ≤ 10000000) : (newC h i x).words.length ≤ 1000000000 ∧ (newC h i x).roots.length ≤ 1000000000 ∧ (newC h i x).kept.length ≤ 1000000000 := by
  unfold newC
  split
  · simp [newHp]
    omega
  · simp [zeroH]

end Go.Proofs.YtphkmgalgngjiaaGreat

/- The law FnMade, walked. -/
namespace Go.Proofs.YtphkmgalgngjiaaGreat
open Go.RowKit

set_option maxRecDepth 100000 in
set_option maxHeartbeats 25600000 in
theorem lawMade_any (cv : Value) (cs : List UInt8) (w : World) (hc : BR w cv cs) :
    Calls Tryz.prog 3 #[cv] w fun x w' => x = .returned (.bool true) ∧ Below w.heap.size w w' := by
  have BG := big_any cv cs w hc
  by_cases hbig : 4096 < cs.length
  · rw [decide_eq_true hbig] at BG
    go_enter Tryz.func3, Tryz.ntmps3
    go_wp2_with (go_at_call 6; refine BG.mono ?_; rintro x w' ⟨rfl, rfl⟩)
    go_ret
    exact ⟨rfl, Below.refl _ _⟩
  rw [decide_eq_false hbig] at BG
  go_enter Tryz.func3, Tryz.ntmps3
  go_wp2_with fail
  refine BG.mono ?_
  rintro x w0 ⟨rfl, rfl⟩
  clear BG
  have hbw := Below.refl w0.heap.size w0
  go_wp2_with fail
  refine (drawNew_any cv cs _ (hc.later hbw) (by omega)).mono ?_
  rintro x w1 ⟨⟨t, hv1, hv2, hv3, y, i, rfl, hy, hi, hh, hwl, hrl, hkl⟩, hb⟩
  replace hbw := bel_after hbw hb
  clear hb
  have rh := hh.hr
  have ih1 := hh.w1
  have ih2 := IR_of_owns hh.o2
  obtain ⟨ha1, hc1, rfl, -⟩ := IRs hh.w1
  obtain ⟨ha2, hc2, rfl, -⟩ := IRs (IR_of_owns hh.o2)
  obtain ⟨ha3, hc3, rfl, -⟩ := IRs (IR_of_owns hh.o3)
  clear hh
  have al := bel_one w1 (.cells #[.slice ha1 t.words.length hc1, .slice ha2 t.roots.length hc2, .int .i64 t.old, .int .i64 t.eden, .int .i64 t.surv, .bool t.flip, .int .i64 t.hash, .slice ha3 t.kept.length hc3] 26)
  replace rh := rh.later al
  replace ih1 := ih1.later al
  replace ih2 := ih2.later al
  have Xx := Bx.new w1 (.slice ha1 t.words.length hc1) (.slice ha2 t.roots.length hc2) (.slice ha3 t.kept.length hc3) t 26
  replace hbw := bel_after hbw al
  clear al
  obtain ⟨x0, x1, x2, x3, x4, x5, x6, x7⟩ := id Xx
  have hmx : Tryz.prog.follows .mixedOrders = true := by kernel_rfl
  have NZ : Hid (newB t y i = false → newW' t y i = 0) := fun q => (by unfold newW'; rw [q]; rfl)
  have NA : Hid (newB t y i = true → NewAll t (newC t y i) y i (newW' t y i)) := fun q => new_all q
  obtain ⟨rb1, rb2, rb3⟩ := new_bounds (h := t) y i ⟨by omega, by omega, by omega⟩
  have C1 := fun v W hv => implNew_c v t y i W hv (by omega) (by omega) (by omega)
  have C2 := fun v W hv => specNew_c v t y i W hv (by omega) (by omega) (by omega)
  generalize newC t y i = r at *
  generalize newB t y i = b at *
  generalize newW' t y i = xw at *
  have LH := fun v u W hv hu => likeHeap_any v u r W hv hu (by omega) (by omega) (by omega)
  have tb : (b != b) = false := by simp
  have tx : (xw != xw) = false := by simp
  go_wp2_with fail
  refine (C1 _ _ rh).mono ?_
  rintro e w2 ⟨⟨uu, rfl, hu⟩, hb⟩
  replace Xx := Xx.later hb
  replace rh := rh.later hb
  replace ih1 := ih1.later hb
  replace ih2 := ih2.later hb
  replace hbw := bel_after hbw hb
  clear hb
  have ru := hu.hr
  obtain ⟨ua1, uc1, ua2, uc2, ua3, uc3, rfl, iu1, iu2, iu3⟩ := hu.sh
  clear hu
  have al := bel_one w2 (.cells #[.slice ua1 r.words.length uc1, .slice ua2 r.roots.length uc2, .int .i64 r.old, .int .i64 r.eden, .int .i64 r.surv, .bool r.flip, .int .i64 r.hash, .slice ua3 r.kept.length uc3] 26)
  replace Xx := Xx.later al
  replace rh := rh.later al
  replace ih1 := ih1.later al
  replace ih2 := ih2.later al
  replace ru := ru.later al
  replace iu1 := iu1.later al
  replace iu2 := iu2.later al
  replace iu3 := iu3.later al
  have Xu := Bx.new w2 (.slice ua1 r.words.length uc1) (.slice ua2 r.roots.length uc2) (.slice ua3 r.kept.length uc3) r 26
  replace hbw := bel_after hbw al
  clear al
  clear x0 x1 x2 x3 x4 x5 x6 x7
  obtain ⟨x0, x1, x2, x3, x4, x5, x6, x7⟩ := id Xx
  go_wp2_with fail
  refine (C2 _ _ rh).mono ?_
  rintro e w3 ⟨⟨su, rfl, hs⟩, hb⟩
  replace Xx := Xx.later hb
  replace Xu := Xu.later hb
  replace rh := rh.later hb
  replace ih1 := ih1.later hb
  replace ih2 := ih2.later hb
  replace ru := ru.later hb
  replace iu1 := iu1.later hb
  replace iu2 := iu2.later hb
  replace iu3 := iu3.later hb
  replace hbw := bel_after hbw hb
  clear hb
  have rs := hs.hr
  obtain ⟨sa1, sc1, sa2, sc2, sa3, sc3, rfl, is1, is2, is3⟩ := hs.sh
  clear hs
  have al := bel_one w3 (.cells #[.slice sa1 r.words.length sc1, .slice sa2 r.roots.length sc2, .int .i64 r.old, .int .i64 r.eden, .int .i64 r.surv, .bool r.flip, .int .i64 r.hash, .slice sa3 r.kept.length sc3] 26)
  replace Xx := Xx.later al
  replace Xu := Xu.later al
  replace rh := rh.later al
  replace ih1 := ih1.later al
  replace ih2 := ih2.later al
  replace ru := ru.later al
  replace iu1 := iu1.later al
  replace iu2 := iu2.later al
  replace iu3 := iu3.later al
  replace rs := rs.later al
  replace is1 := is1.later al
  replace is2 := is2.later al
  replace is3 := is3.later al
  have Xs := Bx.new w3 (.slice sa1 r.words.length sc1) (.slice sa2 r.roots.length sc2) (.slice sa3 r.kept.length sc3) r 26
  replace hbw := bel_after hbw al
  clear al
  clear x0 x1 x2 x3 x4 x5 x6 x7
  obtain ⟨u0, u1, u2, u3, u4, u5, u6, u7⟩ := id Xu
  obtain ⟨s0, s1, s2, s3, s4, s5, s6, s7⟩ := id Xs
  go_wp2_with fail
  refine (LH _ _ _ ru rs).mono ?_
  rintro e w4 ⟨rfl, hb⟩
  replace Xx := Xx.later hb
  replace Xu := Xu.later hb
  replace rh := rh.later hb
  replace ru := ru.later hb
  replace hbw := bel_after hbw hb
  clear hb C1 C2 rs is1 is2 is3 Xs iu1 iu2 iu3 ih1 ih2 LH
  clear s0 s1 s2 s3 s4 s5 s6 s7 u0 u1 u2 u3 u4 u5 u6 u7
  cases b
  · obtain rfl := NZ.out rfl
    go_wp2
    go_ret
    exact ⟨rfl, hbw⟩
  · obtain ⟨a1, a2, a3, a4, a5, a6, a7, a8, a9, a10, ⟨m1, m2⟩, ⟨n1, n2⟩, a11, a12, a13, a14, a15⟩ := NA.out rfl
    clear NZ NA tb tx
    have RO := fun W => implRefOf_any xw W
    rw [a4, a5] at RO
    have HD := fun v W hv => implHeader_c v r t.eden W hv (by omega) (by omega)
    rw [a6, a7, a8, a9] at HD
    unfold hdV at HD
    have SH := fun v W hv => implShape_c v t W hv (by omega) (by omega)
    have SR := fun v W hv => implShape_c v r W hv (by omega) (by omega)
    obtain ⟨sm1, sm2, sm3⟩ := sh_small a2
    have LG := fun v u W hv hu => likeGraph_any v u (shC r) W hv hu (by omega) (by omega) (fun n hn => by have := sm3 n hn; omega)
    have OKr := fun v W hv => implHeapOk_c v r W hv (by omega) (by omega)
    rw [a2] at OKr
    have RM := fun v W hv => implRoom_c v r W hv (by omega) (by omega)
    rw [a10] at RM
    have RT := fun v W hv => implRoom_c v t W hv (by omega) (by omega)
    have OB1 := fun v W hv => implObjects_c v r W hv (by omega) (by omega)
    have OB2 := fun v W hv => implObjects_c v t W hv (by omega) (by omega)
    have ol := ob_short t
    rw [a11] at OB1
    generalize roomC t = rm at *
    have SE : Hid (shC r = { shC t with hash := t.hash + 1 }) := a12
    have GH : Hid ((shC t).hash = t.hash) := a13
    generalize obC t = lt at *
    generalize obC r = lr at *
    generalize shC t = g at *
    generalize hsr : shC r = gr at *
    clear hsr a1 a2 a3 a4 a5 a6 a7 a8 a9 a10 a11 a12 a13 sm1 sm2 sm3
    go_wp2_with fail
    refine (RO _).mono ?_
    rintro e w5 ⟨rfl, hw5⟩
    obtain rfl := hw5.symm
    clear hw5 RO
    obtain ⟨u0, u1, u2, u3, u4, u5, u6, u7⟩ := id Xu
    go_wp2_with fail
    refine (HD _ _ ru).mono ?_
    rintro e w6 ⟨rfl, hb⟩
    replace Xx := Xx.later hb
    replace Xu := Xu.later hb
    replace rh := rh.later hb
    replace ru := ru.later hb
    replace hbw := bel_after hbw hb
    clear hb HD
    clear u0 u1 u2 u3 u4 u5 u6 u7
    obtain ⟨x0, x1, x2, x3, x4, x5, x6, x7⟩ := id Xx
    go_wp2_with fail
    refine (SH _ _ rh).mono ?_
    rintro e w8 ⟨⟨gv, rfl, hg⟩, hb⟩
    replace Xx := Xx.later hb
    replace Xu := Xu.later hb
    replace rh := rh.later hb
    replace ru := ru.later hb
    replace hbw := bel_after hbw hb
    clear hb SH
    clear x0 x1 x2 x3 x4 x5 x6 x7
    have hgr := hg.grn.gr
    obtain ⟨ga, gc, na, nc, rfl, ig, ng⟩ := hgr.out
    clear hg hgr
    have al := bel_one w8 (.cells #[.slice ga g.roots.length gc, .slice na g.nodes.length nc, .int .i64 (t.hash + 1)] 38)
    have GR8 : GR (w8.alloc (.cells #[.slice ga g.roots.length gc, .slice na g.nodes.length nc, .int .i64 (t.hash + 1)] 38)) (.agg #[.slice ga g.roots.length gc, .slice na g.nodes.length nc, .int .i64 (t.hash + 1)]) gr := by
      rw [SE.out]
      exact ⟨_, _, rfl, ig.later al, ng.later al⟩
    have GB : ∀ W', Below (w8.alloc (.cells #[.slice ga g.roots.length gc, .slice na g.nodes.length nc, .int .i64 (t.hash + 1)] 38)).heap.size (w8.alloc (.cells #[.slice ga g.roots.length gc, .slice na g.nodes.length nc, .int .i64 (t.hash + 1)] 38)) W' → W'.cell? ⟨w8.heap.size, 0, none⟩ = some (.slice ga g.roots.length gc) ∧ W'.cell? ⟨w8.heap.size, 1, none⟩ = some (.slice na g.nodes.length nc) ∧ W'.cell? ⟨w8.heap.size, 2, none⟩ = some (.int .i64 (t.hash + 1)) := fun W' q =>
      ⟨cell_later q (cell_new w8 #[.slice ga g.roots.length gc, .slice na g.nodes.length nc, .int .i64 (t.hash + 1)] 38 _ rfl 0 _ rfl), cell_later q (cell_new w8 #[.slice ga g.roots.length gc, .slice na g.nodes.length nc, .int .i64 (t.hash + 1)] 38 _ rfl 1 _ rfl), cell_later q (cell_new w8 #[.slice ga g.roots.length gc, .slice na g.nodes.length nc, .int .i64 (t.hash + 1)] 38 _ rfl 2 _ rfl)⟩
    replace Xx := Xx.later al
    replace Xu := Xu.later al
    replace rh := rh.later al
    replace ru := ru.later al
    replace hbw := bel_after hbw al
    have gh := GH.out
    clear al ig ng SE GH
    have kk : (y == y) = true := by simp
    have nn : (i == i) = true := by simp
    have hh : (t.hash == t.hash) = true := by simp
    have sw1 : IntKind.i64.wrap (rm - 4) = rm - 4 := by
      simp [IntKind.wrap, IntKind.bits, IntKind.signed]
      omega
    have sw2 : IntKind.i64.wrap (rm - 4 - i) = rm - 4 - i := by
      simp [IntKind.wrap, IntKind.bits, IntKind.signed]
      omega
    have sw3 : IntKind.i64.wrap ((lt.length : Int) + 1) = (lt.length : Int) + 1 := by
      simp [IntKind.wrap, IntKind.bits, IntKind.signed]
      omega
    have rr : (rm - 4 - i == rm - 4 - i) = true := by simp
    have ll : ((lt.length : Int) + 1 == (lt.length : Int) + 1) = true := by simp
    have hs0 : Below (w8.alloc (.cells #[.slice ga g.roots.length gc, .slice na g.nodes.length nc, .int .i64 (t.hash + 1)] 38)).heap.size (w8.alloc (.cells #[.slice ga g.roots.length gc, .slice na g.nodes.length nc, .int .i64 (t.hash + 1)] 38)) (w8.alloc (.cells #[.slice ga g.roots.length gc, .slice na g.nodes.length nc, .int .i64 (t.hash + 1)] 38)).drew := (Below.refl _ _).drew
    rw [gh]
    clear gh
    go_wp2_with fail
    refine Disk.z_plain 99 (fun W' => Below (w8.alloc (.cells #[.slice ga g.roots.length gc, .slice na g.nodes.length nc, .int .i64 (t.hash + 1)] 38)).heap.size (w8.alloc (.cells #[.slice ga g.roots.length gc, .slice na g.nodes.length nc, .int .i64 (t.hash + 1)] 38)) W') hmx hs0 (fun hs => ?_)
    clear hs0
    generalize (w8.alloc (.cells #[.slice ga g.roots.length gc, .slice na g.nodes.length nc, .int .i64 (t.hash + 1)] 38)).drew = wd at hs ⊢
    refine Disk.z_take 0 80 (v := .bool true) rfl rfl (by kernel_rfl) (by kernel_rfl) (by kernel_rfl) (by kernel_rfl) (by rfl) hs (fun W' _ => (by
      go_simp; first | done | with_reducible rfl)) ?_
    simp only [List.setIfInBounds_toArray, List.set_cons_zero, List.set_cons_succ]
    refine Disk.z_take 1 81 (v := .bool true) rfl rfl (by kernel_rfl) (by kernel_rfl) (by kernel_rfl) (by kernel_rfl) (by rfl) hs (fun W' _ => (by
      go_simp; first | done | with_reducible rfl)) ?_
    simp only [List.setIfInBounds_toArray, List.set_cons_zero, List.set_cons_succ]
    refine Disk.z_take 2 82 (v := .int .i64 i) rfl rfl (by kernel_rfl) (by kernel_rfl) (by kernel_rfl) (by kernel_rfl) (by rfl) hs (fun W' _ => (by
      go_simp; first | done | with_reducible rfl)) ?_
    simp only [List.setIfInBounds_toArray, List.set_cons_zero, List.set_cons_succ]
    refine Disk.z_take 3 83 (v := .int .i64 i) rfl rfl (by kernel_rfl) (by kernel_rfl) (by kernel_rfl) (by kernel_rfl) (by rfl) hs (fun W' _ => (by
      go_simp; first | done | with_reducible rfl)) ?_
    simp only [List.setIfInBounds_toArray, List.set_cons_zero, List.set_cons_succ]
    refine Disk.z_take 4 84 (v := .bool true) rfl rfl (by kernel_rfl) (by kernel_rfl) (by kernel_rfl) (by kernel_rfl) (by rfl) hs (fun W' _ => (by
      go_simp; first | done | with_reducible rfl)) ?_
    simp only [List.setIfInBounds_toArray, List.set_cons_zero, List.set_cons_succ]
    refine Disk.z_take 5 85 (v := .bool true) rfl rfl (by kernel_rfl) (by kernel_rfl) (by kernel_rfl) (by kernel_rfl) (by rfl) hs (fun W' _ => (by
      go_simp; first | done | with_reducible rfl)) ?_
    simp only [List.setIfInBounds_toArray, List.set_cons_zero, List.set_cons_succ]
    refine Disk.z_take 6 86 (v := .bool true) rfl rfl (by kernel_rfl) (by kernel_rfl) (by kernel_rfl) (by kernel_rfl) (by rfl) hs (fun W' _ => (by
      go_simp; first | done | with_reducible rfl)) ?_
    simp only [List.setIfInBounds_toArray, List.set_cons_zero, List.set_cons_succ]
    refine Disk.z_take 7 87 (v := .int .i64 y) rfl rfl (by kernel_rfl) (by kernel_rfl) (by kernel_rfl) (by kernel_rfl) (by rfl) hs (fun W' _ => (by
      go_simp; first | done | with_reducible rfl)) ?_
    simp only [List.setIfInBounds_toArray, List.set_cons_zero, List.set_cons_succ]
    refine Disk.z_take 8 88 (v := .int .i64 y) rfl rfl (by kernel_rfl) (by kernel_rfl) (by kernel_rfl) (by kernel_rfl) (by rfl) hs (fun W' _ => (by
      go_simp; first | done | with_reducible rfl)) ?_
    simp only [List.setIfInBounds_toArray, List.set_cons_zero, List.set_cons_succ]
    refine Disk.z_take 9 89 (v := .bool true) rfl rfl (by kernel_rfl) (by kernel_rfl) (by kernel_rfl) (by kernel_rfl) (by rfl) hs (fun W' _ => (by
      go_simp; first | done | with_reducible rfl)) ?_
    simp only [List.setIfInBounds_toArray, List.set_cons_zero, List.set_cons_succ]
    refine Disk.z_take 10 90 (v := .bool true) rfl rfl (by kernel_rfl) (by kernel_rfl) (by kernel_rfl) (by kernel_rfl) (by rfl) hs (fun W' _ => (by
      go_simp; first | done | with_reducible rfl)) ?_
    simp only [List.setIfInBounds_toArray, List.set_cons_zero, List.set_cons_succ]
    refine Disk.z_take 11 91 (v := .bool true) rfl rfl (by kernel_rfl) (by kernel_rfl) (by kernel_rfl) (by kernel_rfl) (by rfl) hs (fun W' _ => (by
      go_simp; first | done | with_reducible rfl)) ?_
    simp only [List.setIfInBounds_toArray, List.set_cons_zero, List.set_cons_succ]
    refine Disk.z_take 12 92 (v := .int .i64 t.hash) rfl rfl (by kernel_rfl) (by kernel_rfl) (by kernel_rfl) (by kernel_rfl) (by rfl) hs (fun W' _ => (by
      go_simp; first | done | with_reducible rfl)) ?_
    simp only [List.setIfInBounds_toArray, List.set_cons_zero, List.set_cons_succ]
    refine Disk.z_take 13 93 (v := .pointer (some ⟨w1.heap.size, 6, none⟩)) rfl rfl (by kernel_rfl) (by kernel_rfl) (by kernel_rfl) (by kernel_rfl) (by rfl) hs (fun W' _ => (by
      go_simp; first | done | with_reducible rfl)) ?_
    simp only [List.setIfInBounds_toArray, List.set_cons_zero, List.set_cons_succ]
    refine Disk.z_take 14 94 (v := .int .i64 t.hash) rfl rfl (by kernel_rfl) (by kernel_rfl) (by kernel_rfl) (by kernel_rfl) (by rfl) hs (fun W' hSw => (by
      obtain ⟨x0, x1, x2, x3, x4, x5, x6, x7⟩ := Xx.later hSw
      go_simp; first | done | with_reducible rfl)) ?_
    simp only [List.setIfInBounds_toArray, List.set_cons_zero, List.set_cons_succ]
    refine Disk.z_take 15 95 (v := .bool true) rfl rfl (by kernel_rfl) (by kernel_rfl) (by kernel_rfl) (by kernel_rfl) (by rfl) hs (fun W' _ => (by
      go_simp; first | done | with_reducible rfl)) ?_
    simp only [List.setIfInBounds_toArray, List.set_cons_zero, List.set_cons_succ]
    refine Disk.z_take 16 96 (v := .bool true) rfl rfl (by kernel_rfl) (by kernel_rfl) (by kernel_rfl) (by kernel_rfl) (by rfl) hs (fun W' _ => (by
      go_simp; first | done | with_reducible rfl)) ?_
    simp only [List.setIfInBounds_toArray, List.set_cons_zero, List.set_cons_succ]
    refine Disk.z_take 17 97 (v := .bool true) rfl rfl (by kernel_rfl) (by kernel_rfl) (by kernel_rfl) (by kernel_rfl) (by rfl) hs (fun W' _ => (by
      go_simp; first | done | with_reducible rfl)) ?_
    simp only [List.setIfInBounds_toArray, List.set_cons_zero, List.set_cons_succ]
    refine Disk.z_take 18 98 (v := .int .i64 0) rfl rfl (by kernel_rfl) (by kernel_rfl) (by kernel_rfl) (by kernel_rfl) (by rfl) hs (fun W' _ => (by
      go_simp; first | done | with_reducible rfl)) ?_
    simp only [List.setIfInBounds_toArray, List.set_cons_zero, List.set_cons_succ]
    refine Disk.z_take 19 99 (v := .bool true) rfl rfl (by kernel_rfl) (by kernel_rfl) (by kernel_rfl) (by kernel_rfl) (by rfl) hs (fun W' _ => (by
      go_simp; first | done | with_reducible rfl)) ?_
    simp only [List.setIfInBounds_toArray, List.set_cons_zero, List.set_cons_succ]
    refine Disk.z_take 20 100 (v := .bool true) rfl rfl (by kernel_rfl) (by kernel_rfl) (by kernel_rfl) (by kernel_rfl) (by rfl) hs (fun W' _ => (by
      go_simp; first | done | with_reducible rfl)) ?_
    simp only [List.setIfInBounds_toArray, List.set_cons_zero, List.set_cons_succ]
    refine Disk.z_take 21 101 (v := .bool true) rfl rfl (by kernel_rfl) (by kernel_rfl) (by kernel_rfl) (by kernel_rfl) (by rfl) hs (fun W' _ => (by
      go_simp; first | done | with_reducible rfl)) ?_
    simp only [List.setIfInBounds_toArray, List.set_cons_zero, List.set_cons_succ]
    refine Disk.z_take 22 102 (v := .agg #[.slice ua1 r.words.length uc1, .slice ua2 r.roots.length uc2, .int .i64 r.old, .int .i64 r.eden, .int .i64 r.surv, .bool r.flip, .int .i64 r.hash, .slice ua3 r.kept.length uc3]) rfl rfl (by kernel_rfl) (by kernel_rfl) (by kernel_rfl) (by kernel_rfl) (by rfl) hs (fun W' hSw => (by
      obtain ⟨u0, u1, u2, u3, u4, u5, u6, u7⟩ := Xu.later hSw
      go_simp; first | done | with_reducible rfl)) ?_
    simp only [List.setIfInBounds_toArray, List.set_cons_zero, List.set_cons_succ]
    refine Disk.z_call 23 103 rfl rfl (by kernel_rfl) (by rfl) (f := 14) (args := #[.agg #[.slice ua1 r.words.length uc1, .slice ua2 r.roots.length uc2, .int .i64 r.old, .int .i64 r.eden, .int .i64 r.surv, .bool r.flip, .int .i64 r.hash, .slice ua3 r.kept.length uc3]]) (w0 := wd) (by go_simp) ?_
    refine (OKr _ _ (ru.later hs)).mono ?_
    rintro e wz1 ⟨rfl, hbq⟩
    replace hs := bel_after hs hbq
    clear hbq
    refine ⟨_, rfl, .inr hs, ?_⟩
    simp only [List.setIfInBounds_toArray, List.set_cons_zero, List.set_cons_succ]
    refine Disk.z_take 24 104 (v := .bool true) rfl rfl (by kernel_rfl) (by kernel_rfl) (by kernel_rfl) (by kernel_rfl) (by rfl) hs (fun W' _ => (by
      go_simp; first | done | with_reducible rfl)) ?_
    simp only [List.setIfInBounds_toArray, List.set_cons_zero, List.set_cons_succ]
    refine Disk.z_take 25 105 (v := .bool true) rfl rfl (by kernel_rfl) (by kernel_rfl) (by kernel_rfl) (by kernel_rfl) (by rfl) hs (fun W' _ => (by
      go_simp; first | done | with_reducible rfl)) ?_
    simp only [List.setIfInBounds_toArray, List.set_cons_zero, List.set_cons_succ]
    refine Disk.z_take 26 106 (v := .agg #[.slice ua1 r.words.length uc1, .slice ua2 r.roots.length uc2, .int .i64 r.old, .int .i64 r.eden, .int .i64 r.surv, .bool r.flip, .int .i64 r.hash, .slice ua3 r.kept.length uc3]) rfl rfl (by kernel_rfl) (by kernel_rfl) (by kernel_rfl) (by kernel_rfl) (by rfl) hs (fun W' hSw => (by
      obtain ⟨u0, u1, u2, u3, u4, u5, u6, u7⟩ := Xu.later hSw
      go_simp; first | done | with_reducible rfl)) ?_
    simp only [List.setIfInBounds_toArray, List.set_cons_zero, List.set_cons_succ]
    refine Disk.z_take 28 108 (v := .agg #[.slice ha1 t.words.length hc1, .slice ha2 t.roots.length hc2, .int .i64 t.old, .int .i64 t.eden, .int .i64 t.surv, .bool t.flip, .int .i64 t.hash, .slice ha3 t.kept.length hc3]) rfl rfl (by kernel_rfl) (by kernel_rfl) (by kernel_rfl) (by kernel_rfl) (by rfl) hs (fun W' hSw => (by
      obtain ⟨x0, x1, x2, x3, x4, x5, x6, x7⟩ := Xx.later hSw
      go_simp; first | done | with_reducible rfl)) ?_
    simp only [List.setIfInBounds_toArray, List.set_cons_zero, List.set_cons_succ]
    refine Disk.z_take 31 111 (v := .int .i64 i) rfl rfl (by kernel_rfl) (by kernel_rfl) (by kernel_rfl) (by kernel_rfl) (by rfl) hs (fun W' _ => (by
      go_simp; first | done | with_reducible rfl)) ?_
    simp only [List.setIfInBounds_toArray, List.set_cons_zero, List.set_cons_succ]
    refine Disk.z_call 27 107 rfl rfl (by kernel_rfl) (by rfl) (f := 15) (args := #[.agg #[.slice ua1 r.words.length uc1, .slice ua2 r.roots.length uc2, .int .i64 r.old, .int .i64 r.eden, .int .i64 r.surv, .bool r.flip, .int .i64 r.hash, .slice ua3 r.kept.length uc3]]) (w0 := wz1) (by go_simp) ?_
    refine (RM _ _ (ru.later hs)).mono ?_
    rintro e wz2 ⟨rfl, hbq⟩
    replace hs := bel_after hs hbq
    clear hbq
    refine ⟨_, rfl, .inr hs, ?_⟩
    simp only [List.setIfInBounds_toArray, List.set_cons_zero, List.set_cons_succ]
    refine Disk.z_call 29 109 rfl rfl (by kernel_rfl) (by rfl) (f := 15) (args := #[.agg #[.slice ha1 t.words.length hc1, .slice ha2 t.roots.length hc2, .int .i64 t.old, .int .i64 t.eden, .int .i64 t.surv, .bool t.flip, .int .i64 t.hash, .slice ha3 t.kept.length hc3]]) (w0 := wz2) (by go_simp) ?_
    refine (RT _ _ (rh.later hs)).mono ?_
    rintro e wz3 ⟨rfl, hbq⟩
    replace hs := bel_after hs hbq
    clear hbq
    refine ⟨_, rfl, .inr hs, ?_⟩
    simp only [List.setIfInBounds_toArray, List.set_cons_zero, List.set_cons_succ]
    refine Disk.z_take 30 110 (v := .int .i64 (rm - 4)) rfl rfl (by kernel_rfl) (by kernel_rfl) (by kernel_rfl) (by kernel_rfl) (by rfl) hs (fun W' _ => (by
      go_simp; first | done | with_reducible rfl)) ?_
    simp only [List.setIfInBounds_toArray, List.set_cons_zero, List.set_cons_succ]
    refine Disk.z_take 32 112 (v := .int .i64 (rm - 4 - i)) rfl rfl (by kernel_rfl) (by kernel_rfl) (by kernel_rfl) (by kernel_rfl) (by rfl) hs (fun W' _ => (by
      go_simp; first | done | with_reducible rfl)) ?_
    simp only [List.setIfInBounds_toArray, List.set_cons_zero, List.set_cons_succ]
    refine Disk.z_take 33 113 (v := .bool true) rfl rfl (by kernel_rfl) (by kernel_rfl) (by kernel_rfl) (by kernel_rfl) (by rfl) hs (fun W' _ => (by
      go_simp; first | done | with_reducible rfl)) ?_
    simp only [List.setIfInBounds_toArray, List.set_cons_zero, List.set_cons_succ]
    refine Disk.z_take 34 114 (v := .bool true) rfl rfl (by kernel_rfl) (by kernel_rfl) (by kernel_rfl) (by kernel_rfl) (by rfl) hs (fun W' _ => (by
      go_simp; first | done | with_reducible rfl)) ?_
    simp only [List.setIfInBounds_toArray, List.set_cons_zero, List.set_cons_succ]
    refine Disk.z_take 35 115 (v := .bool true) rfl rfl (by kernel_rfl) (by kernel_rfl) (by kernel_rfl) (by kernel_rfl) (by rfl) hs (fun W' _ => (by
      go_simp; first | done | with_reducible rfl)) ?_
    simp only [List.setIfInBounds_toArray, List.set_cons_zero, List.set_cons_succ]
    refine Disk.z_take 36 116 (v := .agg #[.slice ua1 r.words.length uc1, .slice ua2 r.roots.length uc2, .int .i64 r.old, .int .i64 r.eden, .int .i64 r.surv, .bool r.flip, .int .i64 r.hash, .slice ua3 r.kept.length uc3]) rfl rfl (by kernel_rfl) (by kernel_rfl) (by kernel_rfl) (by kernel_rfl) (by rfl) hs (fun W' hSw => (by
      obtain ⟨u0, u1, u2, u3, u4, u5, u6, u7⟩ := Xu.later hSw
      go_simp; first | done | with_reducible rfl)) ?_
    simp only [List.setIfInBounds_toArray, List.set_cons_zero, List.set_cons_succ]
    refine Disk.z_take 38 118 (v := .agg #[.slice ga g.roots.length gc, .slice na g.nodes.length nc, .int .i64 (t.hash + 1)]) rfl rfl (by kernel_rfl) (by kernel_rfl) (by kernel_rfl) (by kernel_rfl) (by rfl) hs (fun W' hSw => (by
      obtain ⟨s0, s1, s2⟩ := GB _ hSw
      go_simp; first | done | with_reducible rfl)) ?_
    simp only [List.setIfInBounds_toArray, List.set_cons_zero, List.set_cons_succ]
    refine Disk.z_call 37 117 rfl rfl (by kernel_rfl) (by rfl) (f := 13) (args := #[.agg #[.slice ua1 r.words.length uc1, .slice ua2 r.roots.length uc2, .int .i64 r.old, .int .i64 r.eden, .int .i64 r.surv, .bool r.flip, .int .i64 r.hash, .slice ua3 r.kept.length uc3]]) (w0 := wz3) (by go_simp) ?_
    refine (SR _ _ (ru.later hs)).mono ?_
    rintro e wz4 ⟨⟨qv, rfl, hq⟩, hbq⟩
    replace hs := bel_after hs hbq
    have hqr := hq.grn.gr
    obtain ⟨qa, qc, ma, mc, rfl, -, -⟩ := hqr.out
    clear hq
    clear hbq
    refine ⟨_, rfl, .inr hs, ?_⟩
    simp only [List.setIfInBounds_toArray, List.set_cons_zero, List.set_cons_succ]
    refine Disk.z_call 39 119 rfl rfl (by kernel_rfl) (by rfl) (f := 16) (args := #[.agg #[.slice qa gr.roots.length qc, .slice ma gr.nodes.length mc, .int .i64 gr.hash], .agg #[.slice ga g.roots.length gc, .slice na g.nodes.length nc, .int .i64 (t.hash + 1)]]) (w0 := wz4) (by go_simp) ?_
    refine (LG _ _ _ hqr (GR8.later hs)).mono ?_
    rintro e wz5 ⟨rfl, hbq⟩
    replace hs := bel_after hs hbq
    clear hbq
    refine ⟨_, rfl, .inr hs, ?_⟩
    simp only [List.setIfInBounds_toArray, List.set_cons_zero, List.set_cons_succ]
    clear hqr
    refine Disk.z_take 40 120 (v := .bool true) rfl rfl (by kernel_rfl) (by kernel_rfl) (by kernel_rfl) (by kernel_rfl) (by rfl) hs (fun W' _ => (by
      go_simp; first | done | with_reducible rfl)) ?_
    simp only [List.setIfInBounds_toArray, List.set_cons_zero, List.set_cons_succ]
    refine Disk.z_take 41 121 (v := .bool true) rfl rfl (by kernel_rfl) (by kernel_rfl) (by kernel_rfl) (by kernel_rfl) (by rfl) hs (fun W' _ => (by
      go_simp; first | done | with_reducible rfl)) ?_
    simp only [List.setIfInBounds_toArray, List.set_cons_zero, List.set_cons_succ]
    refine Disk.z_take 42 122 (v := .agg #[.slice ua1 r.words.length uc1, .slice ua2 r.roots.length uc2, .int .i64 r.old, .int .i64 r.eden, .int .i64 r.surv, .bool r.flip, .int .i64 r.hash, .slice ua3 r.kept.length uc3]) rfl rfl (by kernel_rfl) (by kernel_rfl) (by kernel_rfl) (by kernel_rfl) (by rfl) hs (fun W' hSw => (by
      obtain ⟨u0, u1, u2, u3, u4, u5, u6, u7⟩ := Xu.later hSw
      go_simp; first | done | with_reducible rfl)) ?_
    simp only [List.setIfInBounds_toArray, List.set_cons_zero, List.set_cons_succ]
    refine Disk.z_take 45 125 (v := .agg #[.slice ha1 t.words.length hc1, .slice ha2 t.roots.length hc2, .int .i64 t.old, .int .i64 t.eden, .int .i64 t.surv, .bool t.flip, .int .i64 t.hash, .slice ha3 t.kept.length hc3]) rfl rfl (by kernel_rfl) (by kernel_rfl) (by kernel_rfl) (by kernel_rfl) (by rfl) hs (fun W' hSw => (by
      obtain ⟨x0, x1, x2, x3, x4, x5, x6, x7⟩ := Xx.later hSw
      go_simp; first | done | with_reducible rfl)) ?_
    simp only [List.setIfInBounds_toArray, List.set_cons_zero, List.set_cons_succ]
    refine Disk.z_call 43 123 rfl rfl (by kernel_rfl) (by rfl) (f := 17) (args := #[.agg #[.slice ua1 r.words.length uc1, .slice ua2 r.roots.length uc2, .int .i64 r.old, .int .i64 r.eden, .int .i64 r.surv, .bool r.flip, .int .i64 r.hash, .slice ua3 r.kept.length uc3]]) (w0 := wz5) (by go_simp) ?_
    refine (OB1 _ _ (ru.later hs)).mono ?_
    rintro e wz6 ⟨⟨ov, rfl, ho⟩, hbq⟩
    replace hs := bel_after hs hbq
    obtain ⟨oa, oc, rfl⟩ := own_shape ho
    clear ho
    clear hbq
    refine ⟨_, rfl, .inr hs, ?_⟩
    simp only [List.setIfInBounds_toArray, List.set_cons_zero, List.set_cons_succ]
    refine Disk.z_take 44 124 (v := .int .i64 ((lt.length : Int) + 1)) rfl rfl (by kernel_rfl) (by kernel_rfl) (by kernel_rfl) (by kernel_rfl) (by rfl) hs (fun W' _ => (by
      go_simp; first | done | with_reducible rfl)) ?_
    simp only [List.setIfInBounds_toArray, List.set_cons_zero, List.set_cons_succ]
    refine Disk.z_call 46 126 rfl rfl (by kernel_rfl) (by rfl) (f := 17) (args := #[.agg #[.slice ha1 t.words.length hc1, .slice ha2 t.roots.length hc2, .int .i64 t.old, .int .i64 t.eden, .int .i64 t.surv, .bool t.flip, .int .i64 t.hash, .slice ha3 t.kept.length hc3]]) (w0 := wz6) (by go_simp) ?_
    refine (OB2 _ _ (rh.later hs)).mono ?_
    rintro e wz7 ⟨⟨ov, rfl, ho⟩, hbq⟩
    replace hs := bel_after hs hbq
    obtain ⟨oa2, oc2, rfl⟩ := own_shape ho
    clear ho
    clear hbq
    refine ⟨_, rfl, .inr hs, ?_⟩
    simp only [List.setIfInBounds_toArray, List.set_cons_zero, List.set_cons_succ]
    refine Disk.z_take 47 127 (v := .int .i64 (lt.length : Int)) rfl rfl (by kernel_rfl) (by kernel_rfl) (by kernel_rfl) (by kernel_rfl) (by rfl) hs (fun W' _ => (by
      go_simp; first | done | with_reducible rfl)) ?_
    simp only [List.setIfInBounds_toArray, List.set_cons_zero, List.set_cons_succ]
    refine Disk.z_take 48 128 (v := .int .i64 ((lt.length : Int) + 1)) rfl rfl (by kernel_rfl) (by kernel_rfl) (by kernel_rfl) (by kernel_rfl) (by rfl) hs (fun W' _ => (by
      go_simp; first | done | with_reducible rfl)) ?_
    simp only [List.setIfInBounds_toArray, List.set_cons_zero, List.set_cons_succ]
    refine Disk.z_take 49 129 (v := .bool true) rfl rfl (by kernel_rfl) (by kernel_rfl) (by kernel_rfl) (by kernel_rfl) (by rfl) hs (fun W' _ => (by
      go_simp; first | done | with_reducible rfl)) ?_
    simp only [List.setIfInBounds_toArray, List.set_cons_zero, List.set_cons_succ]
    refine Disk.z_take 50 130 (v := .bool true) rfl rfl (by kernel_rfl) (by kernel_rfl) (by kernel_rfl) (by kernel_rfl) (by rfl) hs (fun W' _ => (by
      go_simp; first | done | with_reducible rfl)) ?_
    simp only [List.setIfInBounds_toArray, List.set_cons_zero, List.set_cons_succ]
    refine Disk.z_take 51 2 (v := .bool true) rfl rfl (by kernel_rfl) (by kernel_rfl) (by kernel_rfl) (by kernel_rfl) (by rfl) hs (fun W' _ => (by
      go_simp; first | done | with_reducible rfl)) ?_
    simp only [List.setIfInBounds_toArray, List.set_cons_zero, List.set_cons_succ]
    refine Disk.z_done (by kernel_rfl) ?_ _
    have hbe := bel_after hbw hs
    clear hs
    go_wp2
    go_ret
    exact ⟨rfl, hbe⟩

end Go.Proofs.YtphkmgalgngjiaaGreat
