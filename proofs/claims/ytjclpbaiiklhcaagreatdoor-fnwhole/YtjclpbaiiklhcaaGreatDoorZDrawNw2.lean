/- A disk drawn for Newest: DrawNewest of the model. -/
import Derived.Test.YtjclpbaiiklhcaaGreatDoorZV21
import Derived.Test.YtjclpbaiiklhcaaGreatDoorZV17
namespace Go.Proofs.YtjclpbaiiklhcaaGreatDoor
open Go.RowKit

set_option maxRecDepth 100000 in
set_option maxHeartbeats 6400000 in
theorem drawNewest_any (cv : Value) (cs : List UInt8) (w : World) (hc : BR w cv cs) (hn : cs.length ≤ 4096) :
    Calls Tryz.prog 23 #[cv] w fun x w' => (∃ (u1 u2 : Value) (ss : List ByteArray) (ws : List Disk.Wr), x = .returned (.agg #[u1, u2]) ∧ Disk.SR w' u1 ss ∧ Disk.WR w' u2 ws ∧ ss.length ≤ 64 ∧ ws.length ≤ 300 ∧ Disk.CapS u1 ∧ Low w.heap.size u1 ∧ Low w.heap.size u2 ∧ (ss.length = 64 → ∀ i, i < 2 → DPt (textAt ss i))) ∧ Below w.heap.size w w' := by
  have hmx : Tryz.prog.follows .mixedOrders = true := by kernel_rfl
  have h0 := Disk.bel_one w (.cells #[.slice none 0 0, .slice none 0 0] 27)
  have NW := l1New_any cv cs (w.alloc (.cells #[.slice none 0 0, .slice none 0 0] 27)) (hc.later h0) hn
  have R0 := Bx.new w (.slice none 0 0) (.slice none 0 0)
  have z0 : (w.alloc (.cells #[.slice none 0 0, .slice none 0 0] 27)).heap.size = w.heap.size + 1 := by simp
  go_enter Tryz.func23, Tryz.ntmps23
  go_wp2_with fail
  refine NW.mono ?_
  rintro x w1 ⟨N, rfl, hN, hN1, hb1, d1⟩
  clear NW
  rw [z0] at hN
  go_wp2_with fail
  refine (d1.diskC hN1).mono ?_
  rintro x w2 ⟨⟨u1, u2, ss, ws, rfl, s1, s2, l1, l2, k6, o1, o2, cp, sz⟩, g2, d2⟩
  have IV : Hid (ss.length = 64 → ∀ i, i < 2 → Inv 0 (textAt ss i).data.toList) := fun e => (k6 e).2.2
  have hN2 : N < w2.heap.size := Nat.lt_of_lt_of_le hN1 g2.size
  have HB : Hid (Below w.heap.size w w1 ∧ w.heap.size ≤ N) := ⟨bel_after h0 hb1, by omega⟩
  have K0 : ∀ o : Obj, Nn w1 N w2.heap.size w.heap.size cv cs (w2.alloc o) u1 u2 ss ws ∨ True := fun _ => .inr trivial
  clear K0
  have mk : ∀ x1 x2, u1 = x1 → u2 = x2 → Nn w1 N w2.heap.size w.heap.size cv cs (w2.alloc (.cells #[x1, x2] 27)) u1 u2 ss ws := by
    rintro x1 x2 rfl rfl
    exact ⟨d1, d2.grown (galloc _ _ _) d2 (galloc _ _ none) (by simp) hN2, gtrans g2 (galloc _ _ _), Bx.new w2 _ _, ((R0.later hb1).grown g2 (fun e => by have := Option.some.inj e; omega)).grown (galloc _ _ none) (by simp), g2.size, hN1, by have := hb1.size; omega, by omega, sr_keep s1 o1 hN1 (galloc _ _ _), wr_keep s2 o2 hN1 (galloc _ _ _), o1, o2, l1, l2, cp, fun e i hi => dp_of (inv_le ((k6 e).2.2 i hi) 2), fun e => ⟨ns_off (k6 e).1 (galloc _ _ _) hN1, no_off (k6 e).2.1 (galloc _ _ _) hN1⟩⟩
  obtain ⟨a2, k2, e2, _⟩ := id s2
  by_cases h64 : ss.length = 64
  · skip
    obtain ⟨rb, rc, e1, _, _, _, _⟩ := (k6 h64).1.form (by omega)
    rw [h64] at e1
    have H0 := mk _ _ e1 e2
    subst e1
    subst e2
    have h6 : Hid (ss.length = 64) := h64
    have SZ : Hid (∀ s ∈ ss, s.size ≤ 257) := sz
    clear h64 mk s1 s2 k6 o1 o2 cp sz g2 d2 l1 l2 R0 h0 hb1 d1
    have ON := H0.dw.once 4 (by omega) (by omega)
    go_wp2_with fail
    refine ON.mono ?_
    rintro x w3 ⟨⟨b, rfl⟩, g3, d3⟩
    have H3 := H0.step g3 d3
    clear ON H0 g3 d3
    have m0 := H3.bx.c0
    have m1 := H3.bx.c1
    cases b
    · clear m0 m1
      have ON2 := H3.dw.once 12 (by omega) (by omega)
      go_wp2_with fail
      refine ON2.mono ?_
      rintro x w5 ⟨⟨b2, rfl⟩, g5, d5⟩
      have H5 := H3.step g5 d5
      clear ON2 g5 d5 H3
      have m0 := H5.bx.c0
      have m1 := H5.bx.c1
      cases b2
      · clear m0 m1
        have RT := H5.ret HB.out.1 (Nat.le_refl _) HB.out.2
        have p0 := RT.2.2.1.c0
        have p1 := RT.2.2.1.c1
        have y0 := H5.bx.c0
        have y1 := H5.bx.c1
        have o0 := H5.rs.c0
        have o1 := H5.rs.c1
        have of0 := H5.rs.f (o := 0)
        have of1 := H5.rs.f (o := 1)
        have FIN : Hid (_ ∧ _ ∧ _ ∧ _) := ⟨H5.l1, H5.l2, H5.cp, H5.fx⟩
        clear H5
        go_wp2
        exact bodyPost_ret (v := .agg #[.slice (some ⟨rb, 0, none⟩) 64 rc, .slice a2 ws.length k2]) (by simp [results, Tryz.results23, go_sem, p0, p1]) rfl ⟨⟨_, _, ss, ws, rfl, RT.1, RT.2.1, FIN.out.1, FIN.out.2.1, FIN.out.2.2.1, RT.2.2.2.2.1, RT.2.2.2.2.2, FIN.out.2.2.2⟩, RT.2.2.2.1⟩
      · go_wp2_with fail
        have H6 := H5.drew
        clear m0 m1 H5
        have hs0 := H6.bx.c0
        refine Disk.z_plain 99 (fun W' => W'.cell? ⟨w2.heap.size, 0, none⟩ = some (.slice (some ⟨rb, 0, none⟩) 64 rc)) hmx hs0 (fun hs => ?_)
        generalize w5.drew = w6 at *
        refine Disk.z_take 0 40 (v := .pointer (some ⟨w2.heap.size, 0, none⟩)) rfl rfl (by kernel_rfl) (by kernel_rfl) (by kernel_rfl) (by kernel_rfl) (by rfl) hs (fun W' hSw => (by go_simp; first | done | with_reducible rfl)) ?_
        simp only [List.setIfInBounds_toArray, List.set_cons_zero, List.set_cons_succ]
        refine Disk.z_take 1 41 (v := .slice (some ⟨rb, 0, none⟩) 64 rc) rfl rfl (by kernel_rfl) (by kernel_rfl) (by kernel_rfl) (by kernel_rfl) (by rfl) hs (fun W' hSw => (by go_simp; first | done | with_reducible rfl)) ?_
        simp only [List.setIfInBounds_toArray, List.set_cons_zero, List.set_cons_succ]
        refine Disk.z_take 2 42 (v := .pointer (some ⟨N, 0, none⟩)) rfl rfl (by kernel_rfl) (by kernel_rfl) (by kernel_rfl) (by kernel_rfl) (by rfl) hs (fun W' hSw => (by go_simp; first | done | with_reducible rfl)) ?_
        simp only [List.setIfInBounds_toArray, List.set_cons_zero, List.set_cons_succ]
        refine z_or (i := 3) (j := 4) (by kernel_rfl) ?_ ?_
        · skip
          refine o_call 3 43 rfl rfl (by rfl) (f := 33) (args := #[.pointer (some ⟨N, 0, none⟩), .int .i64 2]) (w0 := w6) (by go_simp; first | done | with_reducible rfl) ?_
          refine (H6.dw.below 2 (by omega) (by omega)).mono ?_
          rintro x w7 ⟨⟨z, rfl, z0, z1⟩, g7, d7⟩
          obtain ⟨zn, rfl⟩ := Int.eq_ofNat_of_zero_le z0
          have H7 := H6.step g7 d7
          refine ⟨_, rfl, .inr H7.bx.c0, ?_⟩
          simp only [List.setIfInBounds_toArray, List.set_cons_zero, List.set_cons_succ]
          have H8 := H7.al (.cells #[] 2)
          have E8 : IR (w7.alloc (.cells #[] 2)) (.slice (some ⟨w7.heap.size, 0, none⟩) 0 0) [] := ⟨_, 0, rfl, Nat.le_refl _, fun i hi => by simp at hi⟩
          refine Disk.z_run 4 44 (v := .slice (some ⟨w7.heap.size, 0, none⟩) 0 0) rfl rfl (by kernel_rfl) (by rfl) (by go_simp; first | done | with_reducible rfl) (.inr H8.bx.c0) ?_
          simp only [List.setIfInBounds_toArray, List.set_cons_zero, List.set_cons_succ]
          refine Disk.z_call 5 45 rfl rfl (by kernel_rfl) (by rfl) (f := 21) (args := #[.int .i64 999999999, .slice (some ⟨w7.heap.size, 0, none⟩) 0 0]) (w0 := (w7.alloc (.cells #[] 2))) (by go_simp; first | done | with_reducible rfl) ?_
          refine (specSuper_any 999999999 (.slice (some ⟨w7.heap.size, 0, none⟩) 0 0) [] (w7.alloc (.cells #[] 2)) E8 (by simp)).mono ?_
          rintro x w8 ⟨rfl, hb8⟩
          have H9 := H8.below hb8
          clear H8 hb8
          refine ⟨_, rfl, .inr H9.bx.c0, ?_⟩
          simp only [List.setIfInBounds_toArray, List.set_cons_zero, List.set_cons_succ]
          have HT : Hid (DPt (supT 999999999 [])) := dp_great
          generalize supT 999999999 [] = tx at *
          generalize supOk 999999999 [] = kx at *
          have hs9 := H9.bx.c0
          refine Disk.z_run 6 39 (v := .tuple #[.string tx, .bool kx]) rfl rfl (by kernel_rfl) (by rfl) (by go_simp; first | done | with_reducible rfl) (.inr hs9) ?_
          simp only [List.setIfInBounds_toArray, List.set_cons_zero, List.set_cons_succ]
          refine Disk.z_take 7 46 (v := .string tx) rfl rfl (by kernel_rfl) (by kernel_rfl) (by kernel_rfl) (by kernel_rfl) (by rfl) hs9 (fun W' hSw => (by go_simp; first | done | with_reducible rfl)) ?_
          simp only [List.setIfInBounds_toArray, List.set_cons_zero, List.set_cons_succ]
          refine Disk.z_take 8 47 (v := .bool kx) rfl rfl (by kernel_rfl) (by kernel_rfl) (by kernel_rfl) (by kernel_rfl) (by rfl) hs9 (fun W' hSw => (by go_simp; first | done | with_reducible rfl)) ?_
          simp only [List.setIfInBounds_toArray, List.set_cons_zero, List.set_cons_succ]
          have k1' : decide ((zn : Int) < 64) = true := by simp; omega
          have k2' : (0 : Int) ≤ (zn : Int) := by omega
          have k3' : (zn : Int) < 64 := by omega
          have k4' : zn < 64 := by omega
          refine H9.sector h6.out (i := zn) k4' ?_
          intro sx hsx hsy cx fx
          have HA := H9.store h6.out (i := zn) (by rw [h6.out]; exact k4') tx (fun _ => HT.out)
          have hsA := HA.bx.c0
          clear hsx hsy
          refine Disk.z_run 9 48 (v := .pointer (some ⟨rb, zn, none⟩)) rfl rfl (by kernel_rfl) (by rfl) (by go_simp; first | done | with_reducible rfl) (.inr hs9) ?_
          simp only [List.setIfInBounds_toArray, List.set_cons_zero, List.set_cons_succ]
          refine Disk.z_skip 10 rfl rfl (by kernel_rfl) (by rfl) (by go_simp; first | done | with_reducible rfl) (.inr hsA) ?_
          refine Disk.z_done (by kernel_rfl) ?_ _
          clear H9 hs9 cx fx k1' k2' k3' k4' hsA hs0
          have RT := HA.ret HB.out.1 (Nat.le_refl _) HB.out.2
          have p0 := RT.2.2.1.c0
          have p1 := RT.2.2.1.c1
          have y0 := HA.bx.c0
          have y1 := HA.bx.c1
          have o0 := HA.rs.c0
          have o1 := HA.rs.c1
          have of0 := HA.rs.f (o := 0)
          have of1 := HA.rs.f (o := 1)
          have FIN : Hid (_ ∧ _ ∧ _ ∧ _) := ⟨HA.l1, HA.l2, HA.cp, HA.fx⟩
          clear HA
          go_wp2
          exact bodyPost_ret (v := .agg #[.slice (some ⟨rb, 0, none⟩) 64 rc, .slice a2 ws.length k2]) (by simp [results, Tryz.results23, go_sem, p0, p1]) rfl ⟨⟨_, _, (ss.set zn tx), ws, rfl, RT.1, RT.2.1, FIN.out.1, FIN.out.2.1, FIN.out.2.2.1, RT.2.2.2.2.1, RT.2.2.2.2.2, FIN.out.2.2.2⟩, RT.2.2.2.1⟩
        · skip
          have H61 := H6.al (.cells #[] 2)
          have E60 : IR (w6.alloc (.cells #[] 2)) (.slice (some ⟨w6.heap.size, 0, none⟩) 0 0) [] := ⟨_, 0, rfl, Nat.le_refl _, fun i hi => by simp at hi⟩
          refine o_run 4 44 (v := .slice (some ⟨w6.heap.size, 0, none⟩) 0 0) rfl rfl (by rfl) (by go_simp; first | done | with_reducible rfl) (.inr H61.bx.c0) ?_
          simp only [List.setIfInBounds_toArray, List.set_cons_zero, List.set_cons_succ]
          refine Disk.z_call 3 43 rfl rfl (by kernel_rfl) (by rfl) (f := 33) (args := #[.pointer (some ⟨N, 0, none⟩), .int .i64 2]) (w0 := (w6.alloc (.cells #[] 2))) (by go_simp; first | done | with_reducible rfl) ?_
          refine (H61.dw.below 2 (by omega) (by omega)).mono ?_
          rintro x w7 ⟨⟨z, rfl, z0, z1⟩, g7, d7⟩
          obtain ⟨zn, rfl⟩ := Int.eq_ofNat_of_zero_le z0
          have H8 := H61.step g7 d7
          refine ⟨_, rfl, .inr H8.bx.c0, ?_⟩
          simp only [List.setIfInBounds_toArray, List.set_cons_zero, List.set_cons_succ]
          have E8 : IR w7 (.slice (some ⟨w6.heap.size, 0, none⟩) 0 0) [] := ⟨_, 0, rfl, Nat.le_refl _, fun i hi => by simp at hi⟩
          refine Disk.z_call 5 45 rfl rfl (by kernel_rfl) (by rfl) (f := 21) (args := #[.int .i64 999999999, .slice (some ⟨w6.heap.size, 0, none⟩) 0 0]) (w0 := w7) (by go_simp; first | done | with_reducible rfl) ?_
          refine (specSuper_any 999999999 (.slice (some ⟨w6.heap.size, 0, none⟩) 0 0) [] w7 E8 (by simp)).mono ?_
          rintro x w8 ⟨rfl, hb8⟩
          have H9 := H8.below hb8
          clear H8 hb8
          refine ⟨_, rfl, .inr H9.bx.c0, ?_⟩
          simp only [List.setIfInBounds_toArray, List.set_cons_zero, List.set_cons_succ]
          have HT : Hid (DPt (supT 999999999 [])) := dp_great
          generalize supT 999999999 [] = tx at *
          generalize supOk 999999999 [] = kx at *
          have hs9 := H9.bx.c0
          refine Disk.z_run 6 39 (v := .tuple #[.string tx, .bool kx]) rfl rfl (by kernel_rfl) (by rfl) (by go_simp; first | done | with_reducible rfl) (.inr hs9) ?_
          simp only [List.setIfInBounds_toArray, List.set_cons_zero, List.set_cons_succ]
          refine Disk.z_take 7 46 (v := .string tx) rfl rfl (by kernel_rfl) (by kernel_rfl) (by kernel_rfl) (by kernel_rfl) (by rfl) hs9 (fun W' hSw => (by go_simp; first | done | with_reducible rfl)) ?_
          simp only [List.setIfInBounds_toArray, List.set_cons_zero, List.set_cons_succ]
          refine Disk.z_take 8 47 (v := .bool kx) rfl rfl (by kernel_rfl) (by kernel_rfl) (by kernel_rfl) (by kernel_rfl) (by rfl) hs9 (fun W' hSw => (by go_simp; first | done | with_reducible rfl)) ?_
          simp only [List.setIfInBounds_toArray, List.set_cons_zero, List.set_cons_succ]
          have k1' : decide ((zn : Int) < 64) = true := by simp; omega
          have k2' : (0 : Int) ≤ (zn : Int) := by omega
          have k3' : (zn : Int) < 64 := by omega
          have k4' : zn < 64 := by omega
          refine H9.sector h6.out (i := zn) k4' ?_
          intro sx hsx hsy cx fx
          have HA := H9.store h6.out (i := zn) (by rw [h6.out]; exact k4') tx (fun _ => HT.out)
          have hsA := HA.bx.c0
          clear hsx hsy
          refine Disk.z_run 9 48 (v := .pointer (some ⟨rb, zn, none⟩)) rfl rfl (by kernel_rfl) (by rfl) (by go_simp; first | done | with_reducible rfl) (.inr hs9) ?_
          simp only [List.setIfInBounds_toArray, List.set_cons_zero, List.set_cons_succ]
          refine Disk.z_skip 10 rfl rfl (by kernel_rfl) (by rfl) (by go_simp; first | done | with_reducible rfl) (.inr hsA) ?_
          refine Disk.z_done (by kernel_rfl) ?_ _
          clear H9 hs9 cx fx k1' k2' k3' k4' hsA hs0
          have RT := HA.ret HB.out.1 (Nat.le_refl _) HB.out.2
          have p0 := RT.2.2.1.c0
          have p1 := RT.2.2.1.c1
          have y0 := HA.bx.c0
          have y1 := HA.bx.c1
          have o0 := HA.rs.c0
          have o1 := HA.rs.c1
          have of0 := HA.rs.f (o := 0)
          have of1 := HA.rs.f (o := 1)
          have FIN : Hid (_ ∧ _ ∧ _ ∧ _) := ⟨HA.l1, HA.l2, HA.cp, HA.fx⟩
          clear HA
          go_wp2
          exact bodyPost_ret (v := .agg #[.slice (some ⟨rb, 0, none⟩) 64 rc, .slice a2 ws.length k2]) (by simp [results, Tryz.results23, go_sem, p0, p1]) rfl ⟨⟨_, _, (ss.set zn tx), ws, rfl, RT.1, RT.2.1, FIN.out.1, FIN.out.2.1, FIN.out.2.2.1, RT.2.2.2.2.1, RT.2.2.2.2.2, FIN.out.2.2.2⟩, RT.2.2.2.1⟩
    · have BL := H3.dw.below 4 (by omega) (by omega)
      go_wp2_with fail
      refine BL.mono ?_
      rintro x w4 ⟨⟨k, rfl, k0, k1⟩, g4, d4⟩
      obtain ⟨kn, rfl⟩ := Int.eq_ofNat_of_zero_le k0
      have H4 := (H3.step g4 d4).drew
      clear BL H3 m0 m1 g4 d4
      have j1 : decide ((kn : Int) < 64) = true := by simp; omega
      have j2 : (0 : Int) ≤ (kn : Int) := by omega
      have j3 : (kn : Int) < 64 := by omega
      have j4 : kn < 64 := by omega
      refine H4.sector h6.out (i := kn) j4 ?_
      intro s0 hs0' hs0y c0 f0
      have IE : Hid (kn < 2 → Inv 0 s0.data.toList) := fun h => by rw [hs0y]; exact IV.out h6.out kn h
      clear hs0y
      have hs0 : s0.size ≤ 257 := SZ.out s0 hs0'
      clear hs0'
      have hc0 := H4.bx.c0
      go_wp2_with fail
      refine Disk.z_plain 11 (fun W' => W'.cell? ⟨w2.heap.size, 0, none⟩ = some (.slice (some ⟨rb, 0, none⟩) 64 rc) ∧ W'.cell? ⟨rb, kn, none⟩ = some (.string s0)) hmx ⟨hc0, c0⟩ (fun hs => ?_)
      generalize w4.drew = w4d at *
      refine Disk.z_take 0 20 (v := .pointer (some ⟨w2.heap.size, 0, none⟩)) rfl rfl (by kernel_rfl) (by kernel_rfl) (by kernel_rfl) (by kernel_rfl) (by rfl) hs (fun W' hSw => (by go_simp; first | done | with_reducible rfl)) ?_
      simp only [List.setIfInBounds_toArray, List.set_cons_zero, List.set_cons_succ]
      refine Disk.z_take 1 21 (v := .slice (some ⟨rb, 0, none⟩) 64 rc) rfl rfl (by kernel_rfl) (by kernel_rfl) (by kernel_rfl) (by kernel_rfl) (by rfl) hs (fun W' hSw => (by have q1 := hSw.1; have q2 := hSw.2; go_simp; first | done | with_reducible rfl)) ?_
      simp only [List.setIfInBounds_toArray, List.set_cons_zero, List.set_cons_succ]
      refine Disk.z_take 2 22 (v := .int .i64 (kn : Int)) rfl rfl (by kernel_rfl) (by kernel_rfl) (by kernel_rfl) (by kernel_rfl) (by rfl) hs (fun W' hSw => (by go_simp; first | done | with_reducible rfl)) ?_
      simp only [List.setIfInBounds_toArray, List.set_cons_zero, List.set_cons_succ]
      refine Disk.z_take 3 23 (v := .pointer (some ⟨N, 0, none⟩)) rfl rfl (by kernel_rfl) (by kernel_rfl) (by kernel_rfl) (by kernel_rfl) (by rfl) hs (fun W' hSw => (by go_simp; first | done | with_reducible rfl)) ?_
      simp only [List.setIfInBounds_toArray, List.set_cons_zero, List.set_cons_succ]
      refine Disk.z_take 4 24 (v := .pointer (some ⟨w2.heap.size, 0, none⟩)) rfl rfl (by kernel_rfl) (by kernel_rfl) (by kernel_rfl) (by kernel_rfl) (by rfl) hs (fun W' hSw => (by go_simp; first | done | with_reducible rfl)) ?_
      simp only [List.setIfInBounds_toArray, List.set_cons_zero, List.set_cons_succ]
      refine Disk.z_take 5 25 (v := .slice (some ⟨rb, 0, none⟩) 64 rc) rfl rfl (by kernel_rfl) (by kernel_rfl) (by kernel_rfl) (by kernel_rfl) (by rfl) hs (fun W' hSw => (by have q1 := hSw.1; have q2 := hSw.2; go_simp; first | done | with_reducible rfl)) ?_
      simp only [List.setIfInBounds_toArray, List.set_cons_zero, List.set_cons_succ]
      refine Disk.z_take 6 26 (v := .int .i64 (kn : Int)) rfl rfl (by kernel_rfl) (by kernel_rfl) (by kernel_rfl) (by kernel_rfl) (by rfl) hs (fun W' hSw => (by go_simp; first | done | with_reducible rfl)) ?_
      simp only [List.setIfInBounds_toArray, List.set_cons_zero, List.set_cons_succ]
      refine Disk.z_take 7 27 (v := .pointer (some ⟨rb, kn, none⟩)) rfl rfl (by kernel_rfl) (by kernel_rfl) (by kernel_rfl) (by kernel_rfl) (by rfl) hs (fun W' hSw => (by have q1 := hSw.1; have q2 := hSw.2; go_simp; first | done | with_reducible rfl)) ?_
      simp only [List.setIfInBounds_toArray, List.set_cons_zero, List.set_cons_succ]
      refine Disk.z_take 8 28 (v := .string s0) rfl rfl (by kernel_rfl) (by kernel_rfl) (by kernel_rfl) (by kernel_rfl) (by rfl) hs (fun W' hSw => (by have q1 := hSw.1; have q2 := hSw.2; go_simp; first | done | with_reducible rfl)) ?_
      simp only [List.setIfInBounds_toArray, List.set_cons_zero, List.set_cons_succ]
      refine Disk.z_call 9 29 rfl rfl (by kernel_rfl) (by rfl) (f := 49) (args := #[.pointer (some ⟨N, 0, none⟩), .string s0, .string ⟨#[83, 80, 48, 49, 50, 51, 59, 120]⟩]) (w0 := w4d) (by go_simp; first | done | with_reducible rfl) ?_
      refine (H4.dw.bendI H4.nlt s0 ⟨#[83, 80, 48, 49, 50, 51, 59, 120]⟩ (by omega) (by decide) (by decide) (fun j l => kn < 2 → Inv j l) (fun j l l' he hi h => edit_step he (hi h)) IE.out).mono ?_
      rintro x w5 ⟨⟨tb, rfl, htb, hib⟩, g5, d5⟩
      have ID : Hid (kn < 2 → DPt tb) := fun h => dp_of (hib h)
      clear hib
      have H5 := H4.step g5 d5
      refine H5.sector h6.out (i := kn) j4 ?_
      intro s5 hs5 hs5y c5 f5
      refine ⟨_, rfl, .inr ⟨H5.bx.c0, ?_⟩, ?_⟩
      · exact (g5.cell c0 (fun e => by have e2 : rb = N := Option.some.inj e; exact absurd e2 (H4.rbN h6.out)))
      simp only [List.setIfInBounds_toArray, List.set_cons_zero, List.set_cons_succ]
      have hs5' : w5.cell? ⟨w2.heap.size, 0, none⟩ = some (.slice (some ⟨rb, 0, none⟩) 64 rc) ∧ w5.cell? ⟨rb, kn, none⟩ = some (.string s0) := ⟨H5.bx.c0, g5.cell c0 (fun e => by have e2 : rb = N := Option.some.inj e; exact absurd e2 (H4.rbN h6.out))⟩
      have HS := H5.store h6.out (i := kn) (by rw [h6.out]; exact j4) tb ID.out
      clear H4 H5 g5 d5 hs c0 f0 hc0 hs5 hs5y hs0 htb
      refine Disk.z_run 10 30 (v := .pointer (some ⟨rb, kn, none⟩)) rfl rfl (by kernel_rfl) (by rfl) (by go_simp; first | done | with_reducible rfl) (.inr hs5') ?_
      simp only [List.setIfInBounds_toArray, List.set_cons_zero, List.set_cons_succ]
      refine Disk.z_skip 11 rfl rfl (by kernel_rfl) (by rfl) (by go_simp; first | done | with_reducible rfl) (.inl rfl) ?_
      refine Disk.z_done (by kernel_rfl) ?_ _
      clear c5 f5 hs5' j1 j2 j3 j4
      have h6 : Hid ((ss.set kn tb).length = 64) := (by rw [List.length_set]; exact h6.out : (ss.set kn tb).length = 64)
      clear SZ IV
      generalize ss.set kn tb = st at *
      have ON2 := HS.dw.once 12 (by omega) (by omega)
      go_wp2_with fail
      refine ON2.mono ?_
      rintro x w5 ⟨⟨b2, rfl⟩, g5, d5⟩
      have H5 := HS.step g5 d5
      clear ON2 g5 d5 HS
      have m0 := H5.bx.c0
      have m1 := H5.bx.c1
      cases b2
      · clear m0 m1
        have RT := H5.ret HB.out.1 (Nat.le_refl _) HB.out.2
        have p0 := RT.2.2.1.c0
        have p1 := RT.2.2.1.c1
        have y0 := H5.bx.c0
        have y1 := H5.bx.c1
        have o0 := H5.rs.c0
        have o1 := H5.rs.c1
        have of0 := H5.rs.f (o := 0)
        have of1 := H5.rs.f (o := 1)
        have FIN : Hid (_ ∧ _ ∧ _ ∧ _) := ⟨H5.l1, H5.l2, H5.cp, H5.fx⟩
        clear H5
        go_wp2
        exact bodyPost_ret (v := .agg #[.slice (some ⟨rb, 0, none⟩) 64 rc, .slice a2 ws.length k2]) (by simp [results, Tryz.results23, go_sem, p0, p1]) rfl ⟨⟨_, _, st, ws, rfl, RT.1, RT.2.1, FIN.out.1, FIN.out.2.1, FIN.out.2.2.1, RT.2.2.2.2.1, RT.2.2.2.2.2, FIN.out.2.2.2⟩, RT.2.2.2.1⟩
      · go_wp2_with fail
        have H6 := H5.drew
        clear m0 m1 H5
        have hs0 := H6.bx.c0
        refine Disk.z_plain 99 (fun W' => W'.cell? ⟨w2.heap.size, 0, none⟩ = some (.slice (some ⟨rb, 0, none⟩) 64 rc)) hmx hs0 (fun hs => ?_)
        generalize w5.drew = w6 at *
        refine Disk.z_take 0 40 (v := .pointer (some ⟨w2.heap.size, 0, none⟩)) rfl rfl (by kernel_rfl) (by kernel_rfl) (by kernel_rfl) (by kernel_rfl) (by rfl) hs (fun W' hSw => (by go_simp; first | done | with_reducible rfl)) ?_
        simp only [List.setIfInBounds_toArray, List.set_cons_zero, List.set_cons_succ]
        refine Disk.z_take 1 41 (v := .slice (some ⟨rb, 0, none⟩) 64 rc) rfl rfl (by kernel_rfl) (by kernel_rfl) (by kernel_rfl) (by kernel_rfl) (by rfl) hs (fun W' hSw => (by go_simp; first | done | with_reducible rfl)) ?_
        simp only [List.setIfInBounds_toArray, List.set_cons_zero, List.set_cons_succ]
        refine Disk.z_take 2 42 (v := .pointer (some ⟨N, 0, none⟩)) rfl rfl (by kernel_rfl) (by kernel_rfl) (by kernel_rfl) (by kernel_rfl) (by rfl) hs (fun W' hSw => (by go_simp; first | done | with_reducible rfl)) ?_
        simp only [List.setIfInBounds_toArray, List.set_cons_zero, List.set_cons_succ]
        refine z_or (i := 3) (j := 4) (by kernel_rfl) ?_ ?_
        · skip
          refine o_call 3 43 rfl rfl (by rfl) (f := 33) (args := #[.pointer (some ⟨N, 0, none⟩), .int .i64 2]) (w0 := w6) (by go_simp; first | done | with_reducible rfl) ?_
          refine (H6.dw.below 2 (by omega) (by omega)).mono ?_
          rintro x w7 ⟨⟨z, rfl, z0, z1⟩, g7, d7⟩
          obtain ⟨zn, rfl⟩ := Int.eq_ofNat_of_zero_le z0
          have H7 := H6.step g7 d7
          refine ⟨_, rfl, .inr H7.bx.c0, ?_⟩
          simp only [List.setIfInBounds_toArray, List.set_cons_zero, List.set_cons_succ]
          have H8 := H7.al (.cells #[] 2)
          have E8 : IR (w7.alloc (.cells #[] 2)) (.slice (some ⟨w7.heap.size, 0, none⟩) 0 0) [] := ⟨_, 0, rfl, Nat.le_refl _, fun i hi => by simp at hi⟩
          refine Disk.z_run 4 44 (v := .slice (some ⟨w7.heap.size, 0, none⟩) 0 0) rfl rfl (by kernel_rfl) (by rfl) (by go_simp; first | done | with_reducible rfl) (.inr H8.bx.c0) ?_
          simp only [List.setIfInBounds_toArray, List.set_cons_zero, List.set_cons_succ]
          refine Disk.z_call 5 45 rfl rfl (by kernel_rfl) (by rfl) (f := 21) (args := #[.int .i64 999999999, .slice (some ⟨w7.heap.size, 0, none⟩) 0 0]) (w0 := (w7.alloc (.cells #[] 2))) (by go_simp; first | done | with_reducible rfl) ?_
          refine (specSuper_any 999999999 (.slice (some ⟨w7.heap.size, 0, none⟩) 0 0) [] (w7.alloc (.cells #[] 2)) E8 (by simp)).mono ?_
          rintro x w8 ⟨rfl, hb8⟩
          have H9 := H8.below hb8
          clear H8 hb8
          refine ⟨_, rfl, .inr H9.bx.c0, ?_⟩
          simp only [List.setIfInBounds_toArray, List.set_cons_zero, List.set_cons_succ]
          have HT : Hid (DPt (supT 999999999 [])) := dp_great
          generalize supT 999999999 [] = tx at *
          generalize supOk 999999999 [] = kx at *
          have hs9 := H9.bx.c0
          refine Disk.z_run 6 39 (v := .tuple #[.string tx, .bool kx]) rfl rfl (by kernel_rfl) (by rfl) (by go_simp; first | done | with_reducible rfl) (.inr hs9) ?_
          simp only [List.setIfInBounds_toArray, List.set_cons_zero, List.set_cons_succ]
          refine Disk.z_take 7 46 (v := .string tx) rfl rfl (by kernel_rfl) (by kernel_rfl) (by kernel_rfl) (by kernel_rfl) (by rfl) hs9 (fun W' hSw => (by go_simp; first | done | with_reducible rfl)) ?_
          simp only [List.setIfInBounds_toArray, List.set_cons_zero, List.set_cons_succ]
          refine Disk.z_take 8 47 (v := .bool kx) rfl rfl (by kernel_rfl) (by kernel_rfl) (by kernel_rfl) (by kernel_rfl) (by rfl) hs9 (fun W' hSw => (by go_simp; first | done | with_reducible rfl)) ?_
          simp only [List.setIfInBounds_toArray, List.set_cons_zero, List.set_cons_succ]
          have k1' : decide ((zn : Int) < 64) = true := by simp; omega
          have k2' : (0 : Int) ≤ (zn : Int) := by omega
          have k3' : (zn : Int) < 64 := by omega
          have k4' : zn < 64 := by omega
          refine H9.sector h6.out (i := zn) k4' ?_
          intro sx hsx hsy cx fx
          have HA := H9.store h6.out (i := zn) (by rw [h6.out]; exact k4') tx (fun _ => HT.out)
          have hsA := HA.bx.c0
          clear hsx hsy
          refine Disk.z_run 9 48 (v := .pointer (some ⟨rb, zn, none⟩)) rfl rfl (by kernel_rfl) (by rfl) (by go_simp; first | done | with_reducible rfl) (.inr hs9) ?_
          simp only [List.setIfInBounds_toArray, List.set_cons_zero, List.set_cons_succ]
          refine Disk.z_skip 10 rfl rfl (by kernel_rfl) (by rfl) (by go_simp; first | done | with_reducible rfl) (.inr hsA) ?_
          refine Disk.z_done (by kernel_rfl) ?_ _
          clear H9 hs9 cx fx k1' k2' k3' k4' hsA hs0
          have RT := HA.ret HB.out.1 (Nat.le_refl _) HB.out.2
          have p0 := RT.2.2.1.c0
          have p1 := RT.2.2.1.c1
          have y0 := HA.bx.c0
          have y1 := HA.bx.c1
          have o0 := HA.rs.c0
          have o1 := HA.rs.c1
          have of0 := HA.rs.f (o := 0)
          have of1 := HA.rs.f (o := 1)
          have FIN : Hid (_ ∧ _ ∧ _ ∧ _) := ⟨HA.l1, HA.l2, HA.cp, HA.fx⟩
          clear HA
          go_wp2
          exact bodyPost_ret (v := .agg #[.slice (some ⟨rb, 0, none⟩) 64 rc, .slice a2 ws.length k2]) (by simp [results, Tryz.results23, go_sem, p0, p1]) rfl ⟨⟨_, _, (st.set zn tx), ws, rfl, RT.1, RT.2.1, FIN.out.1, FIN.out.2.1, FIN.out.2.2.1, RT.2.2.2.2.1, RT.2.2.2.2.2, FIN.out.2.2.2⟩, RT.2.2.2.1⟩
        · skip
          have H61 := H6.al (.cells #[] 2)
          have E60 : IR (w6.alloc (.cells #[] 2)) (.slice (some ⟨w6.heap.size, 0, none⟩) 0 0) [] := ⟨_, 0, rfl, Nat.le_refl _, fun i hi => by simp at hi⟩
          refine o_run 4 44 (v := .slice (some ⟨w6.heap.size, 0, none⟩) 0 0) rfl rfl (by rfl) (by go_simp; first | done | with_reducible rfl) (.inr H61.bx.c0) ?_
          simp only [List.setIfInBounds_toArray, List.set_cons_zero, List.set_cons_succ]
          refine Disk.z_call 3 43 rfl rfl (by kernel_rfl) (by rfl) (f := 33) (args := #[.pointer (some ⟨N, 0, none⟩), .int .i64 2]) (w0 := (w6.alloc (.cells #[] 2))) (by go_simp; first | done | with_reducible rfl) ?_
          refine (H61.dw.below 2 (by omega) (by omega)).mono ?_
          rintro x w7 ⟨⟨z, rfl, z0, z1⟩, g7, d7⟩
          obtain ⟨zn, rfl⟩ := Int.eq_ofNat_of_zero_le z0
          have H8 := H61.step g7 d7
          refine ⟨_, rfl, .inr H8.bx.c0, ?_⟩
          simp only [List.setIfInBounds_toArray, List.set_cons_zero, List.set_cons_succ]
          have E8 : IR w7 (.slice (some ⟨w6.heap.size, 0, none⟩) 0 0) [] := ⟨_, 0, rfl, Nat.le_refl _, fun i hi => by simp at hi⟩
          refine Disk.z_call 5 45 rfl rfl (by kernel_rfl) (by rfl) (f := 21) (args := #[.int .i64 999999999, .slice (some ⟨w6.heap.size, 0, none⟩) 0 0]) (w0 := w7) (by go_simp; first | done | with_reducible rfl) ?_
          refine (specSuper_any 999999999 (.slice (some ⟨w6.heap.size, 0, none⟩) 0 0) [] w7 E8 (by simp)).mono ?_
          rintro x w8 ⟨rfl, hb8⟩
          have H9 := H8.below hb8
          clear H8 hb8
          refine ⟨_, rfl, .inr H9.bx.c0, ?_⟩
          simp only [List.setIfInBounds_toArray, List.set_cons_zero, List.set_cons_succ]
          have HT : Hid (DPt (supT 999999999 [])) := dp_great
          generalize supT 999999999 [] = tx at *
          generalize supOk 999999999 [] = kx at *
          have hs9 := H9.bx.c0
          refine Disk.z_run 6 39 (v := .tuple #[.string tx, .bool kx]) rfl rfl (by kernel_rfl) (by rfl) (by go_simp; first | done | with_reducible rfl) (.inr hs9) ?_
          simp only [List.setIfInBounds_toArray, List.set_cons_zero, List.set_cons_succ]
          refine Disk.z_take 7 46 (v := .string tx) rfl rfl (by kernel_rfl) (by kernel_rfl) (by kernel_rfl) (by kernel_rfl) (by rfl) hs9 (fun W' hSw => (by go_simp; first | done | with_reducible rfl)) ?_
          simp only [List.setIfInBounds_toArray, List.set_cons_zero, List.set_cons_succ]
          refine Disk.z_take 8 47 (v := .bool kx) rfl rfl (by kernel_rfl) (by kernel_rfl) (by kernel_rfl) (by kernel_rfl) (by rfl) hs9 (fun W' hSw => (by go_simp; first | done | with_reducible rfl)) ?_
          simp only [List.setIfInBounds_toArray, List.set_cons_zero, List.set_cons_succ]
          have k1' : decide ((zn : Int) < 64) = true := by simp; omega
          have k2' : (0 : Int) ≤ (zn : Int) := by omega
          have k3' : (zn : Int) < 64 := by omega
          have k4' : zn < 64 := by omega
          refine H9.sector h6.out (i := zn) k4' ?_
          intro sx hsx hsy cx fx
          have HA := H9.store h6.out (i := zn) (by rw [h6.out]; exact k4') tx (fun _ => HT.out)
          have hsA := HA.bx.c0
          clear hsx hsy
          refine Disk.z_run 9 48 (v := .pointer (some ⟨rb, zn, none⟩)) rfl rfl (by kernel_rfl) (by rfl) (by go_simp; first | done | with_reducible rfl) (.inr hs9) ?_
          simp only [List.setIfInBounds_toArray, List.set_cons_zero, List.set_cons_succ]
          refine Disk.z_skip 10 rfl rfl (by kernel_rfl) (by rfl) (by go_simp; first | done | with_reducible rfl) (.inr hsA) ?_
          refine Disk.z_done (by kernel_rfl) ?_ _
          clear H9 hs9 cx fx k1' k2' k3' k4' hsA hs0
          have RT := HA.ret HB.out.1 (Nat.le_refl _) HB.out.2
          have p0 := RT.2.2.1.c0
          have p1 := RT.2.2.1.c1
          have y0 := HA.bx.c0
          have y1 := HA.bx.c1
          have o0 := HA.rs.c0
          have o1 := HA.rs.c1
          have of0 := HA.rs.f (o := 0)
          have of1 := HA.rs.f (o := 1)
          have FIN : Hid (_ ∧ _ ∧ _ ∧ _) := ⟨HA.l1, HA.l2, HA.cp, HA.fx⟩
          clear HA
          go_wp2
          exact bodyPost_ret (v := .agg #[.slice (some ⟨rb, 0, none⟩) 64 rc, .slice a2 ws.length k2]) (by simp [results, Tryz.results23, go_sem, p0, p1]) rfl ⟨⟨_, _, (st.set zn tx), ws, rfl, RT.1, RT.2.1, FIN.out.1, FIN.out.2.1, FIN.out.2.2.1, RT.2.2.2.2.1, RT.2.2.2.2.2, FIN.out.2.2.2⟩, RT.2.2.2.1⟩
  · skip
    obtain ⟨a1, k1, e1, _⟩ := id s1
    have H0 := mk _ _ e1 e2
    subst e1
    subst e2
    have n1 : decide ((ss.length : Int) = 64) = false := by simp; omega
    have n2 : ((ss.length : Int) == 64) = false := by simp; omega
    have SZ : Hid (∀ s ∈ ss, s.size ≤ 257) := sz
    clear h64 mk s1 s2 k6 o1 o2 cp sz g2 d2 l1 l2 R0 h0 hb1 d1
    have ON := H0.dw.once 4 (by omega) (by omega)
    go_wp2_with fail
    refine ON.mono ?_
    rintro x w3 ⟨⟨b, rfl⟩, g3, d3⟩
    have H3 := H0.step g3 d3
    clear ON H0 g3 d3
    have m0 := H3.bx.c0
    have m1 := H3.bx.c1
    cases b
    · clear m0 m1
      have ON2 := H3.dw.once 12 (by omega) (by omega)
      go_wp2_with fail
      refine ON2.mono ?_
      rintro x w5 ⟨⟨b2, rfl⟩, g5, d5⟩
      have H5 := H3.step g5 d5
      clear ON2 g5 d5 H3
      have m0 := H5.bx.c0
      have m1 := H5.bx.c1
      cases b2
      · clear m0 m1
        have RT := H5.ret HB.out.1 (Nat.le_refl _) HB.out.2
        have p0 := RT.2.2.1.c0
        have p1 := RT.2.2.1.c1
        have y0 := H5.bx.c0
        have y1 := H5.bx.c1
        have o0 := H5.rs.c0
        have o1 := H5.rs.c1
        have of0 := H5.rs.f (o := 0)
        have of1 := H5.rs.f (o := 1)
        have FIN : Hid (_ ∧ _ ∧ _ ∧ _) := ⟨H5.l1, H5.l2, H5.cp, H5.fx⟩
        clear H5
        go_wp2
        exact bodyPost_ret (v := .agg #[.slice a1 ss.length k1, .slice a2 ws.length k2]) (by simp [results, Tryz.results23, go_sem, p0, p1]) rfl ⟨⟨_, _, ss, ws, rfl, RT.1, RT.2.1, FIN.out.1, FIN.out.2.1, FIN.out.2.2.1, RT.2.2.2.2.1, RT.2.2.2.2.2, FIN.out.2.2.2⟩, RT.2.2.2.1⟩
      · skip
        have RT := H5.ret HB.out.1 (Nat.le_refl _) HB.out.2
        have p0 := RT.2.2.1.c0
        have p1 := RT.2.2.1.c1
        have y0 := H5.bx.c0
        have y1 := H5.bx.c1
        have o0 := H5.rs.c0
        have o1 := H5.rs.c1
        have of0 := H5.rs.f (o := 0)
        have of1 := H5.rs.f (o := 1)
        have FIN : Hid (_ ∧ _ ∧ _ ∧ _) := ⟨H5.l1, H5.l2, H5.cp, H5.fx⟩
        clear H5
        go_wp2
        exact bodyPost_ret (v := .agg #[.slice a1 ss.length k1, .slice a2 ws.length k2]) (by simp [results, Tryz.results23, go_sem, p0, p1]) rfl ⟨⟨_, _, ss, ws, rfl, RT.1, RT.2.1, FIN.out.1, FIN.out.2.1, FIN.out.2.2.1, RT.2.2.2.2.1, RT.2.2.2.2.2, FIN.out.2.2.2⟩, RT.2.2.2.1⟩
    · skip
      have ON2 := H3.dw.once 12 (by omega) (by omega)
      go_wp2_with fail
      refine ON2.mono ?_
      rintro x w5 ⟨⟨b2, rfl⟩, g5, d5⟩
      have H5 := H3.step g5 d5
      clear ON2 g5 d5 H3
      have m0 := H5.bx.c0
      have m1 := H5.bx.c1
      cases b2
      · clear m0 m1
        have RT := H5.ret HB.out.1 (Nat.le_refl _) HB.out.2
        have p0 := RT.2.2.1.c0
        have p1 := RT.2.2.1.c1
        have y0 := H5.bx.c0
        have y1 := H5.bx.c1
        have o0 := H5.rs.c0
        have o1 := H5.rs.c1
        have of0 := H5.rs.f (o := 0)
        have of1 := H5.rs.f (o := 1)
        have FIN : Hid (_ ∧ _ ∧ _ ∧ _) := ⟨H5.l1, H5.l2, H5.cp, H5.fx⟩
        clear H5
        go_wp2
        exact bodyPost_ret (v := .agg #[.slice a1 ss.length k1, .slice a2 ws.length k2]) (by simp [results, Tryz.results23, go_sem, p0, p1]) rfl ⟨⟨_, _, ss, ws, rfl, RT.1, RT.2.1, FIN.out.1, FIN.out.2.1, FIN.out.2.2.1, RT.2.2.2.2.1, RT.2.2.2.2.2, FIN.out.2.2.2⟩, RT.2.2.2.1⟩
      · skip
        have RT := H5.ret HB.out.1 (Nat.le_refl _) HB.out.2
        have p0 := RT.2.2.1.c0
        have p1 := RT.2.2.1.c1
        have y0 := H5.bx.c0
        have y1 := H5.bx.c1
        have o0 := H5.rs.c0
        have o1 := H5.rs.c1
        have of0 := H5.rs.f (o := 0)
        have of1 := H5.rs.f (o := 1)
        have FIN : Hid (_ ∧ _ ∧ _ ∧ _) := ⟨H5.l1, H5.l2, H5.cp, H5.fx⟩
        clear H5
        go_wp2
        exact bodyPost_ret (v := .agg #[.slice a1 ss.length k1, .slice a2 ws.length k2]) (by simp [results, Tryz.results23, go_sem, p0, p1]) rfl ⟨⟨_, _, ss, ws, rfl, RT.1, RT.2.1, FIN.out.1, FIN.out.2.1, FIN.out.2.2.1, RT.2.2.2.2.1, RT.2.2.2.2.2, FIN.out.2.2.2⟩, RT.2.2.2.1⟩

end Go.Proofs.YtjclpbaiiklhcaaGreatDoor
