import Derived.Test.YtjclpbaiiklhcaaGreatDoorZV21
import Derived.Test.YtjclpbaiiklhcaaGreatDoorZDBend
import Derived.Test.YtjclpbaiiklhcaaGreatDoorZV7
import Derived.Test.YtjclpbaiiklhcaaGreatDoorZV17
import Derived.Test.YtjclpbaiiklhcaaGreatDoorZV4
import Derived.Test.YtjclpbaiiklhcaaGreatDoorZV19
import Derived.Deep.RegionHeld3
import Derived.Deep.DeepCutAuto
/- A disk drawn for Newest, and for Commit: DrawNewest, DrawCommit of the model. -/
namespace Go.Proofs.YtjclpbaiiklhcaaGreatDoor
open Go.RowKit

/-- A disk under way: drawn from N, its box in D, the result's box in R. -/
structure Nn (w1 : World) (N D R : Nat) (cv : Value) (cs : List UInt8) (W : World) (u1 u2 : Value) (ss : List ByteArray) (ws : List Disk.Wr) : Prop where
  d0 : Dw N cv cs w1
  dw : Dw N cv cs W
  gr : w1.grownBy W (some N)
  bx : Bx W D u1 u2
  rs : Bx W R (.slice none 0 0) (.slice none 0 0)
  lo : w1.heap.size ≤ D
  hN : N < w1.heap.size
  hR : R < w1.heap.size
  ne : R ≠ N
  sr : Disk.SR W u1 ss
  wr : Disk.WR W u2 ws
  o1 : Low w1.heap.size u1
  o2 : Low w1.heap.size u2
  l1 : ss.length ≤ 64
  l2 : ws.length ≤ 300
  cp : Disk.CapS u1
  k6 : ss.length = 64 → Disk.NS w1.heap.size W u1 ss ∧ Disk.NO w1.heap.size W u2 ws
section
variable {w1 W W' : World} {N D R : Nat} {cv u1 u2 : Value} {cs : List UInt8} {ss : List ByteArray} {ws : List Disk.Wr}
theorem Nn.nlt (h : Nn w1 N D R cv cs W u1 u2 ss ws) : N < W.heap.size := Nat.lt_of_lt_of_le h.hN h.gr.size
theorem Nn.step (h : Nn w1 N D R cv cs W u1 u2 ss ws) (g : W.grownBy W' (some N)) (d : Dw N cv cs W') : Nn w1 N D R cv cs W' u1 u2 ss ws :=
  ⟨h.d0, d, gtrans h.gr g, h.bx.grown g (fun e => by have := Option.some.inj e; have := h.lo; have := h.hN; omega), h.rs.grown g (fun e => h.ne (Option.some.inj e)), h.lo, h.hN, h.hR, h.ne, sr_keep h.sr h.o1 h.hN g, wr_keep h.wr h.o2 h.hN g, h.o1, h.o2, h.l1, h.l2, h.cp,
    fun e => ⟨ns_off (h.k6 e).1 g h.hN, no_off (h.k6 e).2 g h.hN⟩⟩
theorem Nn.drew (h : Nn w1 N D R cv cs W u1 u2 ss ws) : Nn w1 N D R cv cs W.drew u1 u2 ss ws := h.step (gdrew (World.grownBy.refl _ _)) h.dw.drew
theorem Nn.al (h : Nn w1 N D R cv cs W u1 u2 ss ws) (o : Obj) : Nn w1 N D R cv cs (W.alloc o) u1 u2 ss ws :=
  h.step (galloc _ _ _) (h.dw.grown (galloc _ _ _) h.dw (galloc _ _ none) (by simp) h.nlt)
theorem Nn.below (h : Nn w1 N D R cv cs W u1 u2 ss ws) (hb : Below W.heap.size W W') : Nn w1 N D R cv cs W' u1 u2 ss ws :=
  h.step ⟨hb.os, hb.tape, hb.output, hb.size, fun k hk _ => hb.block k hk⟩ (h.dw.later hb h.nlt)
theorem Nn.store {rb n cap i : Nat} (h : Nn w1 N D R cv cs W (.slice (some ⟨rb, 0, none⟩) n cap) u2 ss ws) (h6 : ss.length = 64) (hi : i < ss.length) (t : ByteArray) :
    Nn w1 N D R cv cs (W.setCell ⟨rb, i, none⟩ (.string t)) (.slice (some ⟨rb, 0, none⟩) n cap) u2 (ss.set i t) ws := by
  obtain ⟨ns, no⟩ := h.k6 h6
  have hsz := h.gr.size
  have hlo := h.lo
  have hN := h.hN
  have hR := h.hR
  obtain ⟨ao, cp, e, hh⟩ := id ns.1
  cases e
  obtain ⟨M, f, hM, hf⟩ : ∃ M f, ss.length * 1 ≤ M ∧ W.rowIs rb 9 M f := by
    rcases hh with hh | ⟨b, M, f, e, hM, hf⟩
    · omega
    · cases e
      exact ⟨M, f, hM, hf⟩
  have hrow : Disk.rowOf (.slice (some ⟨rb, 0, none⟩) ss.length cap) ss.length = some rb := by rw [Disk.rowOf, if_neg (by omega)]; rfl
  have hrb := ns.2.2 rb hrow
  have hne := os_sep ns.1 h.bx (by decide) rb hrow
  have k : W.grownBy (W.setCell ⟨rb, i, none⟩ (.string t)) (some rb) := gset1 W rb i (.string t)
  have g : w1.grownBy (W.setCell ⟨rb, i, none⟩ (.string t)) (some N) := gmix h.gr k (fun e he => by have := Option.some.inj he; omega)
  obtain ⟨c, hc, _⟩ := id hf
  have ns' := Disk.NS.put t ns hi
  have no' := no_sep no k hc (by decide)
  refine ⟨h.d0, ⟨br_off h.d0.br h.dw.br hrb k, h.dw.len, h.dw.dr.grown k (fun e => by have := Option.some.inj e; omega) h.nlt, h.dw.off⟩, g, h.bx.grown k (fun e => hne (Option.some.inj e).symm), h.rs.grown k (fun e => by have := Option.some.inj e; omega), h.lo, hN, hR, h.ne, ns'.2.1, no'.nw.2.1, h.o1, h.o2, by rw [List.length_set]; exact h.l1, h.l2, h.cp, fun _ => ⟨ns', no'⟩⟩
theorem Nn.sector {rb n cap i : Nat} {C : Prop} (h : Nn w1 N D R cv cs W (.slice (some ⟨rb, 0, none⟩) n cap) u2 ss ws) (h6 : ss.length = 64) (hi : i < 64)
    (k : ∀ s, s ∈ ss → W.cell? ⟨rb, i, none⟩ = some (.string s) → W.frozen? ⟨rb, i, none⟩ = false → C) : C := by
  obtain ⟨b, cp, e, _, _, hc, hf⟩ := (h.k6 h6).1.form (by omega)
  cases e
  have hi' : i < ss.length := by omega
  refine k (ss.getD i ByteArray.empty) ?_ (hc i hi') (hf i)
  rw [List.getD_eq_getElem?_getD, List.getElem?_eq_getElem hi']
  exact List.getElem_mem hi'
theorem Nn.rbN {rb n cap : Nat} (h : Nn w1 N D R cv cs W (.slice (some ⟨rb, 0, none⟩) n cap) u2 ss ws) (h6 : ss.length = 64) : rb ≠ N := by
  obtain ⟨b, cp, e, hB, _⟩ := (h.k6 h6).1.form (by omega)
  cases e
  have := h.hN
  omega
/-- The disk goes into the result. -/
theorem Nn.ret {w : World} (h : Nn w1 N D R cv cs W u1 u2 ss ws) (hb : Below w.heap.size w w1) (hwR : w.heap.size ≤ R) (hwN : w.heap.size ≤ N) :
    Disk.SR ((W.setCell ⟨R, 0, none⟩ u1).setCell ⟨R, 1, none⟩ u2) u1 ss ∧ Disk.WR ((W.setCell ⟨R, 0, none⟩ u1).setCell ⟨R, 1, none⟩ u2) u2 ws ∧ Bx ((W.setCell ⟨R, 0, none⟩ u1).setCell ⟨R, 1, none⟩ u2) R u1 u2 ∧ Below w.heap.size w ((W.setCell ⟨R, 0, none⟩ u1).setCell ⟨R, 1, none⟩ u2) ∧ Low w.heap.size u1 ∧ Low w.heap.size u2 :=
  ⟨sr_off h.sr h.o1 h.hR, wr_off h.wr h.o2 h.hR, h.rs.set u1 u2, gbel (gbel hb h.gr hb.size hwN) (gset (gset1 W R 0 u1) 1 u2) (Nat.le_trans hb.size h.gr.size) hwR,
    fun a n c e hn => Nat.le_trans hb.size (h.o1 a n c e hn), fun a n c e hn => Nat.le_trans hb.size (h.o2 a n c e hn)⟩
end

end Go.Proofs.YtjclpbaiiklhcaaGreatDoor

/- A disk drawn for Newest: DrawNewest of the model. -/
namespace Go.Proofs.YtjclpbaiiklhcaaGreatDoor
open Go.RowKit

set_option maxRecDepth 100000 in
set_option maxHeartbeats 6400000 in
theorem drawNewest_any (cv : Value) (cs : List UInt8) (w : World) (hc : BR w cv cs) (hn : cs.length ≤ 4096) :
    Calls Tryz.prog 23 #[cv] w fun x w' => (∃ (u1 u2 : Value) (ss : List ByteArray) (ws : List Disk.Wr), x = .returned (.agg #[u1, u2]) ∧ Disk.SR w' u1 ss ∧ Disk.WR w' u2 ws ∧ ss.length ≤ 64 ∧ ws.length ≤ 300 ∧ Disk.CapS u1 ∧ Low w.heap.size u1 ∧ Low w.heap.size u2) ∧ Below w.heap.size w w' := by
  have hmx : Tryz.prog.follows .mixedOrders = true := by kernel_rfl
  have h0 := Disk.bel_one w (.cells #[.slice none 0 0, .slice none 0 0] 27)
  have NW := l1New_any cv cs (w.alloc (.cells #[.slice none 0 0, .slice none 0 0] 27)) (hc.later h0) hn
  have R0 := Bx.new w (.slice none 0 0) (.slice none 0 0)
  have z0 : (w.alloc (.cells #[.slice none 0 0, .slice none 0 0] 27)).heap.size = w.heap.size + 1 := by simp
  go_enter Tryz.func23, Tryz.ntmps23
  go_wp2_with fail
  refine NW.mono ?_
  rintro x w1 ⟨N, rfl, hN, hN1, hb1, d1⟩
  clear NW
  rw [z0] at hN
  go_wp2_with fail
  refine (d1.diskC hN1).mono ?_
  rintro x w2 ⟨⟨u1, u2, ss, ws, rfl, s1, s2, l1, l2, k6, o1, o2, cp, sz⟩, g2, d2⟩
  have hN2 : N < w2.heap.size := Nat.lt_of_lt_of_le hN1 g2.size
  have HB : Hid (Below w.heap.size w w1 ∧ w.heap.size ≤ N) := ⟨bel_after h0 hb1, by omega⟩
  have K0 : ∀ o : Obj, Nn w1 N w2.heap.size w.heap.size cv cs (w2.alloc o) u1 u2 ss ws ∨ True := fun _ => .inr trivial
  clear K0
  have mk : ∀ x1 x2, u1 = x1 → u2 = x2 → Nn w1 N w2.heap.size w.heap.size cv cs (w2.alloc (.cells #[x1, x2] 27)) u1 u2 ss ws := by
    rintro x1 x2 rfl rfl
    exact ⟨d1, d2.grown (galloc _ _ _) d2 (galloc _ _ none) (by simp) hN2, gtrans g2 (galloc _ _ _), Bx.new w2 _ _, ((R0.later hb1).grown g2 (fun e => by have := Option.some.inj e; omega)).grown (galloc _ _ none) (by simp), g2.size, hN1, by have := hb1.size; omega, by omega, sr_keep s1 o1 hN1 (galloc _ _ _), wr_keep s2 o2 hN1 (galloc _ _ _), o1, o2, l1, l2, cp, fun e => ⟨ns_off (k6 e).1 (galloc _ _ _) hN1, no_off (k6 e).2 (galloc _ _ _) hN1⟩⟩
  obtain ⟨a2, k2, e2, _⟩ := id s2
  by_cases h64 : ss.length = 64
  · skip
    obtain ⟨rb, rc, e1, _, _, _, _⟩ := (k6 h64).1.form (by omega)
    rw [h64] at e1
    have H0 := mk _ _ e1 e2
    subst e1
    subst e2
    have h6 : Hid (ss.length = 64) := h64
    have SZ : Hid (∀ s ∈ ss, s.size ≤ 257) := sz
    clear h64 mk s1 s2 k6 o1 o2 cp sz g2 d2 l1 l2 R0 h0 hb1 d1
    have ON := H0.dw.once 4 (by omega) (by omega)
    go_wp2_with fail
    refine ON.mono ?_
    rintro x w3 ⟨⟨b, rfl⟩, g3, d3⟩
    have H3 := H0.step g3 d3
    clear ON H0 g3 d3
    have m0 := H3.bx.c0
    have m1 := H3.bx.c1
    cases b
    · clear m0 m1
      have ON2 := H3.dw.once 12 (by omega) (by omega)
      go_wp2_with fail
      refine ON2.mono ?_
      rintro x w5 ⟨⟨b2, rfl⟩, g5, d5⟩
      have H5 := H3.step g5 d5
      clear ON2 g5 d5 H3
      have m0 := H5.bx.c0
      have m1 := H5.bx.c1
      cases b2
      · clear m0 m1
        have RT := H5.ret HB.out.1 (Nat.le_refl _) HB.out.2
        have p0 := RT.2.2.1.c0
        have p1 := RT.2.2.1.c1
        have y0 := H5.bx.c0
        have y1 := H5.bx.c1
        have o0 := H5.rs.c0
        have o1 := H5.rs.c1
        have of0 := H5.rs.f (o := 0)
        have of1 := H5.rs.f (o := 1)
        have FIN : Hid (_ ∧ _ ∧ _) := ⟨H5.l1, H5.l2, H5.cp⟩
        clear H5
        go_wp2
        exact bodyPost_ret (v := .agg #[.slice (some ⟨rb, 0, none⟩) 64 rc, .slice a2 ws.length k2]) (by simp [results, Tryz.results23, go_sem, p0, p1]) rfl ⟨⟨_, _, ss, ws, rfl, RT.1, RT.2.1, FIN.out.1, FIN.out.2.1, FIN.out.2.2, RT.2.2.2.2.1, RT.2.2.2.2.2⟩, RT.2.2.2.1⟩
      · go_wp2_with fail
        have H6 := H5.drew
        clear m0 m1 H5
        have hs0 := H6.bx.c0
        refine Disk.z_plain 99 (fun W' => W'.cell? ⟨w2.heap.size, 0, none⟩ = some (.slice (some ⟨rb, 0, none⟩) 64 rc)) hmx hs0 (fun hs => ?_)
        generalize w5.drew = w6 at *
        refine Disk.z_take 0 40 (v := .pointer (some ⟨w2.heap.size, 0, none⟩)) rfl rfl (by kernel_rfl) (by kernel_rfl) (by kernel_rfl) (by kernel_rfl) (by rfl) hs (fun W' hSw => (by go_simp; first | done | with_reducible rfl)) ?_
        simp only [List.setIfInBounds_toArray, List.set_cons_zero, List.set_cons_succ]
        refine Disk.z_take 1 41 (v := .slice (some ⟨rb, 0, none⟩) 64 rc) rfl rfl (by kernel_rfl) (by kernel_rfl) (by kernel_rfl) (by kernel_rfl) (by rfl) hs (fun W' hSw => (by go_simp; first | done | with_reducible rfl)) ?_
        simp only [List.setIfInBounds_toArray, List.set_cons_zero, List.set_cons_succ]
        refine Disk.z_take 2 42 (v := .pointer (some ⟨N, 0, none⟩)) rfl rfl (by kernel_rfl) (by kernel_rfl) (by kernel_rfl) (by kernel_rfl) (by rfl) hs (fun W' hSw => (by go_simp; first | done | with_reducible rfl)) ?_
        simp only [List.setIfInBounds_toArray, List.set_cons_zero, List.set_cons_succ]
        refine z_or (i := 3) (j := 4) (by kernel_rfl) ?_ ?_
        · skip
          refine o_call 3 43 rfl rfl (by rfl) (f := 33) (args := #[.pointer (some ⟨N, 0, none⟩), .int .i64 2]) (w0 := w6) (by go_simp; first | done | with_reducible rfl) ?_
          refine (H6.dw.below 2 (by omega) (by omega)).mono ?_
          rintro x w7 ⟨⟨z, rfl, z0, z1⟩, g7, d7⟩
          obtain ⟨zn, rfl⟩ := Int.eq_ofNat_of_zero_le z0
          have H7 := H6.step g7 d7
          refine ⟨_, rfl, .inr H7.bx.c0, ?_⟩
          simp only [List.setIfInBounds_toArray, List.set_cons_zero, List.set_cons_succ]
          have H8 := H7.al (.cells #[] 2)
          have E8 : IR (w7.alloc (.cells #[] 2)) (.slice (some ⟨w7.heap.size, 0, none⟩) 0 0) [] := ⟨_, 0, rfl, Nat.le_refl _, fun i hi => by simp at hi⟩
          refine Disk.z_run 4 44 (v := .slice (some ⟨w7.heap.size, 0, none⟩) 0 0) rfl rfl (by kernel_rfl) (by rfl) (by go_simp; first | done | with_reducible rfl) (.inr H8.bx.c0) ?_
          simp only [List.setIfInBounds_toArray, List.set_cons_zero, List.set_cons_succ]
          refine Disk.z_call 5 45 rfl rfl (by kernel_rfl) (by rfl) (f := 21) (args := #[.int .i64 999999999, .slice (some ⟨w7.heap.size, 0, none⟩) 0 0]) (w0 := (w7.alloc (.cells #[] 2))) (by go_simp; first | done | with_reducible rfl) ?_
          refine (specSuper_any 999999999 (.slice (some ⟨w7.heap.size, 0, none⟩) 0 0) [] (w7.alloc (.cells #[] 2)) E8 (by simp)).mono ?_
          rintro x w8 ⟨rfl, hb8⟩
          have H9 := H8.below hb8
          clear H8 hb8
          refine ⟨_, rfl, .inr H9.bx.c0, ?_⟩
          simp only [List.setIfInBounds_toArray, List.set_cons_zero, List.set_cons_succ]
          generalize supT 999999999 [] = tx at *
          generalize supOk 999999999 [] = kx at *
          have hs9 := H9.bx.c0
          refine Disk.z_run 6 39 (v := .tuple #[.string tx, .bool kx]) rfl rfl (by kernel_rfl) (by rfl) (by go_simp; first | done | with_reducible rfl) (.inr hs9) ?_
          simp only [List.setIfInBounds_toArray, List.set_cons_zero, List.set_cons_succ]
          refine Disk.z_take 7 46 (v := .string tx) rfl rfl (by kernel_rfl) (by kernel_rfl) (by kernel_rfl) (by kernel_rfl) (by rfl) hs9 (fun W' hSw => (by go_simp; first | done | with_reducible rfl)) ?_
          simp only [List.setIfInBounds_toArray, List.set_cons_zero, List.set_cons_succ]
          refine Disk.z_take 8 47 (v := .bool kx) rfl rfl (by kernel_rfl) (by kernel_rfl) (by kernel_rfl) (by kernel_rfl) (by rfl) hs9 (fun W' hSw => (by go_simp; first | done | with_reducible rfl)) ?_
          simp only [List.setIfInBounds_toArray, List.set_cons_zero, List.set_cons_succ]
          have k1' : decide ((zn : Int) < 64) = true := by simp; omega
          have k2' : (0 : Int) ≤ (zn : Int) := by omega
          have k3' : (zn : Int) < 64 := by omega
          have k4' : zn < 64 := by omega
          refine H9.sector h6.out (i := zn) k4' ?_
          intro sx hsx cx fx
          have HA := H9.store h6.out (i := zn) (by rw [h6.out]; exact k4') tx
          have hsA := HA.bx.c0
          clear hsx
          refine Disk.z_run 9 48 (v := .pointer (some ⟨rb, zn, none⟩)) rfl rfl (by kernel_rfl) (by rfl) (by go_simp; first | done | with_reducible rfl) (.inr hs9) ?_
          simp only [List.setIfInBounds_toArray, List.set_cons_zero, List.set_cons_succ]
          refine Disk.z_skip 10 rfl rfl (by kernel_rfl) (by rfl) (by go_simp; first | done | with_reducible rfl) (.inr hsA) ?_
          refine Disk.z_done (by kernel_rfl) ?_ _
          clear H9 hs9 cx fx k1' k2' k3' k4' hsA hs0
          have RT := HA.ret HB.out.1 (Nat.le_refl _) HB.out.2
          have p0 := RT.2.2.1.c0
          have p1 := RT.2.2.1.c1
          have y0 := HA.bx.c0
          have y1 := HA.bx.c1
          have o0 := HA.rs.c0
          have o1 := HA.rs.c1
          have of0 := HA.rs.f (o := 0)
          have of1 := HA.rs.f (o := 1)
          have FIN : Hid (_ ∧ _ ∧ _) := ⟨HA.l1, HA.l2, HA.cp⟩
          clear HA
          go_wp2
          exact bodyPost_ret (v := .agg #[.slice (some ⟨rb, 0, none⟩) 64 rc, .slice a2 ws.length k2]) (by simp [results, Tryz.results23, go_sem, p0, p1]) rfl ⟨⟨_, _, (ss.set zn tx), ws, rfl, RT.1, RT.2.1, FIN.out.1, FIN.out.2.1, FIN.out.2.2, RT.2.2.2.2.1, RT.2.2.2.2.2⟩, RT.2.2.2.1⟩
        · skip
          have H61 := H6.al (.cells #[] 2)
          have E60 : IR (w6.alloc (.cells #[] 2)) (.slice (some ⟨w6.heap.size, 0, none⟩) 0 0) [] := ⟨_, 0, rfl, Nat.le_refl _, fun i hi => by simp at hi⟩
          refine o_run 4 44 (v := .slice (some ⟨w6.heap.size, 0, none⟩) 0 0) rfl rfl (by rfl) (by go_simp; first | done | with_reducible rfl) (.inr H61.bx.c0) ?_
          simp only [List.setIfInBounds_toArray, List.set_cons_zero, List.set_cons_succ]
          refine Disk.z_call 3 43 rfl rfl (by kernel_rfl) (by rfl) (f := 33) (args := #[.pointer (some ⟨N, 0, none⟩), .int .i64 2]) (w0 := (w6.alloc (.cells #[] 2))) (by go_simp; first | done | with_reducible rfl) ?_
          refine (H61.dw.below 2 (by omega) (by omega)).mono ?_
          rintro x w7 ⟨⟨z, rfl, z0, z1⟩, g7, d7⟩
          obtain ⟨zn, rfl⟩ := Int.eq_ofNat_of_zero_le z0
          have H8 := H61.step g7 d7
          refine ⟨_, rfl, .inr H8.bx.c0, ?_⟩
          simp only [List.setIfInBounds_toArray, List.set_cons_zero, List.set_cons_succ]
          have E8 : IR w7 (.slice (some ⟨w6.heap.size, 0, none⟩) 0 0) [] := ⟨_, 0, rfl, Nat.le_refl _, fun i hi => by simp at hi⟩
          refine Disk.z_call 5 45 rfl rfl (by kernel_rfl) (by rfl) (f := 21) (args := #[.int .i64 999999999, .slice (some ⟨w6.heap.size, 0, none⟩) 0 0]) (w0 := w7) (by go_simp; first | done | with_reducible rfl) ?_
          refine (specSuper_any 999999999 (.slice (some ⟨w6.heap.size, 0, none⟩) 0 0) [] w7 E8 (by simp)).mono ?_
          rintro x w8 ⟨rfl, hb8⟩
          have H9 := H8.below hb8
          clear H8 hb8
          refine ⟨_, rfl, .inr H9.bx.c0, ?_⟩
          simp only [List.setIfInBounds_toArray, List.set_cons_zero, List.set_cons_succ]
          generalize supT 999999999 [] = tx at *
          generalize supOk 999999999 [] = kx at *
          have hs9 := H9.bx.c0
          refine Disk.z_run 6 39 (v := .tuple #[.string tx, .bool kx]) rfl rfl (by kernel_rfl) (by rfl) (by go_simp; first | done | with_reducible rfl) (.inr hs9) ?_
          simp only [List.setIfInBounds_toArray, List.set_cons_zero, List.set_cons_succ]
          refine Disk.z_take 7 46 (v := .string tx) rfl rfl (by kernel_rfl) (by kernel_rfl) (by kernel_rfl) (by kernel_rfl) (by rfl) hs9 (fun W' hSw => (by go_simp; first | done | with_reducible rfl)) ?_
          simp only [List.setIfInBounds_toArray, List.set_cons_zero, List.set_cons_succ]
          refine Disk.z_take 8 47 (v := .bool kx) rfl rfl (by kernel_rfl) (by kernel_rfl) (by kernel_rfl) (by kernel_rfl) (by rfl) hs9 (fun W' hSw => (by go_simp; first | done | with_reducible rfl)) ?_
          simp only [List.setIfInBounds_toArray, List.set_cons_zero, List.set_cons_succ]
          have k1' : decide ((zn : Int) < 64) = true := by simp; omega
          have k2' : (0 : Int) ≤ (zn : Int) := by omega
          have k3' : (zn : Int) < 64 := by omega
          have k4' : zn < 64 := by omega
          refine H9.sector h6.out (i := zn) k4' ?_
          intro sx hsx cx fx
          have HA := H9.store h6.out (i := zn) (by rw [h6.out]; exact k4') tx
          have hsA := HA.bx.c0
          clear hsx
          refine Disk.z_run 9 48 (v := .pointer (some ⟨rb, zn, none⟩)) rfl rfl (by kernel_rfl) (by rfl) (by go_simp; first | done | with_reducible rfl) (.inr hs9) ?_
          simp only [List.setIfInBounds_toArray, List.set_cons_zero, List.set_cons_succ]
          refine Disk.z_skip 10 rfl rfl (by kernel_rfl) (by rfl) (by go_simp; first | done | with_reducible rfl) (.inr hsA) ?_
          refine Disk.z_done (by kernel_rfl) ?_ _
          clear H9 hs9 cx fx k1' k2' k3' k4' hsA hs0
          have RT := HA.ret HB.out.1 (Nat.le_refl _) HB.out.2
          have p0 := RT.2.2.1.c0
          have p1 := RT.2.2.1.c1
          have y0 := HA.bx.c0
          have y1 := HA.bx.c1
          have o0 := HA.rs.c0
          have o1 := HA.rs.c1
          have of0 := HA.rs.f (o := 0)
          have of1 := HA.rs.f (o := 1)
          have FIN : Hid (_ ∧ _ ∧ _) := ⟨HA.l1, HA.l2, HA.cp⟩
          clear HA
          go_wp2
          exact bodyPost_ret (v := .agg #[.slice (some ⟨rb, 0, none⟩) 64 rc, .slice a2 ws.length k2]) (by simp [results, Tryz.results23, go_sem, p0, p1]) rfl ⟨⟨_, _, (ss.set zn tx), ws, rfl, RT.1, RT.2.1, FIN.out.1, FIN.out.2.1, FIN.out.2.2, RT.2.2.2.2.1, RT.2.2.2.2.2⟩, RT.2.2.2.1⟩
    · have BL := H3.dw.below 4 (by omega) (by omega)
      go_wp2_with fail
      refine BL.mono ?_
      rintro x w4 ⟨⟨k, rfl, k0, k1⟩, g4, d4⟩
      obtain ⟨kn, rfl⟩ := Int.eq_ofNat_of_zero_le k0
      have H4 := (H3.step g4 d4).drew
      clear BL H3 m0 m1 g4 d4
      have j1 : decide ((kn : Int) < 64) = true := by simp; omega
      have j2 : (0 : Int) ≤ (kn : Int) := by omega
      have j3 : (kn : Int) < 64 := by omega
      have j4 : kn < 64 := by omega
      refine H4.sector h6.out (i := kn) j4 ?_
      intro s0 hs0' c0 f0
      have hs0 : s0.size ≤ 257 := SZ.out s0 hs0'
      clear hs0'
      have hc0 := H4.bx.c0
      go_wp2_with fail
      refine Disk.z_plain 11 (fun W' => W'.cell? ⟨w2.heap.size, 0, none⟩ = some (.slice (some ⟨rb, 0, none⟩) 64 rc) ∧ W'.cell? ⟨rb, kn, none⟩ = some (.string s0)) hmx ⟨hc0, c0⟩ (fun hs => ?_)
      generalize w4.drew = w4d at *
      refine Disk.z_take 0 20 (v := .pointer (some ⟨w2.heap.size, 0, none⟩)) rfl rfl (by kernel_rfl) (by kernel_rfl) (by kernel_rfl) (by kernel_rfl) (by rfl) hs (fun W' hSw => (by go_simp; first | done | with_reducible rfl)) ?_
      simp only [List.setIfInBounds_toArray, List.set_cons_zero, List.set_cons_succ]
      refine Disk.z_take 1 21 (v := .slice (some ⟨rb, 0, none⟩) 64 rc) rfl rfl (by kernel_rfl) (by kernel_rfl) (by kernel_rfl) (by kernel_rfl) (by rfl) hs (fun W' hSw => (by have q1 := hSw.1; have q2 := hSw.2; go_simp; first | done | with_reducible rfl)) ?_
      simp only [List.setIfInBounds_toArray, List.set_cons_zero, List.set_cons_succ]
      refine Disk.z_take 2 22 (v := .int .i64 (kn : Int)) rfl rfl (by kernel_rfl) (by kernel_rfl) (by kernel_rfl) (by kernel_rfl) (by rfl) hs (fun W' hSw => (by go_simp; first | done | with_reducible rfl)) ?_
      simp only [List.setIfInBounds_toArray, List.set_cons_zero, List.set_cons_succ]
      refine Disk.z_take 3 23 (v := .pointer (some ⟨N, 0, none⟩)) rfl rfl (by kernel_rfl) (by kernel_rfl) (by kernel_rfl) (by kernel_rfl) (by rfl) hs (fun W' hSw => (by go_simp; first | done | with_reducible rfl)) ?_
      simp only [List.setIfInBounds_toArray, List.set_cons_zero, List.set_cons_succ]
      refine Disk.z_take 4 24 (v := .pointer (some ⟨w2.heap.size, 0, none⟩)) rfl rfl (by kernel_rfl) (by kernel_rfl) (by kernel_rfl) (by kernel_rfl) (by rfl) hs (fun W' hSw => (by go_simp; first | done | with_reducible rfl)) ?_
      simp only [List.setIfInBounds_toArray, List.set_cons_zero, List.set_cons_succ]
      refine Disk.z_take 5 25 (v := .slice (some ⟨rb, 0, none⟩) 64 rc) rfl rfl (by kernel_rfl) (by kernel_rfl) (by kernel_rfl) (by kernel_rfl) (by rfl) hs (fun W' hSw => (by have q1 := hSw.1; have q2 := hSw.2; go_simp; first | done | with_reducible rfl)) ?_
      simp only [List.setIfInBounds_toArray, List.set_cons_zero, List.set_cons_succ]
      refine Disk.z_take 6 26 (v := .int .i64 (kn : Int)) rfl rfl (by kernel_rfl) (by kernel_rfl) (by kernel_rfl) (by kernel_rfl) (by rfl) hs (fun W' hSw => (by go_simp; first | done | with_reducible rfl)) ?_
      simp only [List.setIfInBounds_toArray, List.set_cons_zero, List.set_cons_succ]
      refine Disk.z_take 7 27 (v := .pointer (some ⟨rb, kn, none⟩)) rfl rfl (by kernel_rfl) (by kernel_rfl) (by kernel_rfl) (by kernel_rfl) (by rfl) hs (fun W' hSw => (by have q1 := hSw.1; have q2 := hSw.2; go_simp; first | done | with_reducible rfl)) ?_
      simp only [List.setIfInBounds_toArray, List.set_cons_zero, List.set_cons_succ]
      refine Disk.z_take 8 28 (v := .string s0) rfl rfl (by kernel_rfl) (by kernel_rfl) (by kernel_rfl) (by kernel_rfl) (by rfl) hs (fun W' hSw => (by have q1 := hSw.1; have q2 := hSw.2; go_simp; first | done | with_reducible rfl)) ?_
      simp only [List.setIfInBounds_toArray, List.set_cons_zero, List.set_cons_succ]
      refine Disk.z_call 9 29 rfl rfl (by kernel_rfl) (by rfl) (f := 49) (args := #[.pointer (some ⟨N, 0, none⟩), .string s0, .string ⟨#[83, 80, 48, 49, 50, 51, 59, 120]⟩]) (w0 := w4d) (by go_simp; first | done | with_reducible rfl) ?_
      refine (H4.dw.bend H4.nlt s0 ⟨#[83, 80, 48, 49, 50, 51, 59, 120]⟩ (by omega) (by decide) (by decide)).mono ?_
      rintro x w5 ⟨⟨tb, rfl, htb⟩, g5, d5⟩
      have H5 := H4.step g5 d5
      refine H5.sector h6.out (i := kn) j4 ?_
      intro s5 hs5 c5 f5
      refine ⟨_, rfl, .inr ⟨H5.bx.c0, ?_⟩, ?_⟩
      · exact (g5.cell c0 (fun e => by have e2 : rb = N := Option.some.inj e; exact absurd e2 (H4.rbN h6.out)))
      simp only [List.setIfInBounds_toArray, List.set_cons_zero, List.set_cons_succ]
      have hs5' : w5.cell? ⟨w2.heap.size, 0, none⟩ = some (.slice (some ⟨rb, 0, none⟩) 64 rc) ∧ w5.cell? ⟨rb, kn, none⟩ = some (.string s0) := ⟨H5.bx.c0, g5.cell c0 (fun e => by have e2 : rb = N := Option.some.inj e; exact absurd e2 (H4.rbN h6.out))⟩
      have HS := H5.store h6.out (i := kn) (by rw [h6.out]; exact j4) tb
      clear H4 H5 g5 d5 hs c0 f0 hc0 hs5 hs0 htb
      refine Disk.z_run 10 30 (v := .pointer (some ⟨rb, kn, none⟩)) rfl rfl (by kernel_rfl) (by rfl) (by go_simp; first | done | with_reducible rfl) (.inr hs5') ?_
      simp only [List.setIfInBounds_toArray, List.set_cons_zero, List.set_cons_succ]
      refine Disk.z_skip 11 rfl rfl (by kernel_rfl) (by rfl) (by go_simp; first | done | with_reducible rfl) (.inl rfl) ?_
      refine Disk.z_done (by kernel_rfl) ?_ _
      clear c5 f5 hs5' j1 j2 j3 j4
      have h6 : Hid ((ss.set kn tb).length = 64) := (by rw [List.length_set]; exact h6.out : (ss.set kn tb).length = 64)
      clear SZ
      generalize ss.set kn tb = st at *
      have ON2 := HS.dw.once 12 (by omega) (by omega)
      go_wp2_with fail
      refine ON2.mono ?_
      rintro x w5 ⟨⟨b2, rfl⟩, g5, d5⟩
      have H5 := HS.step g5 d5
      clear ON2 g5 d5 HS
      have m0 := H5.bx.c0
      have m1 := H5.bx.c1
      cases b2
      · clear m0 m1
        have RT := H5.ret HB.out.1 (Nat.le_refl _) HB.out.2
        have p0 := RT.2.2.1.c0
        have p1 := RT.2.2.1.c1
        have y0 := H5.bx.c0
        have y1 := H5.bx.c1
        have o0 := H5.rs.c0
        have o1 := H5.rs.c1
        have of0 := H5.rs.f (o := 0)
        have of1 := H5.rs.f (o := 1)
        have FIN : Hid (_ ∧ _ ∧ _) := ⟨H5.l1, H5.l2, H5.cp⟩
        clear H5
        go_wp2
        exact bodyPost_ret (v := .agg #[.slice (some ⟨rb, 0, none⟩) 64 rc, .slice a2 ws.length k2]) (by simp [results, Tryz.results23, go_sem, p0, p1]) rfl ⟨⟨_, _, st, ws, rfl, RT.1, RT.2.1, FIN.out.1, FIN.out.2.1, FIN.out.2.2, RT.2.2.2.2.1, RT.2.2.2.2.2⟩, RT.2.2.2.1⟩
      · go_wp2_with fail
        have H6 := H5.drew
        clear m0 m1 H5
        have hs0 := H6.bx.c0
        refine Disk.z_plain 99 (fun W' => W'.cell? ⟨w2.heap.size, 0, none⟩ = some (.slice (some ⟨rb, 0, none⟩) 64 rc)) hmx hs0 (fun hs => ?_)
        generalize w5.drew = w6 at *
        refine Disk.z_take 0 40 (v := .pointer (some ⟨w2.heap.size, 0, none⟩)) rfl rfl (by kernel_rfl) (by kernel_rfl) (by kernel_rfl) (by kernel_rfl) (by rfl) hs (fun W' hSw => (by go_simp; first | done | with_reducible rfl)) ?_
        simp only [List.setIfInBounds_toArray, List.set_cons_zero, List.set_cons_succ]
        refine Disk.z_take 1 41 (v := .slice (some ⟨rb, 0, none⟩) 64 rc) rfl rfl (by kernel_rfl) (by kernel_rfl) (by kernel_rfl) (by kernel_rfl) (by rfl) hs (fun W' hSw => (by go_simp; first | done | with_reducible rfl)) ?_
        simp only [List.setIfInBounds_toArray, List.set_cons_zero, List.set_cons_succ]
        refine Disk.z_take 2 42 (v := .pointer (some ⟨N, 0, none⟩)) rfl rfl (by kernel_rfl) (by kernel_rfl) (by kernel_rfl) (by kernel_rfl) (by rfl) hs (fun W' hSw => (by go_simp; first | done | with_reducible rfl)) ?_
        simp only [List.setIfInBounds_toArray, List.set_cons_zero, List.set_cons_succ]
        refine z_or (i := 3) (j := 4) (by kernel_rfl) ?_ ?_
        · skip
          refine o_call 3 43 rfl rfl (by rfl) (f := 33) (args := #[.pointer (some ⟨N, 0, none⟩), .int .i64 2]) (w0 := w6) (by go_simp; first | done | with_reducible rfl) ?_
          refine (H6.dw.below 2 (by omega) (by omega)).mono ?_
          rintro x w7 ⟨⟨z, rfl, z0, z1⟩, g7, d7⟩
          obtain ⟨zn, rfl⟩ := Int.eq_ofNat_of_zero_le z0
          have H7 := H6.step g7 d7
          refine ⟨_, rfl, .inr H7.bx.c0, ?_⟩
          simp only [List.setIfInBounds_toArray, List.set_cons_zero, List.set_cons_succ]
          have H8 := H7.al (.cells #[] 2)
          have E8 : IR (w7.alloc (.cells #[] 2)) (.slice (some ⟨w7.heap.size, 0, none⟩) 0 0) [] := ⟨_, 0, rfl, Nat.le_refl _, fun i hi => by simp at hi⟩
          refine Disk.z_run 4 44 (v := .slice (some ⟨w7.heap.size, 0, none⟩) 0 0) rfl rfl (by kernel_rfl) (by rfl) (by go_simp; first | done | with_reducible rfl) (.inr H8.bx.c0) ?_
          simp only [List.setIfInBounds_toArray, List.set_cons_zero, List.set_cons_succ]
          refine Disk.z_call 5 45 rfl rfl (by kernel_rfl) (by rfl) (f := 21) (args := #[.int .i64 999999999, .slice (some ⟨w7.heap.size, 0, none⟩) 0 0]) (w0 := (w7.alloc (.cells #[] 2))) (by go_simp; first | done | with_reducible rfl) ?_
          refine (specSuper_any 999999999 (.slice (some ⟨w7.heap.size, 0, none⟩) 0 0) [] (w7.alloc (.cells #[] 2)) E8 (by simp)).mono ?_
          rintro x w8 ⟨rfl, hb8⟩
          have H9 := H8.below hb8
          clear H8 hb8
          refine ⟨_, rfl, .inr H9.bx.c0, ?_⟩
          simp only [List.setIfInBounds_toArray, List.set_cons_zero, List.set_cons_succ]
          generalize supT 999999999 [] = tx at *
          generalize supOk 999999999 [] = kx at *
          have hs9 := H9.bx.c0
          refine Disk.z_run 6 39 (v := .tuple #[.string tx, .bool kx]) rfl rfl (by kernel_rfl) (by rfl) (by go_simp; first | done | with_reducible rfl) (.inr hs9) ?_
          simp only [List.setIfInBounds_toArray, List.set_cons_zero, List.set_cons_succ]
          refine Disk.z_take 7 46 (v := .string tx) rfl rfl (by kernel_rfl) (by kernel_rfl) (by kernel_rfl) (by kernel_rfl) (by rfl) hs9 (fun W' hSw => (by go_simp; first | done | with_reducible rfl)) ?_
          simp only [List.setIfInBounds_toArray, List.set_cons_zero, List.set_cons_succ]
          refine Disk.z_take 8 47 (v := .bool kx) rfl rfl (by kernel_rfl) (by kernel_rfl) (by kernel_rfl) (by kernel_rfl) (by rfl) hs9 (fun W' hSw => (by go_simp; first | done | with_reducible rfl)) ?_
          simp only [List.setIfInBounds_toArray, List.set_cons_zero, List.set_cons_succ]
          have k1' : decide ((zn : Int) < 64) = true := by simp; omega
          have k2' : (0 : Int) ≤ (zn : Int) := by omega
          have k3' : (zn : Int) < 64 := by omega
          have k4' : zn < 64 := by omega
          refine H9.sector h6.out (i := zn) k4' ?_
          intro sx hsx cx fx
          have HA := H9.store h6.out (i := zn) (by rw [h6.out]; exact k4') tx
          have hsA := HA.bx.c0
          clear hsx
          refine Disk.z_run 9 48 (v := .pointer (some ⟨rb, zn, none⟩)) rfl rfl (by kernel_rfl) (by rfl) (by go_simp; first | done | with_reducible rfl) (.inr hs9) ?_
          simp only [List.setIfInBounds_toArray, List.set_cons_zero, List.set_cons_succ]
          refine Disk.z_skip 10 rfl rfl (by kernel_rfl) (by rfl) (by go_simp; first | done | with_reducible rfl) (.inr hsA) ?_
          refine Disk.z_done (by kernel_rfl) ?_ _
          clear H9 hs9 cx fx k1' k2' k3' k4' hsA hs0
          have RT := HA.ret HB.out.1 (Nat.le_refl _) HB.out.2
          have p0 := RT.2.2.1.c0
          have p1 := RT.2.2.1.c1
          have y0 := HA.bx.c0
          have y1 := HA.bx.c1
          have o0 := HA.rs.c0
          have o1 := HA.rs.c1
          have of0 := HA.rs.f (o := 0)
          have of1 := HA.rs.f (o := 1)
          have FIN : Hid (_ ∧ _ ∧ _) := ⟨HA.l1, HA.l2, HA.cp⟩
          clear HA
          go_wp2
          exact bodyPost_ret (v := .agg #[.slice (some ⟨rb, 0, none⟩) 64 rc, .slice a2 ws.length k2]) (by simp [results, Tryz.results23, go_sem, p0, p1]) rfl ⟨⟨_, _, (st.set zn tx), ws, rfl, RT.1, RT.2.1, FIN.out.1, FIN.out.2.1, FIN.out.2.2, RT.2.2.2.2.1, RT.2.2.2.2.2⟩, RT.2.2.2.1⟩
        · skip
          have H61 := H6.al (.cells #[] 2)
          have E60 : IR (w6.alloc (.cells #[] 2)) (.slice (some ⟨w6.heap.size, 0, none⟩) 0 0) [] := ⟨_, 0, rfl, Nat.le_refl _, fun i hi => by simp at hi⟩
          refine o_run 4 44 (v := .slice (some ⟨w6.heap.size, 0, none⟩) 0 0) rfl rfl (by rfl) (by go_simp; first | done | with_reducible rfl) (.inr H61.bx.c0) ?_
          simp only [List.setIfInBounds_toArray, List.set_cons_zero, List.set_cons_succ]
          refine Disk.z_call 3 43 rfl rfl (by kernel_rfl) (by rfl) (f := 33) (args := #[.pointer (some ⟨N, 0, none⟩), .int .i64 2]) (w0 := (w6.alloc (.cells #[] 2))) (by go_simp; first | done | with_reducible rfl) ?_
          refine (H61.dw.below 2 (by omega) (by omega)).mono ?_
          rintro x w7 ⟨⟨z, rfl, z0, z1⟩, g7, d7⟩
          obtain ⟨zn, rfl⟩ := Int.eq_ofNat_of_zero_le z0
          have H8 := H61.step g7 d7
          refine ⟨_, rfl, .inr H8.bx.c0, ?_⟩
          simp only [List.setIfInBounds_toArray, List.set_cons_zero, List.set_cons_succ]
          have E8 : IR w7 (.slice (some ⟨w6.heap.size, 0, none⟩) 0 0) [] := ⟨_, 0, rfl, Nat.le_refl _, fun i hi => by simp at hi⟩
          refine Disk.z_call 5 45 rfl rfl (by kernel_rfl) (by rfl) (f := 21) (args := #[.int .i64 999999999, .slice (some ⟨w6.heap.size, 0, none⟩) 0 0]) (w0 := w7) (by go_simp; first | done | with_reducible rfl) ?_
          refine (specSuper_any 999999999 (.slice (some ⟨w6.heap.size, 0, none⟩) 0 0) [] w7 E8 (by simp)).mono ?_
          rintro x w8 ⟨rfl, hb8⟩
          have H9 := H8.below hb8
          clear H8 hb8
          refine ⟨_, rfl, .inr H9.bx.c0, ?_⟩
          simp only [List.setIfInBounds_toArray, List.set_cons_zero, List.set_cons_succ]
          generalize supT 999999999 [] = tx at *
          generalize supOk 999999999 [] = kx at *
          have hs9 := H9.bx.c0
          refine Disk.z_run 6 39 (v := .tuple #[.string tx, .bool kx]) rfl rfl (by kernel_rfl) (by rfl) (by go_simp; first | done | with_reducible rfl) (.inr hs9) ?_
          simp only [List.setIfInBounds_toArray, List.set_cons_zero, List.set_cons_succ]
          refine Disk.z_take 7 46 (v := .string tx) rfl rfl (by kernel_rfl) (by kernel_rfl) (by kernel_rfl) (by kernel_rfl) (by rfl) hs9 (fun W' hSw => (by go_simp; first | done | with_reducible rfl)) ?_
          simp only [List.setIfInBounds_toArray, List.set_cons_zero, List.set_cons_succ]
          refine Disk.z_take 8 47 (v := .bool kx) rfl rfl (by kernel_rfl) (by kernel_rfl) (by kernel_rfl) (by kernel_rfl) (by rfl) hs9 (fun W' hSw => (by go_simp; first | done | with_reducible rfl)) ?_
          simp only [List.setIfInBounds_toArray, List.set_cons_zero, List.set_cons_succ]
          have k1' : decide ((zn : Int) < 64) = true := by simp; omega
          have k2' : (0 : Int) ≤ (zn : Int) := by omega
          have k3' : (zn : Int) < 64 := by omega
          have k4' : zn < 64 := by omega
          refine H9.sector h6.out (i := zn) k4' ?_
          intro sx hsx cx fx
          have HA := H9.store h6.out (i := zn) (by rw [h6.out]; exact k4') tx
          have hsA := HA.bx.c0
          clear hsx
          refine Disk.z_run 9 48 (v := .pointer (some ⟨rb, zn, none⟩)) rfl rfl (by kernel_rfl) (by rfl) (by go_simp; first | done | with_reducible rfl) (.inr hs9) ?_
          simp only [List.setIfInBounds_toArray, List.set_cons_zero, List.set_cons_succ]
          refine Disk.z_skip 10 rfl rfl (by kernel_rfl) (by rfl) (by go_simp; first | done | with_reducible rfl) (.inr hsA) ?_
          refine Disk.z_done (by kernel_rfl) ?_ _
          clear H9 hs9 cx fx k1' k2' k3' k4' hsA hs0
          have RT := HA.ret HB.out.1 (Nat.le_refl _) HB.out.2
          have p0 := RT.2.2.1.c0
          have p1 := RT.2.2.1.c1
          have y0 := HA.bx.c0
          have y1 := HA.bx.c1
          have o0 := HA.rs.c0
          have o1 := HA.rs.c1
          have of0 := HA.rs.f (o := 0)
          have of1 := HA.rs.f (o := 1)
          have FIN : Hid (_ ∧ _ ∧ _) := ⟨HA.l1, HA.l2, HA.cp⟩
          clear HA
          go_wp2
          exact bodyPost_ret (v := .agg #[.slice (some ⟨rb, 0, none⟩) 64 rc, .slice a2 ws.length k2]) (by simp [results, Tryz.results23, go_sem, p0, p1]) rfl ⟨⟨_, _, (st.set zn tx), ws, rfl, RT.1, RT.2.1, FIN.out.1, FIN.out.2.1, FIN.out.2.2, RT.2.2.2.2.1, RT.2.2.2.2.2⟩, RT.2.2.2.1⟩
  · skip
    obtain ⟨a1, k1, e1, _⟩ := id s1
    have H0 := mk _ _ e1 e2
    subst e1
    subst e2
    have n1 : decide ((ss.length : Int) = 64) = false := by simp; omega
    have n2 : ((ss.length : Int) == 64) = false := by simp; omega
    have SZ : Hid (∀ s ∈ ss, s.size ≤ 257) := sz
    clear h64 mk s1 s2 k6 o1 o2 cp sz g2 d2 l1 l2 R0 h0 hb1 d1
    have ON := H0.dw.once 4 (by omega) (by omega)
    go_wp2_with fail
    refine ON.mono ?_
    rintro x w3 ⟨⟨b, rfl⟩, g3, d3⟩
    have H3 := H0.step g3 d3
    clear ON H0 g3 d3
    have m0 := H3.bx.c0
    have m1 := H3.bx.c1
    cases b
    · clear m0 m1
      have ON2 := H3.dw.once 12 (by omega) (by omega)
      go_wp2_with fail
      refine ON2.mono ?_
      rintro x w5 ⟨⟨b2, rfl⟩, g5, d5⟩
      have H5 := H3.step g5 d5
      clear ON2 g5 d5 H3
      have m0 := H5.bx.c0
      have m1 := H5.bx.c1
      cases b2
      · clear m0 m1
        have RT := H5.ret HB.out.1 (Nat.le_refl _) HB.out.2
        have p0 := RT.2.2.1.c0
        have p1 := RT.2.2.1.c1
        have y0 := H5.bx.c0
        have y1 := H5.bx.c1
        have o0 := H5.rs.c0
        have o1 := H5.rs.c1
        have of0 := H5.rs.f (o := 0)
        have of1 := H5.rs.f (o := 1)
        have FIN : Hid (_ ∧ _ ∧ _) := ⟨H5.l1, H5.l2, H5.cp⟩
        clear H5
        go_wp2
        exact bodyPost_ret (v := .agg #[.slice a1 ss.length k1, .slice a2 ws.length k2]) (by simp [results, Tryz.results23, go_sem, p0, p1]) rfl ⟨⟨_, _, ss, ws, rfl, RT.1, RT.2.1, FIN.out.1, FIN.out.2.1, FIN.out.2.2, RT.2.2.2.2.1, RT.2.2.2.2.2⟩, RT.2.2.2.1⟩
      · skip
        have RT := H5.ret HB.out.1 (Nat.le_refl _) HB.out.2
        have p0 := RT.2.2.1.c0
        have p1 := RT.2.2.1.c1
        have y0 := H5.bx.c0
        have y1 := H5.bx.c1
        have o0 := H5.rs.c0
        have o1 := H5.rs.c1
        have of0 := H5.rs.f (o := 0)
        have of1 := H5.rs.f (o := 1)
        have FIN : Hid (_ ∧ _ ∧ _) := ⟨H5.l1, H5.l2, H5.cp⟩
        clear H5
        go_wp2
        exact bodyPost_ret (v := .agg #[.slice a1 ss.length k1, .slice a2 ws.length k2]) (by simp [results, Tryz.results23, go_sem, p0, p1]) rfl ⟨⟨_, _, ss, ws, rfl, RT.1, RT.2.1, FIN.out.1, FIN.out.2.1, FIN.out.2.2, RT.2.2.2.2.1, RT.2.2.2.2.2⟩, RT.2.2.2.1⟩
    · skip
      have ON2 := H3.dw.once 12 (by omega) (by omega)
      go_wp2_with fail
      refine ON2.mono ?_
      rintro x w5 ⟨⟨b2, rfl⟩, g5, d5⟩
      have H5 := H3.step g5 d5
      clear ON2 g5 d5 H3
      have m0 := H5.bx.c0
      have m1 := H5.bx.c1
      cases b2
      · clear m0 m1
        have RT := H5.ret HB.out.1 (Nat.le_refl _) HB.out.2
        have p0 := RT.2.2.1.c0
        have p1 := RT.2.2.1.c1
        have y0 := H5.bx.c0
        have y1 := H5.bx.c1
        have o0 := H5.rs.c0
        have o1 := H5.rs.c1
        have of0 := H5.rs.f (o := 0)
        have of1 := H5.rs.f (o := 1)
        have FIN : Hid (_ ∧ _ ∧ _) := ⟨H5.l1, H5.l2, H5.cp⟩
        clear H5
        go_wp2
        exact bodyPost_ret (v := .agg #[.slice a1 ss.length k1, .slice a2 ws.length k2]) (by simp [results, Tryz.results23, go_sem, p0, p1]) rfl ⟨⟨_, _, ss, ws, rfl, RT.1, RT.2.1, FIN.out.1, FIN.out.2.1, FIN.out.2.2, RT.2.2.2.2.1, RT.2.2.2.2.2⟩, RT.2.2.2.1⟩
      · skip
        have RT := H5.ret HB.out.1 (Nat.le_refl _) HB.out.2
        have p0 := RT.2.2.1.c0
        have p1 := RT.2.2.1.c1
        have y0 := H5.bx.c0
        have y1 := H5.bx.c1
        have o0 := H5.rs.c0
        have o1 := H5.rs.c1
        have of0 := H5.rs.f (o := 0)
        have of1 := H5.rs.f (o := 1)
        have FIN : Hid (_ ∧ _ ∧ _) := ⟨H5.l1, H5.l2, H5.cp⟩
        clear H5
        go_wp2
        exact bodyPost_ret (v := .agg #[.slice a1 ss.length k1, .slice a2 ws.length k2]) (by simp [results, Tryz.results23, go_sem, p0, p1]) rfl ⟨⟨_, _, ss, ws, rfl, RT.1, RT.2.1, FIN.out.1, FIN.out.2.1, FIN.out.2.2, RT.2.2.2.2.1, RT.2.2.2.2.2⟩, RT.2.2.2.1⟩

end Go.Proofs.YtjclpbaiiklhcaaGreatDoor

/- DrawCommit of the model. -/
namespace Go.Proofs.YtjclpbaiiklhcaaGreatDoor
open Go.RowKit

theorem grown_of {w w' : World} {N : Nat} (hb : Below w.heap.size w w') : w.grownBy w' (some N) := ⟨hb.os, hb.tape, hb.output, hb.size, fun k hk _ => hb.block k hk⟩

set_option maxRecDepth 100000 in
set_option maxHeartbeats 3200000 in
theorem drawCommit_any (cv : Value) (cs : List UInt8) (w : World) (hc : BR w cv cs) (hn : cs.length ≤ 4096) :
    Calls Tryz.prog 6 #[cv] w fun x w' => (∃ (u1 u2 bv : Value) (ss : List ByteArray) (ws : List Disk.Wr) (bs : List ByteArray), x = .returned (.tuple #[.agg #[u1, u2], bv]) ∧ Disk.SR w' u1 ss ∧ Disk.WR w' u2 ws ∧ Disk.SR w' bv bs ∧ ss.length ≤ 64 ∧ ws.length ≤ 300 ∧ bs.length ≤ 31 ∧ Disk.CapS u1 ∧ Low w.heap.size u1 ∧ Low w.heap.size u2 ∧ Low w.heap.size bv) ∧ Below w.heap.size w w' := by
  have h0 := Disk.bel_one w (.cells #[.slice none 0 0, .slice none 0 0] 27)
  have NW := l1New_any cv cs (w.alloc (.cells #[.slice none 0 0, .slice none 0 0] 27)) (hc.later h0) hn
  have R0 := Bx.new w (.slice none 0 0) (.slice none 0 0)
  have z0 : (w.alloc (.cells #[.slice none 0 0, .slice none 0 0] 27)).heap.size = w.heap.size + 1 := by simp
  go_enter Tryz.func6, Tryz.ntmps6
  go_wp2_with fail
  refine NW.mono ?_
  rintro x w1 ⟨N, rfl, hN, hN1, hb1, d1⟩
  clear NW
  rw [z0] at hN
  go_wp2_with fail
  refine (drawNewest_any cv cs w1 ((hc.later h0).later hb1) hn).mono ?_
  rintro x w2 ⟨⟨u1, u2, ss, ws, rfl, s1, s2, l1, l2, cp, o1, o2⟩, hb2⟩
  have g2 : w1.grownBy w2 (some N) := grown_of hb2
  have d2 := d1.later hb2 hN1
  have hN2 : N < w2.heap.size := Nat.lt_of_lt_of_le hN1 g2.size
  obtain ⟨a1, k1, e1, _⟩ := id s1
  obtain ⟨a2, k2, e2, _⟩ := id s2
  subst e1
  subst e2
  have hw1 : w.heap.size < w1.heap.size := by omega
  have S1 : Hid (∀ W : World, w2.grownBy W (some N) → Disk.SR ((W.setCell ⟨w.heap.size, 0, none⟩ (.slice a1 ss.length k1)).setCell ⟨w.heap.size, 1, none⟩ (.slice a2 ws.length k2)) (.slice a1 ss.length k1) ss) := fun W g => sr_off (sr_keep s1 o1 hN1 g) o1 hw1
  have S2 : Hid (∀ W : World, w2.grownBy W (some N) → Disk.WR ((W.setCell ⟨w.heap.size, 0, none⟩ (.slice a1 ss.length k1)).setCell ⟨w.heap.size, 1, none⟩ (.slice a2 ws.length k2)) (.slice a2 ws.length k2) ws) := fun W g => wr_off (wr_keep s2 o2 hN1 g) o2 hw1
  have BW : Hid (∀ W : World, w2.grownBy W (some N) → Below w.heap.size w ((W.setCell ⟨w.heap.size, 0, none⟩ (.slice a1 ss.length k1)).setCell ⟨w.heap.size, 1, none⟩ (.slice a2 ws.length k2))) := fun W g => gbel (gbel (bel_after h0 hb1) (gtrans g2 g) (by have := hb1.size; omega) (by omega)) (gset (gset1 W w.heap.size 0 (.slice a1 ss.length k1)) 1 (.slice a2 ws.length k2)) (by have := (gtrans g2 g).size; omega) (Nat.le_refl _)
  have RB : Hid (∀ W : World, w2.grownBy W (some N) → Bx W w.heap.size (.slice none 0 0) (.slice none 0 0)) := fun W g => (R0.later hb1).grown (gtrans g2 g) (fun e => by have := Option.some.inj e; omega)
  have gA : w2.grownBy (w2.alloc (.cells #[.slice a1 ss.length k1, .slice a2 ws.length k2] 27)) (some N) := galloc _ _ _
  have dA := d2.grown gA d2 (galloc _ _ none) (by simp) hN2
  have DB : Hid (∀ W : World, (w2.alloc (.cells #[.slice a1 ss.length k1, .slice a2 ws.length k2] 27)).grownBy W (some N) → Bx W w2.heap.size (.slice a1 ss.length k1) (.slice a2 ws.length k2)) := fun W g => (Bx.new w2 _ _).grown g (fun e => by have := Option.some.inj e; omega)
  have FX : Hid (ss.length ≤ 64 ∧ ws.length ≤ 300 ∧ Disk.CapS (.slice a1 ss.length k1) ∧ Low w.heap.size (.slice a1 ss.length k1) ∧ Low w.heap.size (.slice a2 ws.length k2)) := ⟨l1, l2, cp, fun a n c e h => Nat.le_trans (Nat.le_of_lt hw1) (o1 a n c e h), fun a n c e h => Nat.le_trans (Nat.le_of_lt hw1) (o2 a n c e h)⟩
  have hNA : N < (w2.alloc (.cells #[.slice a1 ss.length k1, .slice a2 ws.length k2] 27)).drew.heap.size := Nat.lt_of_lt_of_le hN2 gA.size
  have szA : w2.heap.size ≤ (w2.alloc (.cells #[.slice a1 ss.length k1, .slice a2 ws.length k2] 27)).drew.heap.size := gA.size
  have hne : w2.heap.size ≠ w.heap.size := by have := g2.size; omega
  have BD := dA.drew.bodies hNA
  have m0 := (DB.out _ (gdrew (World.grownBy.refl _ _))).c0
  have m1 := (DB.out _ (gdrew (World.grownBy.refl _ _))).c1
  have gd : (w2.alloc (.cells #[.slice a1 ss.length k1, .slice a2 ws.length k2] 27)).grownBy (w2.alloc (.cells #[.slice a1 ss.length k1, .slice a2 ws.length k2] 27)).drew (some N) := gdrew (World.grownBy.refl _ _)
  clear s1 s2 o1 o2 d1 R0 cp l1 l2 hb2
  go_wp2_with fail
  go_region_held3 (fun w' => w'.cell? ⟨w2.heap.size, 0, none⟩ = some (.slice a1 ss.length k1) ∧ w'.cell? ⟨w2.heap.size, 1, none⟩ = some (.slice a2 ws.length k2))
    (first | assumption | (exact ⟨m0, m1⟩) | (exact ⟨(DB.out _ gw5).c0, (DB.out _ gw5).c1⟩) | (exact ⟨(bx_off (DB.out _ gw5) hne _ _).c0, (bx_off (DB.out _ gw5) hne _ _).c1⟩))
    (first | (go_at_call 24; refine BD.mono ?_; rintro x w5 ⟨⟨bv, bs, rfl, nb, lb⟩, g5, d5⟩; have gw5 := gtrans gd g5; have q5 := RB.out _ (gtrans gA gw5); have o0 := q5.c0; have o1 := q5.c1; have of0 := q5.f (o := 0); have of1 := q5.f (o := 1)))
  all_goals go_wp2
  have p0 := (q5.set (.slice a1 ss.length k1) (.slice a2 ws.length k2)).c0
  have p1 := (q5.set (.slice a1 ss.length k1) (.slice a2 ws.length k2)).c1
  have lw : Low w2.heap.size bv := fun a n c e h => Nat.le_trans szA (low_ns nb a n c e h)
  have sb := sr_off (x := .slice a1 ss.length k1) (y := .slice a2 ws.length k2) nb.2.1 lw (by have := g2.size; omega : w.heap.size < w2.heap.size)
  exact bodyPost_ret (v := .tuple #[.agg #[.slice a1 ss.length k1, .slice a2 ws.length k2], bv]) (by simp [results, Tryz.results6, go_sem, p0, p1]) rfl ⟨⟨_, _, bv, ss, ws, bs, rfl, S1.out _ (gtrans gA gw5), S2.out _ (gtrans gA gw5), sb, FX.out.1, FX.out.2.1, lb, FX.out.2.2.1, FX.out.2.2.2.1, FX.out.2.2.2.2, fun a n c e h => Nat.le_trans (by have := g2.size; omega) (lw a n c e h)⟩, BW.out _ (gtrans gA gw5)⟩

end Go.Proofs.YtjclpbaiiklhcaaGreatDoor

/- pick and big of the laws. -/
namespace Go.Proofs.YtjclpbaiiklhcaaGreatDoor
open Go.RowKit


theorem big_any (cv : Value) (cs : List UInt8) (w : World) (hc : BR w cv cs) :
    Calls Tryz.prog 5 #[cv] w fun x w' => x = .returned (.bool (decide (4096 < cs.length))) ∧ w' = w := by
  obtain ⟨ao, cap, rfl, hcap, hr⟩ := hc
  have e : decide (4096 < cs.length) = decide ((4096 : Int) < (cs.length : Int)) := by rw [decide_eq_decide]; omega
  rw [e]
  go_enter Tryz.func5, Tryz.ntmps5
  go_wp2
  go_ret
  exact ⟨rfl, rfl⟩

end Go.Proofs.YtjclpbaiiklhcaaGreatDoor

/- superPut of the program. -/
namespace Go.Proofs.YtjclpbaiiklhcaaGreatDoor
open Go.RowKit Disk

theorem WR_take {w : World} {ao : Option Addr} {n cap : Nat} {W : List Wr} {p : Nat} (h : WR w (.slice ao n cap) W) (hp : p ≤ W.length) : WR w (.slice ao p cap) (W.take p) := by
  obtain ⟨ao', cap', e, h⟩ := h
  simp only [Value.slice.injEq] at e
  obtain ⟨rfl, rfl, rfl⟩ := e
  have e1 : (W.take p).length = p := by rw [List.length_take]; omega
  refine ⟨ao, cap, by rw [e1], fun i hi => ?_⟩
  rw [e1] at hi
  obtain ⟨b, o, e2, c0, c1⟩ := h i (by omega)
  have e3 : (W.take p).getD i wr0 = W.getD i wr0 := by simp [List.getD_eq_getElem?_getD, hi]
  exact ⟨b, o, e2, by rw [e3]; exact c0, by rw [e3]; exact c1⟩
theorem WR_drop {w : World} {b o n cap cap' : Nat} {W : List Wr} {p m : Nat} (h : WR w (.slice (some ⟨b, o, none⟩) n cap) W) (hp : W.length = p + m) : WR w (.slice (some ⟨b, o + p * 2, none⟩) m cap') (W.drop p) := by
  obtain ⟨ao', cap'', e, h⟩ := h
  simp only [Value.slice.injEq] at e
  obtain ⟨rfl, rfl, rfl⟩ := e
  have e1 : (W.drop p).length = m := by rw [List.length_drop]; omega
  refine ⟨_, _, by rw [e1], fun i hi => ?_⟩
  rw [e1] at hi
  obtain ⟨b2, o2, e2, c0, c1⟩ := h (p + i) (by omega)
  cases e2
  have e3 : (W.drop p).getD i wr0 = W.getD (p + i) wr0 := by simp [List.getD_eq_getElem?_getD]
  refine ⟨b, o + p * 2, rfl, ?_, ?_⟩
  · rw [e3]
    have : o + p * 2 + i * 2 = o + (p + i) * 2 := by omega
    rw [this]
    exact c0
  · rw [e3]
    have : o + p * 2 + i * 2 + 1 = o + (p + i) * 2 + 1 := by omega
    rw [this]
    exact c1

theorem keepB1 {W a : World} {D : Nat} {u : Value} (hb : Below W.heap.size W a) (c : W.cell? ⟨D, 0, none⟩ = some u) (lt : D < W.heap.size) : Below W.heap.size W a ∧ a.cell? ⟨D, 0, none⟩ = some u := ⟨hb, (hb.cell (p := ⟨D, 0, none⟩) lt).trans c⟩
theorem sb2d {a b : World} {C : Prop} (hb : Below (a.alloc (.cells #[.slice none 0 0, .slice none 0 0] 27)).drew.heap.size (a.alloc (.cells #[.slice none 0 0, .slice none 0 0] 27)).drew b)
    (k : b.cell? ⟨a.heap.size, 0, none⟩ = some (.slice none 0 0) → b.cell? ⟨a.heap.size, 1, none⟩ = some (.slice none 0 0) → b.frozen? ⟨a.heap.size, 0, none⟩ = false → b.frozen? ⟨a.heap.size, 1, none⟩ = false → a.heap.size < b.heap.size → C) : C := by
  have r : Res a.heap.size (a.alloc (.cells #[.slice none 0 0, .slice none 0 0] 27)).drew := ⟨cell_new a _ 27 _ rfl 0 _ rfl, cell_new a _ 27 _ rfl 1 _ rfl, frozen_new a _ 27 _ rfl 0, frozen_new a _ 27 _ rfl 1, by show a.heap.size < (a.alloc _).heap.size; simp⟩
  obtain ⟨x0, x1, y0, y1, z⟩ := r.later hb
  exact k x0 x1 y0 y1 z

set_option maxRecDepth 100000 in
set_option maxHeartbeats 3200000 in
theorem superPut_any (v1 v2 : Value) (b : Nat) (ss : List ByteArray) (W : List Wr) (p c : Nat) (w : World) (hv1 : SR w v1 ss) (hw : WR w (.slice (some ⟨b, 0, none⟩) (p + 1) (p + (c + 1))) W) (hl : W.length = p + 1) (hp : p ≤ 40) (h1 : ss.length ≤ 10000000000000) (ok1 : okD ss (W.take p) = true) :
    Calls Tryz.prog 28 #[.agg #[v1, v2], .slice (some ⟨b, 0, none⟩) (p + 1) (p + (c + 1))] w fun e w' => ∃ u1 u2, e = .returned (.agg #[u1, u2]) ∧ SR w' u1 (doneS ss (W.take p)) ∧ WR w' u2 (W.drop p) ∧ Below w.heap.size w w' := by
  obtain ⟨sao, scp, hsv, _⟩ := id hv1
  subst hsv
  have hb0 := Disk.bel_two w (.cells #[(.slice sao ss.length scp), v2] 27) (.cells #[.slice none 0 0, .slice none 0 0] 27)
  have HD := fun W' (hb : Below w.heap.size w W') => implHold_any (.slice sao ss.length scp) (.slice (some ⟨b, 0, none⟩) p (p + (c + 1))) ss (W.take p) W' (hv1.later hb) (WR_take (hw.later hb) (by omega)) h1 (by rw [List.length_take]; omega)
  rw [hold_done ok1] at HD
  have c0 : ((w.alloc (.cells #[(.slice sao ss.length scp), v2] 27)).alloc (.cells #[.slice none 0 0, .slice none 0 0] 27)).cell? ⟨w.heap.size, 0, none⟩ = some (.slice sao ss.length scp) := cell_later (Disk.bel_one _ _) (cell_new w #[(.slice sao ss.length scp), v2] 27 _ rfl 0 _ rfl)
  go_enter Tryz.func28, Tryz.ntmps28
  go_wp2_with fail
  have R0 : Res (w.heap.size + 1) ((w.alloc (.cells #[(.slice sao ss.length scp), v2] 27)).alloc (.cells #[.slice none 0 0, .slice none 0 0] 27)) := ⟨cell_new _ _ 27 _ (by simp) 0 _ rfl, cell_new _ _ 27 _ (by simp) 1 _ rfl, frozen_new _ _ 27 _ (by simp) 0, frozen_new _ _ 27 _ (by simp) 1, by simp⟩
  generalize (w.alloc (.cells #[(.slice sao ss.length scp), v2] 27)).alloc (.cells #[.slice none 0 0, .slice none 0 0] 27) = W0 at *
  have ltD : w.heap.size < W0.heap.size := World.block_lt_of_cell? _ _ c0
  have ltR : w.heap.size + 1 < W0.heap.size := R0.2.2.2.2
  have hpi : (p : Int) ≤ (p : Int) + ((c : Int) + 1) := by omega
  have HR0 : Hid (Res (w.heap.size + 1) W0) := R0
  clear R0
  go_cut [6] (fun pv wc => ∃ (SB : Nat) (u1 u2 : Value), pv = .pointer (some ⟨SB, 0, none⟩) ∧ W0.heap.size ≤ SB ∧ wc.cell? ⟨SB, 0, none⟩ = some u1 ∧ NS W0.heap.size wc u1 (doneS ss (W.take p)) ∧ Res (w.heap.size + 1) wc ∧ Below w.heap.size w wc)
  case first =>
    go_region_held3 (fun w' => Below W0.heap.size W0 w' ∧ w'.cell? ⟨w.heap.size, 0, none⟩ = some (.slice sao ss.length scp))
      (first | assumption | (exact ⟨(Below.refl _ _).drew, c0⟩) | (exact keepB1 (bel_after (And.left (by assumption)) (by assumption)) c0 ltD) | (exact keepB1 (bel_after (And.left (by assumption)) (Disk.bel_one _ _)) c0 ltD) | (exact keepB1 (bel_after (bel_after (Below.refl _ _).drew hb3) (Disk.bel_one _ _)) c0 ltD) | (exact keepB1 (((bel_after (Disk.bel_one _ _).drew hb3).setCell (p := ⟨W0.heap.size, 0, none⟩) (Nat.le_refl _) _).setCell (p := ⟨W0.heap.size, 1, none⟩) (Nat.le_refl _) _) c0 ltD))
      (first
        | (go_at_call 27; refine (HD _ ?_).mono ?_; (focus (exact bel_after hb0 (And.left (by assumption)))); rintro x w3 ⟨x1, x2, rfl, hN, hb3⟩; obtain ⟨xa, xn, xc, rfl⟩ := hN.s1; obtain ⟨ya, yn, yc, rfl⟩ := hN.s2; (first | (refine sb2d hb3 ?_; intro zc0 zc1 zf0 zf1 zlt) | skip)))
    all_goals go_wp2_with fail
    all_goals go_meet
    · have bA := bel_after hb3 (Disk.bel_one w3 (.cells #[.slice xa xn xc, .slice ya yn yc] 27))
      exact ⟨w3.heap.size, .slice xa xn xc, .slice ya yn yc, rfl, hb3.size, cell_new w3 _ 27 _ rfl 0 _ rfl, NS.later (B := W0.heap.size) ⟨hN.1, hN.2.2.1, hN.2.2.2.2.1⟩ (Disk.bel_one _ _), HR0.out.later (bel_after (Below.refl _ _).drew bA), bel_after hb0.drew bA⟩
    · have hS3 : NS (W0.heap.size + 1) w3 (.slice xa xn xc) (doneS ss (W.take p)) := ⟨hN.1, hN.2.2.1, fun b e => by have := hN.2.2.2.2.1 b e; simpa using this⟩
      have P1 := (hS3.store (b := W0.heap.size) (o := 0) (.slice xa xn xc) (Nat.lt_succ_self _)).store (b := W0.heap.size) (o := 1) (.slice ya yn yc) (Nat.lt_succ_self _)
      have bA : Below W0.heap.size W0 ((w3.setCell ⟨W0.heap.size, 0, none⟩ (.slice xa xn xc)).setCell ⟨W0.heap.size, 1, none⟩ (.slice ya yn yc)) := ((bel_after (Disk.bel_one _ _).drew hb3).setCell (p := ⟨W0.heap.size, 0, none⟩) (Nat.le_refl _) _).setCell (p := ⟨W0.heap.size, 1, none⟩) (Nat.le_refl _) _
      have q0 : ((w3.setCell ⟨W0.heap.size, 0, none⟩ (.slice xa xn xc)).setCell ⟨W0.heap.size, 1, none⟩ (.slice ya yn yc)).cell? ⟨W0.heap.size, 0, none⟩ = some (.slice xa xn xc) := by
        rw [World.cell?_setCell_other _ _ _ _ (by simp)]
        exact World.cell?_setCell_same _ _ _ zc0
      exact ⟨W0.heap.size, .slice xa xn xc, .slice ya yn yc, rfl, Nat.le_refl _, q0, P1.mono (Nat.le_succ _), HR0.out.later bA, bel_after hb0 bA⟩
  case rest =>
    obtain ⟨SB, u1, u2, rfl, hSB, s0, hsr, hR, hbw⟩ := hcut
    obtain ⟨ua, un, uc, hu1⟩ := hsr.s1
    subst hu1
    have bLt : b < w.heap.size := by
      obtain ⟨_, _, e, hh⟩ := hw
      simp only [Value.slice.injEq] at e
      obtain ⟨rfl, _, _⟩ := e
      obtain ⟨b2, o2, e2, c0, _⟩ := hh 0 (by omega)
      cases e2
      exact World.block_lt_of_cell? _ _ c0
    have q0 := hR.1
    have q1 := hR.2.1
    have f0 := hR.2.2.1
    have f1 := hR.2.2.2.1
    have nes : ¬ SB = w.heap.size + 1 := by omega
    have nes' : ¬ w.heap.size + 1 = SB := by omega
    have hwd := WR_drop (p := p) (m := 1) (cap' := c + 1) (hw.later hbw) hl
    have hpc : ¬ c + 1 = 0 := by omega
    go_wp2
    go_region
    all_goals go_wp2
    have P1 := (hsr.store (b := w.heap.size + 1) (o := 0) (.slice ua un uc) (by omega)).store (b := w.heap.size + 1) (o := 1) (.slice (some ⟨b, p * 2, none⟩) 1 (c + 1)) (by omega)
    have P2 := (hbw.setCell (p := ⟨w.heap.size + 1, 0, none⟩) (by simp) (.slice ua un uc)).setCell (p := ⟨w.heap.size + 1, 1, none⟩) (by simp) (.slice (some ⟨b, p * 2, none⟩) 1 (c + 1))
    rw [Nat.zero_add] at hwd
    have P3 := (hwd.grown (grown_set wc (w.heap.size + 1) 0 (.slice ua un uc)) (.inr (by simp [Value.ownBlock]; omega))).grown (grown_set _ (w.heap.size + 1) 1 (.slice (some ⟨b, p * 2, none⟩) 1 (c + 1))) (.inr (by simp [Value.ownBlock]; omega))
    exact bodyPost_ret (v := .agg #[.slice ua un uc, .slice (some ⟨b, p * 2, none⟩) 1 (c + 1)]) (by simp [results, Tryz.results28, go_sem, q0, q1]) rfl ⟨_, _, rfl, P1.2.1, P3, P2.drew⟩
end Go.Proofs.YtjclpbaiiklhcaaGreatDoor
