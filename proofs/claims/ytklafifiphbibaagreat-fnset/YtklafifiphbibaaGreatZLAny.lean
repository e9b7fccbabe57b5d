/- The draw of a heap that may be wrong: l5DrawAny of the model. -/
import Derived.Test.YtklafifiphbibaaGreatZV10
import Derived.Test.YtklafifiphbibaaGreatZLDraw
import Derived.Test.YtklafifiphbibaaGreatZV9
import Derived.Test.YtklafifiphbibaaGreatZCReach
import Derived.Test.YtklafifiphbibaaGreatZV12
namespace Go.Proofs.YtklafifiphbibaaGreat
open Go.RowKit

theorem RI.later' {W W' : World} {N g c : Nat} {cv : Value} {cs : List UInt8} {l : List Int} (h : RI W g l c) (s : Sx W N cv cs W') (hN : g ≠ N) : RI W' g l c := h.grown s.1 (fun e => hN (Option.some.inj e))
theorem row_new {W cur : World} {N : Nat} {cv : Value} {cs : List UInt8} (hs : Sx W N cv cs cur) (hN : N < W.heap.size) (a b c d : Int) : ∃ wb gb, wb = cur.alloc (.cells #[.int .i64 a, .int .i64 b, .int .i64 c, .int .i64 d] 2) ∧ gb = cur.heap.size ∧ Sx W N cv cs wb ∧ RI wb gb [a, b, c, d] 4 ∧ N < gb :=
  ⟨_, _, rfl, rfl, hs.more (bel_one _ _) hN, four_ri cur a b c d, Nat.lt_of_lt_of_le hN hs.1.size⟩
theorem one_new {W cur : World} {N : Nat} {cv : Value} {cs : List UInt8} (hs : Sx W N cv cs cur) (hN : N < W.heap.size) (y : Int) : ∃ wc gc, wc = cur.alloc (.cells #[.int .i64 y] 2) ∧ gc = cur.heap.size ∧ Sx W N cv cs wc ∧ wc.cell? ⟨gc, 0, none⟩ = some (.int .i64 y) ∧ Below cur.heap.size cur wc :=
  ⟨_, _, rfl, rfl, hs.more (bel_one _ _) hN, by simp, bel_one _ _⟩
theorem own_someA {w : World} {B n : Nat} {v : Value} {xs : List Value} (h : w.ownsRow B 2 1 v n xs) (hn : 0 < n) : ∃ g c, v = .slice (some ⟨g, 0, none⟩) n c := by
  rcases h.2 with ⟨_, e⟩ | ⟨g, cap, cur, e, _⟩
  · omega
  · exact ⟨g, cap, e⟩

set_option maxRecDepth 100000 in
set_option maxHeartbeats 6400000 in
theorem Dw.any {N : Nat} {cv : Value} {cs : List UInt8} {w : World} (h : Dw N cv cs w) (hN : N < w.heap.size) :
    Calls Tryz.prog 42 #[.pointer (some ⟨N, 0, none⟩)] w fun x w' => DrawnA w N cv cs x w' := by
  have al := bel_one w (.cells #[.slice none 0 0, .slice none 0 0, .int .i64 0, .int .i64 0, .int .i64 0, .bool false, .int .i64 0, .slice none 0 0] 26)
  have RS0 := row_any w #[.slice none 0 0, .slice none 0 0, .int .i64 0, .int .i64 0, .int .i64 0, .bool false, .int .i64 0, .slice none 0 0] 26
  have hNA : N < (w.alloc (.cells #[.slice none 0 0, .slice none 0 0, .int .i64 0, .int .i64 0, .int .i64 0, .bool false, .int .i64 0, .slice none 0 0] 26)).heap.size := by simp; omega
  have HD := (h.more al hN).heap hNA
  have sA : (w.alloc (.cells #[.slice none 0 0, .slice none 0 0, .int .i64 0, .int .i64 0, .int .i64 0, .bool false, .int .i64 0, .slice none 0 0] 26)).heap.size = w.heap.size + 1 := by simp
  go_enter Tryz.func42, Tryz.ntmps42
  go_wp2_with fail
  refine HD.mono ?_
  rintro e w1 ⟨⟨u, t, rfl, HU, sm, wl⟩, g1, d1⟩
  have wl1 : 3200 ≤ t.words.length := by omega
  have wl2 : t.words.length ≤ 3200 := by omega
  clear wl HD
  obtain ⟨v1, v2, v3, rfl, ⟨o1, o2, o3⟩, dd1, dd2⟩ := HU.ex
  obtain ⟨g, c, rfl⟩ := own_someA o1 (by omega)
  obtain ⟨RG0, gB0, mxc⟩ := RI.of_owns o1
  obtain ⟨p2, e2, rfl, -⟩ := IRs (IR_of_owns o2)
  obtain ⟨p3, e3, rfl, -⟩ := IRs (IR_of_owns o3)
  rw [sA] at gB0
  have cle : t.words.length ≤ c := RG0.le
  have ltg : g < w1.heap.size := RG0.lt
  have al1 := bel_one w1 (.cells #[.slice (some ⟨g, 0, none⟩) t.words.length c, .slice p2 t.roots.length e2, .int .i64 t.old, .int .i64 t.eden, .int .i64 t.surv, .bool t.flip, .int .i64 t.hash, .slice p3 t.kept.length e3] 26)
  have sz1 : w.heap.size + 1 ≤ w1.heap.size := by have := g1.size; rw [sA] at this; exact this
  have ib : ∀ b, inB (.slice (some ⟨g, 0, none⟩) t.words.length c) b → b = g := fun b q => by
    obtain ⟨o, n, d, e, _⟩ := q
    simp only [Value.slice.injEq, Option.some.injEq, Addr.mk.injEq] at e
    exact e.1.1.symm
  have D1 : AD w N cv cs w1.heap.size (w1.alloc (.cells #[.slice (some ⟨g, 0, none⟩) t.words.length c, .slice p2 t.roots.length e2, .int .i64 t.old, .int .i64 t.eden, .int .i64 t.surv, .bool t.flip, .int .i64 t.hash, .slice p3 t.kept.length e3] 26)) t (.slice (some ⟨g, 0, none⟩) t.words.length c) (.slice p2 t.roots.length e2) (.slice p3 t.kept.length e3) := by
    have gw1 : w.grownBy w1 (some N) := gtrans ⟨al.os, al.tape, al.output, al.size, fun k hk _ => al.block k hk⟩ g1
    refine ⟨d1.more al1 (by omega), h, gtrans gw1 ⟨al1.os, al1.tape, al1.output, al1.size, fun k hk _ => al1.block k hk⟩, row_any w1 #[.slice (some ⟨g, 0, none⟩) t.words.length c, .slice p2 t.roots.length e2, .int .i64 t.old, .int .i64 t.eden, .int .i64 t.surv, .bool t.flip, .int .i64 t.hash, .slice p3 t.kept.length e3] 26, (HA.of (own_down o1 (by omega)) (own_down o2 (by omega)) (own_down o3 (by omega)) dd1 dd2).later al1, ⟨_, (RS0.of_block (g1.block _ RS0.lt (fun e => by injection e; omega))).of_block (al1.block _ (by omega))⟩, fun q => by have := ib _ q; omega, fun q => by have := ib _ q; omega, hN, by omega, ⟨by omega, by have := sm.2.1; omega, by have := sm.2.2; omega⟩⟩
  have RG1 := RG0.later al1
  have hNg : g ≠ N := by omega
  have BO := D1.dw.once 14 (by omega) (by omega)
  clear o1 o2 o3 dd1 dd2 HU RG0 al al1 RS0 g1 d1 ib sA hNA ltg sz1
  go_wp2_with fail
  refine BO.mono ?_
  rintro x w2 ⟨⟨bo, rfl⟩, go, dO⟩
  have D2 := D1.step ⟨go, dO⟩
  have RG2 := RG1.later' ⟨go, dO⟩ hNg
  clear BO go dO D1 RG1
  generalize w1.heap.size = H at *
  have WF : True := trivial
  cases bo
  · obtain ⟨c0, c1, c2, c3, c4, c5, c6, c7⟩ := va8_cells D2.row
    obtain ⟨fR, FR⟩ := D2.res
    have OKC : (#[.slice (some ⟨g, 0, none⟩) t.words.length c, .slice p2 t.roots.length e2, .int .i64 t.old, .int .i64 t.eden, .int .i64 t.surv, .bool t.flip, .int .i64 t.hash, .slice p3 t.kept.length e3] : Array Value).all (·.oneCell') = true := by simp [Value.oneCell']
    have ED := fun W' (q : World.grownBy _ W' _) => D2.done q
    clear WF
    go_wp2_with ((with_reducible refine store_box _ ?_ (.tmp 2) (.tmp 77) 26 ?_ 26 w.heap.size 8 #[.slice (some ⟨g, 0, none⟩) t.words.length c, .slice p2 t.roots.length e2, .int .i64 t.old, .int .i64 t.eden, .int .i64 t.surv, .bool t.flip, .int .i64 t.hash, .slice p3 t.kept.length e3] _ ?_ ?_ FR ?_ ?_ OKC ?_); rfl; rfl; rfl; rfl; rfl; kernel_rfl; intro w9 F9 G9)
    have r0 := F9.cell (i := 0) (by omega); have r1 := F9.cell (i := 1) (by omega); have r2 := F9.cell (i := 2) (by omega); have r3 := F9.cell (i := 3) (by omega); have r4 := F9.cell (i := 4) (by omega); have r5 := F9.cell (i := 5) (by omega); have r6 := F9.cell (i := 6) (by omega); have r7 := F9.cell (i := 7) (by omega)
    exact bodyPost_ret (v := .agg #[.slice (some ⟨g, 0, none⟩) t.words.length c, .slice p2 t.roots.length e2, .int .i64 t.old, .int .i64 t.eden, .int .i64 t.surv, .bool t.flip, .int .i64 t.hash, .slice p3 t.kept.length e3]) (by simp [results, Tryz.results42, go_sem, r0, r1, r2, r3, r4, r5, r6, r7]) rfl (ED _ G9)
  · have B3 := D2.dw.less 8 (by omega) (by omega)
    go_wp2_with fail
    refine B3.mono ?_
    rintro x w3 ⟨⟨z, rfl, z0, z1⟩, g3, d3⟩
    have D3 := D2.step ⟨g3, d3⟩
    have RG := RG2.later' ⟨g3, d3⟩ hNg
    clear B3 g3 d3 D2 RG2
    rcases (show z = 0 ∨ z = 1 ∨ z = 2 ∨ z = 3 ∨ z = 4 ∨ z = 5 ∨ z = 6 ∨ z = 7 from by omega) with rfl | rfl | rfl | rfl | rfl | rfl | rfl | rfl
    · obtain ⟨c0, c1, c2, c3, c4, c5, c6, c7⟩ := va8_cells D3.row
      have fz := fun i => D3.row.frozen i
      have cne : ¬ c = 1 := by omega
      have D4 := D3.cut (c' := c - 1) rfl (by omega) (by omega)
      clear WF
      have x0 := (va8_cells D4.row).1; have x1 := (va8_cells D4.row).2.1; have x2 := (va8_cells D4.row).2.2.1; have x3 := (va8_cells D4.row).2.2.2.1; have x4 := (va8_cells D4.row).2.2.2.2.1; have x5 := (va8_cells D4.row).2.2.2.2.2.1; have x6 := (va8_cells D4.row).2.2.2.2.2.2.1; have x7 := (va8_cells D4.row).2.2.2.2.2.2.2
      obtain ⟨fR, FR⟩ := D4.res
      have OKC : (#[.slice (some ⟨g, 1, none⟩) (t.words.length - 1) (c - 1), .slice p2 t.roots.length e2, .int .i64 t.old, .int .i64 t.eden, .int .i64 t.surv, .bool t.flip, .int .i64 t.hash, .slice p3 t.kept.length e3] : Array Value).all (·.oneCell') = true := by simp [Value.oneCell']
      have ED := fun W' (q : World.grownBy _ W' _) => D4.done q
      go_wp2_with ((with_reducible refine store_box _ ?_ (.tmp 2) (.tmp 77) 26 ?_ 26 w.heap.size 8 #[.slice (some ⟨g, 1, none⟩) (t.words.length - 1) (c - 1), .slice p2 t.roots.length e2, .int .i64 t.old, .int .i64 t.eden, .int .i64 t.surv, .bool t.flip, .int .i64 t.hash, .slice p3 t.kept.length e3] _ ?_ ?_ FR ?_ ?_ OKC ?_); rfl; rfl; rfl; rfl; rfl; kernel_rfl; intro w9 F9 G9)
      have r0 := F9.cell (i := 0) (by omega); have r1 := F9.cell (i := 1) (by omega); have r2 := F9.cell (i := 2) (by omega); have r3 := F9.cell (i := 3) (by omega); have r4 := F9.cell (i := 4) (by omega); have r5 := F9.cell (i := 5) (by omega); have r6 := F9.cell (i := 6) (by omega); have r7 := F9.cell (i := 7) (by omega)
      exact bodyPost_ret (v := .agg #[.slice (some ⟨g, 1, none⟩) (t.words.length - 1) (c - 1), .slice p2 t.roots.length e2, .int .i64 t.old, .int .i64 t.eden, .int .i64 t.surv, .bool t.flip, .int .i64 t.hash, .slice p3 t.kept.length e3]) (by simp [results, Tryz.results42, go_sem, r0, r1, r2, r3, r4, r5, r6, r7]) rfl (ED _ G9)
    · have hmx : Tryz.prog.follows .mixedOrders = true := by kernel_rfl
      have hNr : N < w3.heap.size := Nat.lt_of_lt_of_le hN D3.gr.size
      have hs0 : Sx w3 N cv cs w3.drew := (Sx.refl D3.dw).drew
      clear WF
      go_wp2_with fail
      refine Disk.z_plain 7 (fun W' => Sx w3 N cv cs W') hmx hs0 (fun hs => ?_)
      refine Disk.z_take 0 18 (v := .pointer (some ⟨H, 0, none⟩)) rfl rfl (by kernel_rfl) (by kernel_rfl) (by kernel_rfl) (by kernel_rfl) (by rfl) hs (fun W' hSw => (by
        obtain ⟨s0, s1, s2, s3, s4, s5, s6, s7⟩ := va8_cells (D3.step hSw).row
        go_simp; first | done | with_reducible rfl)) ?_
      simp only [List.setIfInBounds_toArray, List.set_cons_zero, List.set_cons_succ]
      refine Disk.z_take 1 19 (v := .slice (some ⟨g, 0, none⟩) t.words.length c) rfl rfl (by kernel_rfl) (by kernel_rfl) (by kernel_rfl) (by kernel_rfl) (by rfl) hs (fun W' hSw => (by
        obtain ⟨s0, s1, s2, s3, s4, s5, s6, s7⟩ := va8_cells (D3.step hSw).row
        go_simp; first | done | with_reducible rfl)) ?_
      simp only [List.setIfInBounds_toArray, List.set_cons_zero, List.set_cons_succ]
      refine Disk.z_take 2 20 (v := .pointer (some ⟨N, 0, none⟩)) rfl rfl (by kernel_rfl) (by kernel_rfl) (by kernel_rfl) (by kernel_rfl) (by rfl) hs (fun W' hSw => (by
        obtain ⟨s0, s1, s2, s3, s4, s5, s6, s7⟩ := va8_cells (D3.step hSw).row
        go_simp; first | done | with_reducible rfl)) ?_
      simp only [List.setIfInBounds_toArray, List.set_cons_zero, List.set_cons_succ]
      refine Disk.z_take 4 22 (v := .pointer (some ⟨N, 0, none⟩)) rfl rfl (by kernel_rfl) (by kernel_rfl) (by kernel_rfl) (by kernel_rfl) (by rfl) hs (fun W' hSw => (by
        obtain ⟨s0, s1, s2, s3, s4, s5, s6, s7⟩ := va8_cells (D3.step hSw).row
        go_simp; first | done | with_reducible rfl)) ?_
      simp only [List.setIfInBounds_toArray, List.set_cons_zero, List.set_cons_succ]
      refine Disk.z_call 3 21 rfl rfl (by kernel_rfl) (by rfl) (f := 43) (args := #[.pointer (some ⟨N, 0, none⟩), .int .i64 3200]) (w0 := w3.drew) (by go_simp) ?_
      refine (hs.2.less 3200 (by omega) (by omega)).mono ?_
      rintro e va ⟨⟨za, rfl, zal, zau⟩, gva, dva⟩
      have hsa := hs.trans ⟨gva, dva⟩
      refine ⟨_, rfl, .inr hsa, ?_⟩
      simp only [List.setIfInBounds_toArray, List.set_cons_zero, List.set_cons_succ]
      refine Disk.z_call 5 23 rfl rfl (by kernel_rfl) (by rfl) (f := 46) (args := #[.pointer (some ⟨N, 0, none⟩), .int .i64 (-3), .int .i64 9]) (w0 := va) (by go_simp) ?_
      refine (hsa.2.fromI (-3) 9 (by omega) (by omega) (by omega) (by omega)).mono ?_
      rintro e vb ⟨⟨zb, rfl, zbl, zbu⟩, gvb, dvb⟩
      have hsb := hsa.trans ⟨gvb, dvb⟩
      refine ⟨_, rfl, .inr hsb, ?_⟩
      simp only [List.setIfInBounds_toArray, List.set_cons_zero, List.set_cons_succ]
      have D4 := D3.step hsb
      have RB := RG.later' hsb hNg
      obtain ⟨k, rfl⟩ := Int.eq_ofNat_of_zero_le zal
      have ck := RB.cell (i := k) (by omega)
      have fk := RB.frozen k
      have kl : (k : Int) < (t.words.length : Int) := by omega
      have D5 := D4.word RB (by omega) k zb
      refine Disk.z_run 6 24 (v := .pointer (some ⟨g, k, none⟩)) rfl rfl (by kernel_rfl) (by rfl) (w' := vb) (by go_simp; first | done | with_reducible rfl) (.inr hsb) ?_
      simp only [List.setIfInBounds_toArray, List.set_cons_zero, List.set_cons_succ]
      refine Disk.z_skip 7 (w' := vb.setCell ⟨g, k, none⟩ (.int .i64 zb)) rfl rfl (by kernel_rfl) (by rfl) (by go_simp; first | done | with_reducible rfl) (.inl rfl) ?_
      refine Disk.z_done (by kernel_rfl) ?_ _
      clear hs hsa hsb D4 D3 RB ck fk
      have x0 := (va8_cells D5.row).1; have x1 := (va8_cells D5.row).2.1; have x2 := (va8_cells D5.row).2.2.1; have x3 := (va8_cells D5.row).2.2.2.1; have x4 := (va8_cells D5.row).2.2.2.2.1; have x5 := (va8_cells D5.row).2.2.2.2.2.1; have x6 := (va8_cells D5.row).2.2.2.2.2.2.1; have x7 := (va8_cells D5.row).2.2.2.2.2.2.2
      obtain ⟨fR, FR⟩ := D5.res
      have OKC : (#[.slice (some ⟨g, 0, none⟩) t.words.length c, .slice p2 t.roots.length e2, .int .i64 t.old, .int .i64 t.eden, .int .i64 t.surv, .bool t.flip, .int .i64 t.hash, .slice p3 t.kept.length e3] : Array Value).all (·.oneCell') = true := by simp [Value.oneCell']
      have ED := fun W' (q : World.grownBy _ W' _) => D5.done q
      go_wp2_with ((with_reducible refine store_box _ ?_ (.tmp 2) (.tmp 77) 26 ?_ 26 w.heap.size 8 #[.slice (some ⟨g, 0, none⟩) t.words.length c, .slice p2 t.roots.length e2, .int .i64 t.old, .int .i64 t.eden, .int .i64 t.surv, .bool t.flip, .int .i64 t.hash, .slice p3 t.kept.length e3] _ ?_ ?_ FR ?_ ?_ OKC ?_); rfl; rfl; rfl; rfl; rfl; kernel_rfl; intro w9 F9 G9)
      have r0 := F9.cell (i := 0) (by omega); have r1 := F9.cell (i := 1) (by omega); have r2 := F9.cell (i := 2) (by omega); have r3 := F9.cell (i := 3) (by omega); have r4 := F9.cell (i := 4) (by omega); have r5 := F9.cell (i := 5) (by omega); have r6 := F9.cell (i := 6) (by omega); have r7 := F9.cell (i := 7) (by omega)
      exact bodyPost_ret (v := .agg #[.slice (some ⟨g, 0, none⟩) t.words.length c, .slice p2 t.roots.length e2, .int .i64 t.old, .int .i64 t.eden, .int .i64 t.surv, .bool t.flip, .int .i64 t.hash, .slice p3 t.kept.length e3]) (by simp [results, Tryz.results42, go_sem, r0, r1, r2, r3, r4, r5, r6, r7]) rfl (ED _ G9)
    · have hmx : Tryz.prog.follows .mixedOrders = true := by kernel_rfl
      have hNr : N < w3.heap.size := Nat.lt_of_lt_of_le hN D3.gr.size
      have hs0 : Sx w3 N cv cs w3.drew := (Sx.refl D3.dw).drew
      clear WF
      go_wp2_with fail
      refine Disk.z_plain 6 (fun W' => Sx w3 N cv cs W') hmx hs0 (fun hs => ?_)
      refine Disk.z_take 0 27 (v := .pointer (some ⟨H, 2, none⟩)) rfl rfl (by kernel_rfl) (by kernel_rfl) (by kernel_rfl) (by kernel_rfl) (by rfl) hs (fun W' hSw => (by
        obtain ⟨s0, s1, s2, s3, s4, s5, s6, s7⟩ := va8_cells (D3.step hSw).row
        go_simp; first | done | with_reducible rfl)) ?_
      simp only [List.setIfInBounds_toArray, List.set_cons_zero, List.set_cons_succ]
      refine Disk.z_take 1 28 (v := .int .i64 t.old) rfl rfl (by kernel_rfl) (by kernel_rfl) (by kernel_rfl) (by kernel_rfl) (by rfl) hs (fun W' hSw => (by
        obtain ⟨s0, s1, s2, s3, s4, s5, s6, s7⟩ := va8_cells (D3.step hSw).row
        go_simp; first | done | with_reducible rfl)) ?_
      simp only [List.setIfInBounds_toArray, List.set_cons_zero, List.set_cons_succ]
      refine Disk.z_take 2 29 (v := .pointer (some ⟨N, 0, none⟩)) rfl rfl (by kernel_rfl) (by kernel_rfl) (by kernel_rfl) (by kernel_rfl) (by rfl) hs (fun W' hSw => (by
        obtain ⟨s0, s1, s2, s3, s4, s5, s6, s7⟩ := va8_cells (D3.step hSw).row
        go_simp; first | done | with_reducible rfl)) ?_
      simp only [List.setIfInBounds_toArray, List.set_cons_zero, List.set_cons_succ]
      refine Disk.z_call 3 30 rfl rfl (by kernel_rfl) (by rfl) (f := 46) (args := #[.pointer (some ⟨N, 0, none⟩), .int .i64 (-5), .int .i64 5]) (w0 := w3.drew) (by go_simp) ?_
      refine (hs.2.fromI (-5) 5 (by omega) (by omega) (by omega) (by omega)).mono ?_
      rintro e va ⟨⟨za, rfl, zal, zau⟩, gva, dva⟩
      have hsa := hs.trans ⟨gva, dva⟩
      refine ⟨_, rfl, .inr hsa, ?_⟩
      simp only [List.setIfInBounds_toArray, List.set_cons_zero, List.set_cons_succ]
      refine Disk.z_take 4 31 (v := .int .i64 (IntKind.i64.wrap (t.old + za))) rfl rfl (by kernel_rfl) (by kernel_rfl) (by kernel_rfl) (by kernel_rfl) (by rfl) hsa (fun W' hSw => (by
        obtain ⟨s0, s1, s2, s3, s4, s5, s6, s7⟩ := va8_cells (D3.step hSw).row
        go_simp; first | done | with_reducible rfl)) ?_
      simp only [List.setIfInBounds_toArray, List.set_cons_zero, List.set_cons_succ]
      generalize IntKind.i64.wrap (t.old + za) = y at *
      have D4 := D3.step hsa
      have c2 := (va8_cells D4.row).2.2.1
      have fz := D4.row.frozen 2
      have D5 := D4.old y
      refine Disk.z_run 5 32 (v := .pointer (some ⟨H, 2, none⟩)) rfl rfl (by kernel_rfl) (by rfl) (w' := va) (by go_simp; first | done | with_reducible rfl) (.inr hsa) ?_
      simp only [List.setIfInBounds_toArray, List.set_cons_zero, List.set_cons_succ]
      refine Disk.z_skip 6 (w' := va.setCell ⟨H, 2, none⟩ (.int .i64 y)) rfl rfl (by kernel_rfl) (by rfl) (by go_simp; first | done | with_reducible rfl) (.inl rfl) ?_
      refine Disk.z_done (by kernel_rfl) ?_ _
      clear hs hsa D4 D3 c2 fz
      have x0 := (va8_cells D5.row).1; have x1 := (va8_cells D5.row).2.1; have x2 := (va8_cells D5.row).2.2.1; have x3 := (va8_cells D5.row).2.2.2.1; have x4 := (va8_cells D5.row).2.2.2.2.1; have x5 := (va8_cells D5.row).2.2.2.2.2.1; have x6 := (va8_cells D5.row).2.2.2.2.2.2.1; have x7 := (va8_cells D5.row).2.2.2.2.2.2.2
      obtain ⟨fR, FR⟩ := D5.res
      have OKC : (#[.slice (some ⟨g, 0, none⟩) t.words.length c, .slice p2 t.roots.length e2, .int .i64 y, .int .i64 t.eden, .int .i64 t.surv, .bool t.flip, .int .i64 t.hash, .slice p3 t.kept.length e3] : Array Value).all (·.oneCell') = true := by simp [Value.oneCell']
      have ED := fun W' (q : World.grownBy _ W' _) => D5.done q
      go_wp2_with ((with_reducible refine store_box _ ?_ (.tmp 2) (.tmp 77) 26 ?_ 26 w.heap.size 8 #[.slice (some ⟨g, 0, none⟩) t.words.length c, .slice p2 t.roots.length e2, .int .i64 y, .int .i64 t.eden, .int .i64 t.surv, .bool t.flip, .int .i64 t.hash, .slice p3 t.kept.length e3] _ ?_ ?_ FR ?_ ?_ OKC ?_); rfl; rfl; rfl; rfl; rfl; kernel_rfl; intro w9 F9 G9)
      have r0 := F9.cell (i := 0) (by omega); have r1 := F9.cell (i := 1) (by omega); have r2 := F9.cell (i := 2) (by omega); have r3 := F9.cell (i := 3) (by omega); have r4 := F9.cell (i := 4) (by omega); have r5 := F9.cell (i := 5) (by omega); have r6 := F9.cell (i := 6) (by omega); have r7 := F9.cell (i := 7) (by omega)
      exact bodyPost_ret (v := .agg #[.slice (some ⟨g, 0, none⟩) t.words.length c, .slice p2 t.roots.length e2, .int .i64 y, .int .i64 t.eden, .int .i64 t.surv, .bool t.flip, .int .i64 t.hash, .slice p3 t.kept.length e3]) (by simp [results, Tryz.results42, go_sem, r0, r1, r2, r3, r4, r5, r6, r7]) rfl (ED _ G9)
    · obtain ⟨c0, c1, c2, c3, c4, c5, c6, c7⟩ := va8_cells D3.row
      have fz := fun i => D3.row.frozen i
      have D4 := D3.flip (!t.flip)
      clear WF
      have x0 := (va8_cells D4.row).1; have x1 := (va8_cells D4.row).2.1; have x2 := (va8_cells D4.row).2.2.1; have x3 := (va8_cells D4.row).2.2.2.1; have x4 := (va8_cells D4.row).2.2.2.2.1; have x5 := (va8_cells D4.row).2.2.2.2.2.1; have x6 := (va8_cells D4.row).2.2.2.2.2.2.1; have x7 := (va8_cells D4.row).2.2.2.2.2.2.2
      obtain ⟨fR, FR⟩ := D4.res
      have OKC : (#[.slice (some ⟨g, 0, none⟩) t.words.length c, .slice p2 t.roots.length e2, .int .i64 t.old, .int .i64 t.eden, .int .i64 t.surv, .bool (!t.flip), .int .i64 t.hash, .slice p3 t.kept.length e3] : Array Value).all (·.oneCell') = true := by simp [Value.oneCell']
      have ED := fun W' (q : World.grownBy _ W' _) => D4.done q
      go_wp2_with ((with_reducible refine store_box _ ?_ (.tmp 2) (.tmp 77) 26 ?_ 26 w.heap.size 8 #[.slice (some ⟨g, 0, none⟩) t.words.length c, .slice p2 t.roots.length e2, .int .i64 t.old, .int .i64 t.eden, .int .i64 t.surv, .bool (!t.flip), .int .i64 t.hash, .slice p3 t.kept.length e3] _ ?_ ?_ FR ?_ ?_ OKC ?_); rfl; rfl; rfl; rfl; rfl; kernel_rfl; intro w9 F9 G9)
      have r0 := F9.cell (i := 0) (by omega); have r1 := F9.cell (i := 1) (by omega); have r2 := F9.cell (i := 2) (by omega); have r3 := F9.cell (i := 3) (by omega); have r4 := F9.cell (i := 4) (by omega); have r5 := F9.cell (i := 5) (by omega); have r6 := F9.cell (i := 6) (by omega); have r7 := F9.cell (i := 7) (by omega)
      exact bodyPost_ret (v := .agg #[.slice (some ⟨g, 0, none⟩) t.words.length c, .slice p2 t.roots.length e2, .int .i64 t.old, .int .i64 t.eden, .int .i64 t.surv, .bool (!t.flip), .int .i64 t.hash, .slice p3 t.kept.length e3]) (by simp [results, Tryz.results42, go_sem, r0, r1, r2, r3, r4, r5, r6, r7]) rfl (ED _ G9)
    · obtain ⟨c0, c1, c2, c3, c4, c5, c6, c7⟩ := va8_cells D3.row
      have fz := fun i => D3.row.frozen i
      have al := bel_one w3 (.cells #[.int .i64 0, .int .i64 1, .int .i64 1000000000, .int .i64 1000000001, .int .i64 3] 2)
      have D4 := D3.later al
      have B4 := D4.dw.less 5 (by omega) (by omega)
      have R5 := row_any w3 #[.int .i64 0, .int .i64 1, .int .i64 1000000000, .int .i64 1000000001, .int .i64 3] 2
      have ltg : w3.heap.size ≠ N := by have := D3.gr.size; omega
      clear c0 c1 c2 c3 c4 c5 c6 c7
      clear WF fz
      go_wp2_with fail
      refine B4.mono ?_
      rintro e w5 ⟨⟨z, rfl, z0, z1⟩, g5, d5⟩
      have D5 := D4.step ⟨g5, d5⟩
      have R6 := R5.of_block (g5.block _ R5.lt (fun e => ltg (Option.some.inj e)))
      obtain ⟨k, rfl⟩ := Int.eq_ofNat_of_zero_le z0
      obtain ⟨y, ck⟩ : ∃ y : Int, w5.cell? ⟨w3.heap.size, k, none⟩ = some (.int .i64 y) := by
        have q := R6.cell (i := k) (by simp; omega)
        have hk : k = 0 ∨ k = 1 ∨ k = 2 ∨ k = 3 ∨ k = 4 := by omega
        rcases hk with rfl | rfl | rfl | rfl | rfl <;> exact ⟨_, q⟩
      have kl : (k : Int) < 5 := by omega
      obtain ⟨c0, c1, c2, c3, c4, c5, c6, c7⟩ := va8_cells D5.row
      have fz := fun i => D5.row.frozen i
      have D6 := D5.hash y
      clear R5 R6 D3 D4 B4 g5 d5 al
      have x0 := (va8_cells D6.row).1; have x1 := (va8_cells D6.row).2.1; have x2 := (va8_cells D6.row).2.2.1; have x3 := (va8_cells D6.row).2.2.2.1; have x4 := (va8_cells D6.row).2.2.2.2.1; have x5 := (va8_cells D6.row).2.2.2.2.2.1; have x6 := (va8_cells D6.row).2.2.2.2.2.2.1; have x7 := (va8_cells D6.row).2.2.2.2.2.2.2
      obtain ⟨fR, FR⟩ := D6.res
      have OKC : (#[.slice (some ⟨g, 0, none⟩) t.words.length c, .slice p2 t.roots.length e2, .int .i64 t.old, .int .i64 t.eden, .int .i64 t.surv, .bool t.flip, .int .i64 y, .slice p3 t.kept.length e3] : Array Value).all (·.oneCell') = true := by simp [Value.oneCell']
      have ED := fun W' (q : World.grownBy _ W' _) => D6.done q
      go_wp2_with ((with_reducible refine store_box _ ?_ (.tmp 2) (.tmp 77) 26 ?_ 26 w.heap.size 8 #[.slice (some ⟨g, 0, none⟩) t.words.length c, .slice p2 t.roots.length e2, .int .i64 t.old, .int .i64 t.eden, .int .i64 t.surv, .bool t.flip, .int .i64 y, .slice p3 t.kept.length e3] _ ?_ ?_ FR ?_ ?_ OKC ?_); rfl; rfl; rfl; rfl; rfl; kernel_rfl; intro w9 F9 G9)
      have r0 := F9.cell (i := 0) (by omega); have r1 := F9.cell (i := 1) (by omega); have r2 := F9.cell (i := 2) (by omega); have r3 := F9.cell (i := 3) (by omega); have r4 := F9.cell (i := 4) (by omega); have r5 := F9.cell (i := 5) (by omega); have r6 := F9.cell (i := 6) (by omega); have r7 := F9.cell (i := 7) (by omega)
      exact bodyPost_ret (v := .agg #[.slice (some ⟨g, 0, none⟩) t.words.length c, .slice p2 t.roots.length e2, .int .i64 t.old, .int .i64 t.eden, .int .i64 t.surv, .bool t.flip, .int .i64 y, .slice p3 t.kept.length e3]) (by simp [results, Tryz.results42, go_sem, r0, r1, r2, r3, r4, r5, r6, r7]) rfl (ED _ G9)
    · obtain ⟨c0, c1, c2, c3, c4, c5, c6, c7⟩ := va8_cells D3.row
      have fz := fun i => D3.row.frozen i
      have al := bel_one w3 (.cells #[.int .i64 0] 2)
      have D4 := D3.later al
      have c9 : (w3.alloc (.cells #[.int .i64 0] 2)).cell? ⟨w3.heap.size, 0, none⟩ = some (.int .i64 0) := by simp
      have tk := D3.sz.2.2
      have bw : w.heap.size ≤ (w3.alloc (.cells #[.int .i64 0] 2)).heap.size := D4.gr.size
      clear WF
      go_wp2_with (first
        | (at_builtin; refine app_loc _ rfl _ _ rfl w.heap.size _ t.kept t.kept.length rfl rfl D4.ha.o3 (by omega) w3.heap.size 1 0 rfl c9 bw ?_; intro u w5 O5 G5 L5; obtain ⟨pu, eu, rfl⟩ := own_shape O5; have D5 := D4.kept (own_len1 O5) G5 L5 (by rw [List.length_append, List.length_singleton]; have := sm.2.2; omega); obtain ⟨dq, gq, rq, -, -⟩ := D4.grew _ (.inr rfl) G5; have c7' := rq.cell (i := 7) (by omega); have fz' := fun i => rq.frozen i; clear dq gq; have x0 := (va8_cells D5.row).1; have x1 := (va8_cells D5.row).2.1; have x2 := (va8_cells D5.row).2.2.1; have x3 := (va8_cells D5.row).2.2.2.1; have x4 := (va8_cells D5.row).2.2.2.2.1; have x5 := (va8_cells D5.row).2.2.2.2.2.1; have x6 := (va8_cells D5.row).2.2.2.2.2.2.1; have x7 := (va8_cells D5.row).2.2.2.2.2.2.2; obtain ⟨fR, FR⟩ := D5.res; (have OKC : (#[.slice (some ⟨g, 0, none⟩) t.words.length c, .slice p2 t.roots.length e2, .int .i64 t.old, .int .i64 t.eden, .int .i64 t.surv, .bool t.flip, .int .i64 t.hash, .slice pu (t.kept.length + 1) eu] : Array Value).all (·.oneCell') = true := (by simp [Value.oneCell'])); have ED := fun W' (q : World.grownBy _ W' _) => D5.done q)
        | ((with_reducible refine store_box _ ?_ (.tmp 2) (.tmp 77) 26 ?_ 26 w.heap.size 8 #[.slice (some ⟨g, 0, none⟩) t.words.length c, .slice p2 t.roots.length e2, .int .i64 t.old, .int .i64 t.eden, .int .i64 t.surv, .bool t.flip, .int .i64 t.hash, .slice pu (t.kept.length + 1) eu] _ ?_ ?_ FR ?_ ?_ OKC ?_); rfl; rfl; rfl; rfl; rfl; kernel_rfl; intro w9 F9 G9))
      have r0 := F9.cell (i := 0) (by omega); have r1 := F9.cell (i := 1) (by omega); have r2 := F9.cell (i := 2) (by omega); have r3 := F9.cell (i := 3) (by omega); have r4 := F9.cell (i := 4) (by omega); have r5 := F9.cell (i := 5) (by omega); have r6 := F9.cell (i := 6) (by omega); have r7 := F9.cell (i := 7) (by omega)
      exact bodyPost_ret (v := .agg #[.slice (some ⟨g, 0, none⟩) t.words.length c, .slice p2 t.roots.length e2, .int .i64 t.old, .int .i64 t.eden, .int .i64 t.surv, .bool t.flip, .int .i64 t.hash, .slice pu (t.kept.length + 1) eu]) (by simp [results, Tryz.results42, go_sem, r0, r1, r2, r3, r4, r5, r6, r7]) rfl (ED _ G9)
    · have hmx : Tryz.prog.follows .mixedOrders = true := by kernel_rfl
      have hNr : N < w3.heap.size := Nat.lt_of_lt_of_le hN D3.gr.size
      have hs0 : Sx w3 N cv cs w3.drew := (Sx.refl D3.dw).drew
      have TS : ∀ W', Sx w3 N cv cs W' → Sx w N cv cs W' ∧ W'.cell? ⟨H, 1, none⟩ = some (.slice p2 t.roots.length e2) := fun W' s => ⟨⟨gtrans D3.gr s.1, s.2⟩, (va8_cells (D3.step s).row).2.1⟩
      clear WF
      go_wp2_with fail
      refine Disk.z_plain 10 (fun W' => Sx w N cv cs W' ∧ W'.cell? ⟨H, 1, none⟩ = some (.slice p2 t.roots.length e2)) hmx (TS _ hs0) (fun _ => ?_)
      have hs := hs0
      clear hs0
      generalize w3.drew = wd at hs ⊢
      refine Disk.z_take 0 56 (v := .pointer (some ⟨H, 1, none⟩)) rfl rfl (by kernel_rfl) (by kernel_rfl) (by kernel_rfl) (by kernel_rfl) (by rfl) (TS _ hs) (fun W' hSw => (by
        have s1 := hSw.2
        go_simp; first | done | with_reducible rfl)) ?_
      simp only [List.setIfInBounds_toArray, List.set_cons_zero, List.set_cons_succ]
      refine Disk.z_take 1 57 (v := .slice p2 t.roots.length e2) rfl rfl (by kernel_rfl) (by kernel_rfl) (by kernel_rfl) (by kernel_rfl) (by rfl) (TS _ hs) (fun W' hSw => (by
        have s1 := hSw.2
        go_simp; first | done | with_reducible rfl)) ?_
      simp only [List.setIfInBounds_toArray, List.set_cons_zero, List.set_cons_succ]
      refine Disk.z_take 3 59 (v := .pointer (some ⟨N, 0, none⟩)) rfl rfl (by kernel_rfl) (by kernel_rfl) (by kernel_rfl) (by kernel_rfl) (by rfl) (TS _ hs) (fun W' hSw => (by
        have s1 := hSw.2
        go_simp; first | done | with_reducible rfl)) ?_
      simp only [List.setIfInBounds_toArray, List.set_cons_zero, List.set_cons_succ]
      refine z_or (i := 2) (j := 4) (by kernel_rfl) ?_ ?_
      · obtain ⟨wb, gb, ewb, egb, hsb, RB, lgb⟩ := row_new hs hNr 1 7 (-1) 3298534883328
        refine o_run 2 58 (v := .slice (some ⟨gb, 0, none⟩) 4 4) rfl rfl (by rfl) (w' := wb) (by subst ewb; subst egb; go_simp; first | done | with_reducible rfl) (.inr (TS _ hsb)) ?_
        simp only [List.setIfInBounds_toArray, List.set_cons_zero, List.set_cons_succ]
        clear ewb egb
        refine Disk.z_call 4 60 rfl rfl (by kernel_rfl) (by rfl) (f := 43) (args := #[.pointer (some ⟨N, 0, none⟩), .int .i64 4]) (w0 := wb) (by go_simp) ?_
        refine (hsb.2.less 4 (by omega) (by omega)).mono ?_
        rintro e va ⟨⟨za, rfl, zal, zau⟩, gva, dva⟩
        have hsa := hsb.trans ⟨gva, dva⟩
        refine ⟨_, rfl, .inr (TS _ hsa), ?_⟩
        simp only [List.setIfInBounds_toArray, List.set_cons_zero, List.set_cons_succ]
        have RA := RB.later' ⟨gva, dva⟩ (by omega)
        obtain ⟨k, rfl⟩ := Int.eq_ofNat_of_zero_le zal
        obtain ⟨y, ck⟩ : ∃ y : Int, va.cell? ⟨gb, k, none⟩ = some (.int .i64 y) := ⟨_, RA.cell (i := k) (by simp; omega)⟩
        have kl : (k : Int) < 4 := by omega
        clear RA
        refine Disk.z_run 5 61 (v := .pointer (some ⟨gb, k, none⟩)) rfl rfl (by kernel_rfl) (by rfl) (w' := va) (by go_simp; first | done | with_reducible rfl) (.inr (TS _ hsa)) ?_
        simp only [List.setIfInBounds_toArray, List.set_cons_zero, List.set_cons_succ]
        refine Disk.z_run 6 62 (v := .int .i64 y) rfl rfl (by kernel_rfl) (by rfl) (w' := va) (by go_simp; first | done | with_reducible rfl) (.inr (TS _ hsa)) ?_
        simp only [List.setIfInBounds_toArray, List.set_cons_zero, List.set_cons_succ]
        obtain ⟨wc, gc, ewc, egc, hsc, cc, bc⟩ := one_new hsa hNr y
        refine Disk.z_run 7 63 (v := .slice (some ⟨gc, 0, none⟩) 1 1) rfl rfl (by kernel_rfl) (by rfl) (w' := wc) (by subst ewc; subst egc; go_simp; first | done | with_reducible rfl) (.inr (TS _ hsc)) ?_
        simp only [List.setIfInBounds_toArray, List.set_cons_zero, List.set_cons_succ]
        clear ewc egc
        have D4 := D3.step hsc
        obtain ⟨u, w5, run, O5, G5, L5⟩ := run_app_loc wc 24 w.heap.size (.slice p2 t.roots.length e2) t.roots t.roots.length rfl D4.ha.o2 (by have := sm.2.1; omega) gc 1 y cc D4.gr.size
        obtain ⟨pu, eu, rfl⟩ := own_shape O5
        have D5 := D4.roots (own_len1 O5) G5 L5 (by rw [List.length_append, List.length_singleton]; have := sm.2.1; omega)
        obtain ⟨dq, gq, rq, -, -⟩ := D4.grew _ (.inl rfl) G5
        have c1' := rq.cell (i := 1) (by omega)
        have fz1 := rq.frozen 1
        refine Disk.z_run 8 64 rfl rfl (by kernel_rfl) (by rfl) (exec_appI _ _ rfl _ _ rfl rfl run) (.inr ⟨⟨gq, dq⟩, c1'⟩) ?_
        simp only [List.setIfInBounds_toArray, List.set_cons_zero, List.set_cons_succ]
        refine Disk.z_run 9 65 (v := .pointer (some ⟨H, 1, none⟩)) rfl rfl (by kernel_rfl) (by rfl) (w' := w5) (by go_simp; first | done | with_reducible rfl) (.inr ⟨⟨gq, dq⟩, c1'⟩) ?_
        simp only [List.setIfInBounds_toArray, List.set_cons_zero, List.set_cons_succ]
        refine Disk.z_skip 10 (w' := w5.setCell ⟨H, 1, none⟩ (.slice pu (t.roots.length + 1) eu)) rfl rfl (by kernel_rfl) (by rfl) (by go_simp; first | done | with_reducible rfl) (.inl rfl) ?_
        refine Disk.z_done (by kernel_rfl) ?_ _
        clear run rq c1' fz1 gq dq D4 D3 hsa hsc cc bc ck O5 G5 L5
        have x0 := (va8_cells D5.row).1; have x1 := (va8_cells D5.row).2.1; have x2 := (va8_cells D5.row).2.2.1; have x3 := (va8_cells D5.row).2.2.2.1; have x4 := (va8_cells D5.row).2.2.2.2.1; have x5 := (va8_cells D5.row).2.2.2.2.2.1; have x6 := (va8_cells D5.row).2.2.2.2.2.2.1; have x7 := (va8_cells D5.row).2.2.2.2.2.2.2
        obtain ⟨fR, FR⟩ := D5.res
        have OKC : (#[.slice (some ⟨g, 0, none⟩) t.words.length c, .slice pu (t.roots.length + 1) eu, .int .i64 t.old, .int .i64 t.eden, .int .i64 t.surv, .bool t.flip, .int .i64 t.hash, .slice p3 t.kept.length e3] : Array Value).all (·.oneCell') = true := by simp [Value.oneCell']
        have ED := fun W' (q : World.grownBy _ W' _) => D5.done q
        go_wp2_with ((with_reducible refine store_box _ ?_ (.tmp 2) (.tmp 77) 26 ?_ 26 w.heap.size 8 #[.slice (some ⟨g, 0, none⟩) t.words.length c, .slice pu (t.roots.length + 1) eu, .int .i64 t.old, .int .i64 t.eden, .int .i64 t.surv, .bool t.flip, .int .i64 t.hash, .slice p3 t.kept.length e3] _ ?_ ?_ FR ?_ ?_ OKC ?_); rfl; rfl; rfl; rfl; rfl; kernel_rfl; intro w9 F9 G9)
        have r0 := F9.cell (i := 0) (by omega); have r1 := F9.cell (i := 1) (by omega); have r2 := F9.cell (i := 2) (by omega); have r3 := F9.cell (i := 3) (by omega); have r4 := F9.cell (i := 4) (by omega); have r5 := F9.cell (i := 5) (by omega); have r6 := F9.cell (i := 6) (by omega); have r7 := F9.cell (i := 7) (by omega)
        exact bodyPost_ret (v := .agg #[.slice (some ⟨g, 0, none⟩) t.words.length c, .slice pu (t.roots.length + 1) eu, .int .i64 t.old, .int .i64 t.eden, .int .i64 t.surv, .bool t.flip, .int .i64 t.hash, .slice p3 t.kept.length e3]) (by simp [results, Tryz.results42, go_sem, r0, r1, r2, r3, r4, r5, r6, r7]) rfl (ED _ G9)
      · refine o_call 4 60 rfl rfl (by rfl) (f := 43) (args := #[.pointer (some ⟨N, 0, none⟩), .int .i64 4]) (w0 := wd) (by go_simp) ?_
        refine (hs.2.less 4 (by omega) (by omega)).mono ?_
        rintro e va ⟨⟨za, rfl, zal, zau⟩, gva, dva⟩
        have hsa := hs.trans ⟨gva, dva⟩
        refine ⟨_, rfl, .inr (TS _ hsa), ?_⟩
        simp only [List.setIfInBounds_toArray, List.set_cons_zero, List.set_cons_succ]
        obtain ⟨wb, gb, ewb, egb, hsb, RB, lgb⟩ := row_new hsa hNr 1 7 (-1) 3298534883328
        refine Disk.z_run 2 58 (v := .slice (some ⟨gb, 0, none⟩) 4 4) rfl rfl (by kernel_rfl) (by rfl) (w' := wb) (by subst ewb; subst egb; go_simp; first | done | with_reducible rfl) (.inr (TS _ hsb)) ?_
        simp only [List.setIfInBounds_toArray, List.set_cons_zero, List.set_cons_succ]
        clear ewb egb
        obtain ⟨k, rfl⟩ := Int.eq_ofNat_of_zero_le zal
        obtain ⟨y, ck⟩ : ∃ y : Int, wb.cell? ⟨gb, k, none⟩ = some (.int .i64 y) := ⟨_, RB.cell (i := k) (by simp; omega)⟩
        have kl : (k : Int) < 4 := by omega
        clear RB
        refine Disk.z_run 5 61 (v := .pointer (some ⟨gb, k, none⟩)) rfl rfl (by kernel_rfl) (by rfl) (w' := wb) (by go_simp; first | done | with_reducible rfl) (.inr (TS _ hsb)) ?_
        simp only [List.setIfInBounds_toArray, List.set_cons_zero, List.set_cons_succ]
        refine Disk.z_run 6 62 (v := .int .i64 y) rfl rfl (by kernel_rfl) (by rfl) (w' := wb) (by go_simp; first | done | with_reducible rfl) (.inr (TS _ hsb)) ?_
        simp only [List.setIfInBounds_toArray, List.set_cons_zero, List.set_cons_succ]
        obtain ⟨wc, gc, ewc, egc, hsc, cc, bc⟩ := one_new hsb hNr y
        refine Disk.z_run 7 63 (v := .slice (some ⟨gc, 0, none⟩) 1 1) rfl rfl (by kernel_rfl) (by rfl) (w' := wc) (by subst ewc; subst egc; go_simp; first | done | with_reducible rfl) (.inr (TS _ hsc)) ?_
        simp only [List.setIfInBounds_toArray, List.set_cons_zero, List.set_cons_succ]
        clear ewc egc
        have D4 := D3.step hsc
        obtain ⟨u, w5, run, O5, G5, L5⟩ := run_app_loc wc 24 w.heap.size (.slice p2 t.roots.length e2) t.roots t.roots.length rfl D4.ha.o2 (by have := sm.2.1; omega) gc 1 y cc D4.gr.size
        obtain ⟨pu, eu, rfl⟩ := own_shape O5
        have D5 := D4.roots (own_len1 O5) G5 L5 (by rw [List.length_append, List.length_singleton]; have := sm.2.1; omega)
        obtain ⟨dq, gq, rq, -, -⟩ := D4.grew _ (.inl rfl) G5
        have c1' := rq.cell (i := 1) (by omega)
        have fz1 := rq.frozen 1
        refine Disk.z_run 8 64 rfl rfl (by kernel_rfl) (by rfl) (exec_appI _ _ rfl _ _ rfl rfl run) (.inr ⟨⟨gq, dq⟩, c1'⟩) ?_
        simp only [List.setIfInBounds_toArray, List.set_cons_zero, List.set_cons_succ]
        refine Disk.z_run 9 65 (v := .pointer (some ⟨H, 1, none⟩)) rfl rfl (by kernel_rfl) (by rfl) (w' := w5) (by go_simp; first | done | with_reducible rfl) (.inr ⟨⟨gq, dq⟩, c1'⟩) ?_
        simp only [List.setIfInBounds_toArray, List.set_cons_zero, List.set_cons_succ]
        refine Disk.z_skip 10 (w' := w5.setCell ⟨H, 1, none⟩ (.slice pu (t.roots.length + 1) eu)) rfl rfl (by kernel_rfl) (by rfl) (by go_simp; first | done | with_reducible rfl) (.inl rfl) ?_
        refine Disk.z_done (by kernel_rfl) ?_ _
        clear run rq c1' fz1 gq dq D4 D3 hsb hsc cc bc ck O5 G5 L5
        have x0 := (va8_cells D5.row).1; have x1 := (va8_cells D5.row).2.1; have x2 := (va8_cells D5.row).2.2.1; have x3 := (va8_cells D5.row).2.2.2.1; have x4 := (va8_cells D5.row).2.2.2.2.1; have x5 := (va8_cells D5.row).2.2.2.2.2.1; have x6 := (va8_cells D5.row).2.2.2.2.2.2.1; have x7 := (va8_cells D5.row).2.2.2.2.2.2.2
        obtain ⟨fR, FR⟩ := D5.res
        have OKC : (#[.slice (some ⟨g, 0, none⟩) t.words.length c, .slice pu (t.roots.length + 1) eu, .int .i64 t.old, .int .i64 t.eden, .int .i64 t.surv, .bool t.flip, .int .i64 t.hash, .slice p3 t.kept.length e3] : Array Value).all (·.oneCell') = true := by simp [Value.oneCell']
        have ED := fun W' (q : World.grownBy _ W' _) => D5.done q
        go_wp2_with ((with_reducible refine store_box _ ?_ (.tmp 2) (.tmp 77) 26 ?_ 26 w.heap.size 8 #[.slice (some ⟨g, 0, none⟩) t.words.length c, .slice pu (t.roots.length + 1) eu, .int .i64 t.old, .int .i64 t.eden, .int .i64 t.surv, .bool t.flip, .int .i64 t.hash, .slice p3 t.kept.length e3] _ ?_ ?_ FR ?_ ?_ OKC ?_); rfl; rfl; rfl; rfl; rfl; kernel_rfl; intro w9 F9 G9)
        have r0 := F9.cell (i := 0) (by omega); have r1 := F9.cell (i := 1) (by omega); have r2 := F9.cell (i := 2) (by omega); have r3 := F9.cell (i := 3) (by omega); have r4 := F9.cell (i := 4) (by omega); have r5 := F9.cell (i := 5) (by omega); have r6 := F9.cell (i := 6) (by omega); have r7 := F9.cell (i := 7) (by omega)
        exact bodyPost_ret (v := .agg #[.slice (some ⟨g, 0, none⟩) t.words.length c, .slice pu (t.roots.length + 1) eu, .int .i64 t.old, .int .i64 t.eden, .int .i64 t.surv, .bool t.flip, .int .i64 t.hash, .slice p3 t.kept.length e3]) (by simp [results, Tryz.results42, go_sem, r0, r1, r2, r3, r4, r5, r6, r7]) rfl (ED _ G9)
    · have hmx : Tryz.prog.follows .mixedOrders = true := by kernel_rfl
      have hNr : N < w3.heap.size := Nat.lt_of_lt_of_le hN D3.gr.size
      have hs0 : Sx w3 N cv cs w3.drew := (Sx.refl D3.dw).drew
      clear WF
      go_wp2_with fail
      refine Disk.z_plain 9 (fun W' => Sx w3 N cv cs W') hmx hs0 (fun hs => ?_)
      clear hs0
      generalize w3.drew = wd at hs ⊢
      refine Disk.z_take 0 68 (v := .pointer (some ⟨H, 3, none⟩)) rfl rfl (by kernel_rfl) (by kernel_rfl) (by kernel_rfl) (by kernel_rfl) (by rfl) hs (fun W' hSw => (by
        obtain ⟨s0, s1, s2, s3, s4, s5, s6, s7⟩ := va8_cells (D3.step hSw).row
        go_simp; first | done | with_reducible rfl)) ?_
      simp only [List.setIfInBounds_toArray, List.set_cons_zero, List.set_cons_succ]
      refine Disk.z_take 1 69 (v := .int .i64 t.eden) rfl rfl (by kernel_rfl) (by kernel_rfl) (by kernel_rfl) (by kernel_rfl) (by rfl) hs (fun W' hSw => (by
        obtain ⟨s0, s1, s2, s3, s4, s5, s6, s7⟩ := va8_cells (D3.step hSw).row
        go_simp; first | done | with_reducible rfl)) ?_
      simp only [List.setIfInBounds_toArray, List.set_cons_zero, List.set_cons_succ]
      refine Disk.z_take 2 70 (v := .int .i64 (IntKind.i64.wrap (t.eden + 4))) rfl rfl (by kernel_rfl) (by kernel_rfl) (by kernel_rfl) (by kernel_rfl) (by rfl) hs (fun W' hSw => (by
        obtain ⟨s0, s1, s2, s3, s4, s5, s6, s7⟩ := va8_cells (D3.step hSw).row
        go_simp; first | done | with_reducible rfl)) ?_
      simp only [List.setIfInBounds_toArray, List.set_cons_zero, List.set_cons_succ]
      refine Disk.z_take 4 72 (v := .pointer (some ⟨N, 0, none⟩)) rfl rfl (by kernel_rfl) (by kernel_rfl) (by kernel_rfl) (by kernel_rfl) (by rfl) hs (fun W' hSw => (by
        obtain ⟨s0, s1, s2, s3, s4, s5, s6, s7⟩ := va8_cells (D3.step hSw).row
        go_simp; first | done | with_reducible rfl)) ?_
      simp only [List.setIfInBounds_toArray, List.set_cons_zero, List.set_cons_succ]
      generalize IntKind.i64.wrap (t.eden + 4) = q4 at *
      refine z_or (i := 3) (j := 5) (by kernel_rfl) ?_ ?_
      · obtain ⟨wb, gb, ewb, egb, hsb, RB, lgb⟩ := row_new hs hNr q4 1999 2601 (-9223372036854775808)
        refine o_run 3 71 (v := .slice (some ⟨gb, 0, none⟩) 4 4) rfl rfl (by rfl) (w' := wb) (by subst ewb; subst egb; go_simp; first | done | with_reducible rfl) (.inr hsb) ?_
        simp only [List.setIfInBounds_toArray, List.set_cons_zero, List.set_cons_succ]
        clear ewb egb
        refine Disk.z_call 5 73 rfl rfl (by kernel_rfl) (by rfl) (f := 43) (args := #[.pointer (some ⟨N, 0, none⟩), .int .i64 4]) (w0 := wb) (by go_simp) ?_
        refine (hsb.2.less 4 (by omega) (by omega)).mono ?_
        rintro e va ⟨⟨za, rfl, zal, zau⟩, gva, dva⟩
        have hsa := hsb.trans ⟨gva, dva⟩
        refine ⟨_, rfl, .inr hsa, ?_⟩
        simp only [List.setIfInBounds_toArray, List.set_cons_zero, List.set_cons_succ]
        have RA := RB.later' ⟨gva, dva⟩ (by omega)
        obtain ⟨k, rfl⟩ := Int.eq_ofNat_of_zero_le zal
        obtain ⟨y, ck⟩ : ∃ y : Int, va.cell? ⟨gb, k, none⟩ = some (.int .i64 y) := ⟨_, RA.cell (i := k) (by simp; omega)⟩
        have kl : (k : Int) < 4 := by omega
        clear RA
        refine Disk.z_run 6 74 (v := .pointer (some ⟨gb, k, none⟩)) rfl rfl (by kernel_rfl) (by rfl) (w' := va) (by go_simp; first | done | with_reducible rfl) (.inr hsa) ?_
        simp only [List.setIfInBounds_toArray, List.set_cons_zero, List.set_cons_succ]
        refine Disk.z_run 7 75 (v := .int .i64 y) rfl rfl (by kernel_rfl) (by rfl) (w' := va) (by go_simp; first | done | with_reducible rfl) (.inr hsa) ?_
        simp only [List.setIfInBounds_toArray, List.set_cons_zero, List.set_cons_succ]
        have D4 := D3.step hsa
        have c3 := (va8_cells D4.row).2.2.2.1
        have fz := D4.row.frozen 3
        have D5 := D4.eden y
        refine Disk.z_run 8 76 (v := .pointer (some ⟨H, 3, none⟩)) rfl rfl (by kernel_rfl) (by rfl) (w' := va) (by go_simp; first | done | with_reducible rfl) (.inr hsa) ?_
        simp only [List.setIfInBounds_toArray, List.set_cons_zero, List.set_cons_succ]
        refine Disk.z_skip 9 (w' := va.setCell ⟨H, 3, none⟩ (.int .i64 y)) rfl rfl (by kernel_rfl) (by rfl) (by go_simp; first | done | with_reducible rfl) (.inl rfl) ?_
        refine Disk.z_done (by kernel_rfl) ?_ _
        clear D4 D3 hsa ck c3 fz
        have x0 := (va8_cells D5.row).1; have x1 := (va8_cells D5.row).2.1; have x2 := (va8_cells D5.row).2.2.1; have x3 := (va8_cells D5.row).2.2.2.1; have x4 := (va8_cells D5.row).2.2.2.2.1; have x5 := (va8_cells D5.row).2.2.2.2.2.1; have x6 := (va8_cells D5.row).2.2.2.2.2.2.1; have x7 := (va8_cells D5.row).2.2.2.2.2.2.2
        obtain ⟨fR, FR⟩ := D5.res
        have OKC : (#[.slice (some ⟨g, 0, none⟩) t.words.length c, .slice p2 t.roots.length e2, .int .i64 t.old, .int .i64 y, .int .i64 t.surv, .bool t.flip, .int .i64 t.hash, .slice p3 t.kept.length e3] : Array Value).all (·.oneCell') = true := by simp [Value.oneCell']
        have ED := fun W' (q : World.grownBy _ W' _) => D5.done q
        go_wp2_with ((with_reducible refine store_box _ ?_ (.tmp 2) (.tmp 77) 26 ?_ 26 w.heap.size 8 #[.slice (some ⟨g, 0, none⟩) t.words.length c, .slice p2 t.roots.length e2, .int .i64 t.old, .int .i64 y, .int .i64 t.surv, .bool t.flip, .int .i64 t.hash, .slice p3 t.kept.length e3] _ ?_ ?_ FR ?_ ?_ OKC ?_); rfl; rfl; rfl; rfl; rfl; kernel_rfl; intro w9 F9 G9)
        have r0 := F9.cell (i := 0) (by omega); have r1 := F9.cell (i := 1) (by omega); have r2 := F9.cell (i := 2) (by omega); have r3 := F9.cell (i := 3) (by omega); have r4 := F9.cell (i := 4) (by omega); have r5 := F9.cell (i := 5) (by omega); have r6 := F9.cell (i := 6) (by omega); have r7 := F9.cell (i := 7) (by omega)
        exact bodyPost_ret (v := .agg #[.slice (some ⟨g, 0, none⟩) t.words.length c, .slice p2 t.roots.length e2, .int .i64 t.old, .int .i64 y, .int .i64 t.surv, .bool t.flip, .int .i64 t.hash, .slice p3 t.kept.length e3]) (by simp [results, Tryz.results42, go_sem, r0, r1, r2, r3, r4, r5, r6, r7]) rfl (ED _ G9)
      · refine o_call 5 73 rfl rfl (by rfl) (f := 43) (args := #[.pointer (some ⟨N, 0, none⟩), .int .i64 4]) (w0 := wd) (by go_simp) ?_
        refine (hs.2.less 4 (by omega) (by omega)).mono ?_
        rintro e va ⟨⟨za, rfl, zal, zau⟩, gva, dva⟩
        have hsa := hs.trans ⟨gva, dva⟩
        refine ⟨_, rfl, .inr hsa, ?_⟩
        simp only [List.setIfInBounds_toArray, List.set_cons_zero, List.set_cons_succ]
        obtain ⟨wb, gb, ewb, egb, hsb, RB, lgb⟩ := row_new hsa hNr q4 1999 2601 (-9223372036854775808)
        refine Disk.z_run 3 71 (v := .slice (some ⟨gb, 0, none⟩) 4 4) rfl rfl (by kernel_rfl) (by rfl) (w' := wb) (by subst ewb; subst egb; go_simp; first | done | with_reducible rfl) (.inr hsb) ?_
        simp only [List.setIfInBounds_toArray, List.set_cons_zero, List.set_cons_succ]
        clear ewb egb
        obtain ⟨k, rfl⟩ := Int.eq_ofNat_of_zero_le zal
        obtain ⟨y, ck⟩ : ∃ y : Int, wb.cell? ⟨gb, k, none⟩ = some (.int .i64 y) := ⟨_, RB.cell (i := k) (by simp; omega)⟩
        have kl : (k : Int) < 4 := by omega
        clear RB
        refine Disk.z_run 6 74 (v := .pointer (some ⟨gb, k, none⟩)) rfl rfl (by kernel_rfl) (by rfl) (w' := wb) (by go_simp; first | done | with_reducible rfl) (.inr hsb) ?_
        simp only [List.setIfInBounds_toArray, List.set_cons_zero, List.set_cons_succ]
        refine Disk.z_run 7 75 (v := .int .i64 y) rfl rfl (by kernel_rfl) (by rfl) (w' := wb) (by go_simp; first | done | with_reducible rfl) (.inr hsb) ?_
        simp only [List.setIfInBounds_toArray, List.set_cons_zero, List.set_cons_succ]
        have D4 := D3.step hsb
        have c3 := (va8_cells D4.row).2.2.2.1
        have fz := D4.row.frozen 3
        have D5 := D4.eden y
        refine Disk.z_run 8 76 (v := .pointer (some ⟨H, 3, none⟩)) rfl rfl (by kernel_rfl) (by rfl) (w' := wb) (by go_simp; first | done | with_reducible rfl) (.inr hsb) ?_
        simp only [List.setIfInBounds_toArray, List.set_cons_zero, List.set_cons_succ]
        refine Disk.z_skip 9 (w' := wb.setCell ⟨H, 3, none⟩ (.int .i64 y)) rfl rfl (by kernel_rfl) (by rfl) (by go_simp; first | done | with_reducible rfl) (.inl rfl) ?_
        refine Disk.z_done (by kernel_rfl) ?_ _
        clear D4 D3 hsb ck c3 fz
        have x0 := (va8_cells D5.row).1; have x1 := (va8_cells D5.row).2.1; have x2 := (va8_cells D5.row).2.2.1; have x3 := (va8_cells D5.row).2.2.2.1; have x4 := (va8_cells D5.row).2.2.2.2.1; have x5 := (va8_cells D5.row).2.2.2.2.2.1; have x6 := (va8_cells D5.row).2.2.2.2.2.2.1; have x7 := (va8_cells D5.row).2.2.2.2.2.2.2
        obtain ⟨fR, FR⟩ := D5.res
        have OKC : (#[.slice (some ⟨g, 0, none⟩) t.words.length c, .slice p2 t.roots.length e2, .int .i64 t.old, .int .i64 y, .int .i64 t.surv, .bool t.flip, .int .i64 t.hash, .slice p3 t.kept.length e3] : Array Value).all (·.oneCell') = true := by simp [Value.oneCell']
        have ED := fun W' (q : World.grownBy _ W' _) => D5.done q
        go_wp2_with ((with_reducible refine store_box _ ?_ (.tmp 2) (.tmp 77) 26 ?_ 26 w.heap.size 8 #[.slice (some ⟨g, 0, none⟩) t.words.length c, .slice p2 t.roots.length e2, .int .i64 t.old, .int .i64 y, .int .i64 t.surv, .bool t.flip, .int .i64 t.hash, .slice p3 t.kept.length e3] _ ?_ ?_ FR ?_ ?_ OKC ?_); rfl; rfl; rfl; rfl; rfl; kernel_rfl; intro w9 F9 G9)
        have r0 := F9.cell (i := 0) (by omega); have r1 := F9.cell (i := 1) (by omega); have r2 := F9.cell (i := 2) (by omega); have r3 := F9.cell (i := 3) (by omega); have r4 := F9.cell (i := 4) (by omega); have r5 := F9.cell (i := 5) (by omega); have r6 := F9.cell (i := 6) (by omega); have r7 := F9.cell (i := 7) (by omega)
        exact bodyPost_ret (v := .agg #[.slice (some ⟨g, 0, none⟩) t.words.length c, .slice p2 t.roots.length e2, .int .i64 t.old, .int .i64 y, .int .i64 t.surv, .bool t.flip, .int .i64 t.hash, .slice p3 t.kept.length e3]) (by simp [results, Tryz.results42, go_sem, r0, r1, r2, r3, r4, r5, r6, r7]) rfl (ED _ G9)

end Go.Proofs.YtklafifiphbibaaGreat
