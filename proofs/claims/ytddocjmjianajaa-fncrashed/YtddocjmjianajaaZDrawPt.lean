/- DrawPut of the model. -/
import Derived.Test.YtddocjmjianajaaZDrawDw
namespace Go.Proofs.Ytddocjmjianajaa
open Go.RowKit

theorem sr_keep {N B : Nat} {v : Value} {w w' : World} {ss : List ByteArray} (h : Disk.SR w v ss) (l : Low B v) (hN : N < B) (g : w.grownBy w' (some N)) : Disk.SR w' v ss := by
  obtain ⟨ao, cap, rfl, hc⟩ := h
  refine ⟨ao, cap, rfl, fun i hi => ?_⟩
  obtain ⟨b, o, rfl, hx⟩ := hc i hi
  have hb : B ≤ b := l _ _ _ rfl (by omega)
  exact ⟨b, o, rfl, g.cell hx (fun e => by have e2 : b = N := Option.some.inj e; omega)⟩
theorem wr_keep {N B : Nat} {v : Value} {w w' : World} {ws : List Disk.Wr} (h : Disk.WR w v ws) (l : Low B v) (hN : N < B) (g : w.grownBy w' (some N)) : Disk.WR w' v ws := by
  obtain ⟨ao, cap, rfl, hc⟩ := h
  refine ⟨ao, cap, rfl, fun i hi => ?_⟩
  obtain ⟨b, o, rfl, hx, hy⟩ := hc i hi
  have hb : B ≤ b := l _ _ _ rfl (by omega)
  exact ⟨b, o, rfl, g.cell hx (fun e => by have e2 : b = N := Option.some.inj e; omega), g.cell hy (fun e => by have e2 : b = N := Option.some.inj e; omega)⟩

theorem bx_off {W : World} {D R : Nat} {u1 u2 : Value} (h : Bx W D u1 u2) (hne : D ≠ R) (x y : Value) : Bx ((W.setCell ⟨R, 0, none⟩ x).setCell ⟨R, 1, none⟩ y) D u1 u2 := h.grown (gset (gset1 W R 0 x) 1 y) (fun e => hne (Option.some.inj e))
theorem sr_off {W : World} {R B : Nat} {v x y : Value} {ss : List ByteArray} (h : Disk.SR W v ss) (l : Low B v) (hR : R < B) : Disk.SR ((W.setCell ⟨R, 0, none⟩ x).setCell ⟨R, 1, none⟩ y) v ss := sr_keep h l hR (gset (gset1 W R 0 x) 1 y)
theorem wr_off {W : World} {R B : Nat} {v x y : Value} {ws : List Disk.Wr} (h : Disk.WR W v ws) (l : Low B v) (hR : R < B) : Disk.WR ((W.setCell ⟨R, 0, none⟩ x).setCell ⟨R, 1, none⟩ y) v ws := wr_keep h l hR (gset (gset1 W R 0 x) 1 y)

set_option maxRecDepth 100000 in
set_option maxHeartbeats 3200000 in
theorem drawPut_any (cv : Value) (cs : List UInt8) (w : World) (hc : BR w cv cs) (hn : cs.length ≤ 4096) :
    Calls Try.prog 6 #[cv] w fun x w' => (∃ (u1 u2 : Value) (ss : List ByteArray) (ws : List Disk.Wr) (sec : Int) (t : ByteArray), x = .returned (.tuple #[.agg #[u1, u2], .int .i64 sec, .string t]) ∧ Disk.SR w' u1 ss ∧ Disk.WR w' u2 ws ∧ ss.length ≤ 64 ∧ ws.length ≤ 300) ∧ Below w.heap.size w w' := by
  have h0 := Disk.bel_one w (.cells #[.slice none 0 0, .slice none 0 0] 27)
  have NW := l1New_any cv cs (w.alloc (.cells #[.slice none 0 0, .slice none 0 0] 27)) (hc.later h0) hn
  have R0 := Bx.new w (.slice none 0 0) (.slice none 0 0)
  have z0 : (w.alloc (.cells #[.slice none 0 0, .slice none 0 0] 27)).heap.size = w.heap.size + 1 := by simp
  go_enter Try.func6, Try.ntmps6
  go_wp2_with fail
  refine NW.mono ?_
  rintro x w1 ⟨N, rfl, hN, hN1, hb1, d1⟩
  clear NW
  rw [z0] at hN
  go_wp2_with fail
  refine (d1.disk hN1).mono ?_
  rintro x w2 ⟨⟨u1, u2, ss, ws, rfl, s1, s2, l1, l2, _, o1, o2⟩, g2, d2⟩
  have hN2 : N < w2.heap.size := Nat.lt_of_lt_of_le hN1 g2.size
  obtain ⟨a1, k1, e1, _⟩ := id s1
  obtain ⟨a2, k2, e2, _⟩ := id s2
  subst e1
  subst e2
  have hw1 : w.heap.size < w1.heap.size := by omega
  have S1 : Hid (∀ W : World, w2.grownBy W (some N) → Disk.SR ((W.setCell ⟨w.heap.size, 0, none⟩ (.slice a1 ss.length k1)).setCell ⟨w.heap.size, 1, none⟩ (.slice a2 ws.length k2)) (.slice a1 ss.length k1) ss) := fun W g => sr_off (sr_keep s1 o1 hN1 g) o1 hw1
  have S2 : Hid (∀ W : World, w2.grownBy W (some N) → Disk.WR ((W.setCell ⟨w.heap.size, 0, none⟩ (.slice a1 ss.length k1)).setCell ⟨w.heap.size, 1, none⟩ (.slice a2 ws.length k2)) (.slice a2 ws.length k2) ws) := fun W g => wr_off (wr_keep s2 o2 hN1 g) o2 hw1
  have BW : Hid (∀ W : World, w2.grownBy W (some N) → Below w.heap.size w ((W.setCell ⟨w.heap.size, 0, none⟩ (.slice a1 ss.length k1)).setCell ⟨w.heap.size, 1, none⟩ (.slice a2 ws.length k2))) := fun W g => gbel (gbel (bel_after h0 hb1) (gtrans g2 g) (by have := hb1.size; omega) (by omega)) (gset (gset1 W w.heap.size 0 _) 1 _) (by have := (gtrans g2 g).size; omega) (Nat.le_refl _)
  have RB : Hid (∀ W : World, w2.grownBy W (some N) → Bx W w.heap.size (.slice none 0 0) (.slice none 0 0)) := fun W g => (R0.later hb1).grown (gtrans g2 g) (fun e => by have := Option.some.inj e; omega)
  have gA : w2.grownBy (w2.alloc (.cells #[.slice a1 ss.length k1, .slice a2 ws.length k2] 27)) (some N) := galloc _ _ _
  have dA := d2.grown gA d2 (galloc _ _ none) (by simp) hN2
  have DB : Hid (∀ W : World, (w2.alloc (.cells #[.slice a1 ss.length k1, .slice a2 ws.length k2] 27)).grownBy W (some N) → Bx W w2.heap.size (.slice a1 ss.length k1) (.slice a2 ws.length k2)) := fun W g => (Bx.new w2 _ _).grown g (fun e => by have := Option.some.inj e; omega)
  clear s1 s2 o1 o2 g2 d1 R0
  go_wp2_with fail
  refine (dA.below 64 (by omega) (by omega)).mono ?_
  rintro x w3 ⟨⟨z, rfl, z0, z1⟩, g3, d3⟩
  go_wp2_with fail
  refine (d3.once 12 (by omega) (by omega)).mono ?_
  rintro x w4 ⟨⟨b, rfl⟩, g4, d4⟩
  have gw4 := gtrans g3 g4
  have hN4 : N < w4.heap.size := Nat.lt_of_lt_of_le hN2 (gtrans gA gw4).size
  have hne : w2.heap.size ≠ w.heap.size := by omega
  cases b
  · have TX := d4.drew.text (show N < w4.drew.heap.size from hN4)
    have g4d := gdrew gw4
    have m0 := (DB.out _ gw4).c0
    have m1 := (DB.out _ gw4).c1
    go_wp2_with fail
    go_region_held3 (fun w' => w'.cell? ⟨w2.heap.size, 0, none⟩ = some (.slice a1 ss.length k1) ∧ w'.cell? ⟨w2.heap.size, 1, none⟩ = some (.slice a2 ws.length k2))
      (first | assumption | (exact ⟨m0, m1⟩) | (exact ⟨(DB.out _ gw5).c0, (DB.out _ gw5).c1⟩) | (exact ⟨(bx_off (DB.out _ gw5) hne _ _).c0, (bx_off (DB.out _ gw5) hne _ _).c1⟩))
      (first | (go_at_call 21; refine TX.mono ?_; rintro x w5 ⟨⟨tt, rfl, ht⟩, g5, d5⟩; have gw5 := gtrans g4d g5; have q5 := RB.out _ (gtrans gA gw5); have o0 := q5.c0; have o1 := q5.c1; have of0 := q5.f (o := 0); have of1 := q5.f (o := 1)))
    all_goals go_wp2
    have p0 := (q5.set (.slice a1 ss.length k1) (.slice a2 ws.length k2)).c0
    have p1 := (q5.set (.slice a1 ss.length k1) (.slice a2 ws.length k2)).c1
    exact bodyPost_ret (v := .tuple #[.agg #[.slice a1 ss.length k1, .slice a2 ws.length k2], .int .i64 z, .string tt]) (by simp [results, Try.results6, go_sem, p0, p1]) rfl ⟨⟨_, _, ss, ws, z, tt, rfl, S1.out _ (gtrans gA gw5), S2.out _ (gtrans gA gw5), l1, l2⟩, BW.out _ (gtrans gA gw5)⟩
  · have G6 := gtrans gw4 (galloc w4 (.cells #[.int .i64 (-1), .int .i64 64, .int .i64 63, .int .i64 4611686018427387904] 2) (some N))
    have D6 := d2.grown (gtrans gA G6) d4 (galloc _ _ none) (by simp) hN4
    go_wp2_with fail
    refine (D6.below 4 (by omega) (by omega)).mono ?_
    rintro x w6 ⟨⟨y, rfl, y0', y1'⟩, g6, d6⟩
    obtain ⟨kn, rfl⟩ := Int.eq_ofNat_of_zero_le y0'
    obtain ⟨m, hm⟩ := four_cell _ _ _ _ g6 hN4 kn (by omega)
    have gw6 := gtrans G6 g6
    have k1' : decide ((kn : Int) < 4) = true := by simp; omega
    have hN6 : N < w6.heap.size := Nat.lt_of_lt_of_le hN2 (gtrans gA gw6).size
    have TX := d6.drew.text (show N < w6.drew.heap.size from hN6)
    have g4d := gdrew gw6
    have m0 := (DB.out _ gw6).c0
    have m1 := (DB.out _ gw6).c1
    go_wp2_with fail
    go_region_held3 (fun w' => w'.cell? ⟨w2.heap.size, 0, none⟩ = some (.slice a1 ss.length k1) ∧ w'.cell? ⟨w2.heap.size, 1, none⟩ = some (.slice a2 ws.length k2))
      (first | assumption | (exact ⟨m0, m1⟩) | (exact ⟨(DB.out _ gw5).c0, (DB.out _ gw5).c1⟩) | (exact ⟨(bx_off (DB.out _ gw5) hne _ _).c0, (bx_off (DB.out _ gw5) hne _ _).c1⟩))
      (first | (go_at_call 21; refine TX.mono ?_; rintro x w5 ⟨⟨tt, rfl, ht⟩, g5, d5⟩; have gw5 := gtrans g4d g5; have q5 := RB.out _ (gtrans gA gw5); have o0 := q5.c0; have o1 := q5.c1; have of0 := q5.f (o := 0); have of1 := q5.f (o := 1)))
    all_goals go_wp2
    have p0 := (q5.set (.slice a1 ss.length k1) (.slice a2 ws.length k2)).c0
    have p1 := (q5.set (.slice a1 ss.length k1) (.slice a2 ws.length k2)).c1
    exact bodyPost_ret (v := .tuple #[.agg #[.slice a1 ss.length k1, .slice a2 ws.length k2], .int .i64 m, .string tt]) (by simp [results, Try.results6, go_sem, p0, p1]) rfl ⟨⟨_, _, ss, ws, m, tt, rfl, S1.out _ (gtrans gA gw5), S2.out _ (gtrans gA gw5), l1, l2⟩, BW.out _ (gtrans gA gw5)⟩

end Go.Proofs.Ytddocjmjianajaa
