/- DrawSuperText of the model. -/
import Derived.Test.YtfcenohgfhefiaaGreatDoorZDraw2
import Derived.Test.YtfcenohgfhefiaaGreatDoorZMB
namespace Go.Proofs.YtfcenohgfhefiaaGreatDoor
open Go.RowKit

def lenOf : Value → Nat
  | .slice _ n _ => n
  | _ => 0
theorem five_cell {w w' : World} {N : Nat} (x0 x1 x2 x3 x4 : Int) (g : (w.alloc (.cells #[.int .i64 x0, .int .i64 x1, .int .i64 x2, .int .i64 x3, .int .i64 x4] 2)).grownBy w' (some N)) (hN : N < w.heap.size) (z : Nat) (hz : z < 5) : ∃ m : Int, w'.cell? ⟨w.heap.size, z, none⟩ = some (.int .i64 m) := by
  have key : ∃ m : Int, (w.alloc (.cells #[.int .i64 x0, .int .i64 x1, .int .i64 x2, .int .i64 x3, .int .i64 x4] 2)).cell? ⟨w.heap.size, z, none⟩ = some (.int .i64 m) := by
    match z, hz with
    | 0, _ => exact ⟨x0, by simp⟩
    | 1, _ => exact ⟨x1, by simp⟩
    | 2, _ => exact ⟨x2, by simp⟩
    | 3, _ => exact ⟨x3, by simp⟩
    | 4, _ => exact ⟨x4, by simp⟩
  obtain ⟨m, hm⟩ := key
  exact ⟨m, g.cell hm (fun e => by have e2 : w.heap.size = N := Option.some.inj e; omega)⟩
theorem own_monoD {w : World} {B B' e size n : Nat} {v : Value} {xs : List Value} (h : w.ownsRow B e size v n xs) (hB : B' ≤ B) : w.ownsRow B' e size v n xs := by
  obtain ⟨h1, h2⟩ := h
  refine ⟨h1, ?_⟩
  rcases h2 with h2 | ⟨b, cap, cur, rfl, hb, r⟩
  · exact .inl h2
  · exact .inr ⟨b, cap, cur, rfl, Nat.le_trans hB hb, r⟩

set_option maxRecDepth 100000 in
set_option maxHeartbeats 3200000 in
theorem drawSup_any (cv : Value) (cs : List UInt8) (w : World) (hc : BR w cv cs) (hn : cs.length ≤ 4096) :
    Calls Tryz.prog 26 #[cv] w fun x w' => (∃ (e : Int) (l : List Int) (v : Value), x = .returned (.tuple #[.int .i64 e, v]) ∧ w'.ownsRow w.heap.size 2 1 v l.length (icells l) ∧ l.length ≤ 40) ∧ Below w.heap.size w w' := by
  have NW := l1New_any cv cs w hc hn
  go_enter Tryz.func26, Tryz.ntmps26
  go_wp2_with fail
  refine NW.mono ?_
  rintro x w1 ⟨N, rfl, hN, hN1, hb1, d1⟩
  clear NW
  go_wp2_with fail
  refine (d1.below 50 (by omega) (by omega)).mono ?_
  rintro x w2 ⟨⟨e, rfl, e0, e1⟩, g2, d2⟩
  have hN2 : N < w2.heap.size := Nat.lt_of_lt_of_le hN1 g2.size
  have gA : w2.grownBy (w2.alloc (.cells #[] 2)) (some N) := galloc _ _ _
  have own0 := own_none w2 w2.heap.size 2 1 (Nat.le_refl _)
  have D0 : Dw N cv cs (w2.alloc (.cells #[] 2)) := d2.grown gA d2 (galloc _ _ none) (by simp) hN2
  have B0 := D0.below 6 (by omega) (by omega)
  go_wp2_with fail
  refine B0.mono ?_
  rintro x w3 ⟨⟨z, rfl, z0, z1⟩, g3, d3⟩
  clear B0
  have gw3 : w2.grownBy w3 (some N) := gtrans gA g3
  have own3 := own_off own0 g3 hN2
  obtain ⟨zn, rfl⟩ := Int.eq_ofNat_of_zero_le z0
  go_wp2
  go_loopw [6, 7, 8] (fun lv av nv wr => ∃ (l : List Int) (j p : Nat) (v0 : Value), nv = .int .i64 j ∧ j + l.length ≤ 6 ∧ av = .int .i64 p ∧ p ≤ 2 + 10 * l.length ∧ v0 = lv ∧ wr.ownsRow w2.heap.size 2 1 v0 l.length (icells l) ∧ Dw N cv cs wr ∧ w2.grownBy wr (some N)) (fun _ _ nv _ => (intOf nv).toNat)
  case atStart => exact ⟨[], zn, 2, _, rfl, by simp; omega, rfl, by simp, rfl, own3, d3, gw3⟩
  case round =>
    obtain ⟨l, j, p, lv, rfl, hj, rfl, hp, rfl, hown, hd, hg⟩ := hrel
    have szr := hg.size
    by_cases hlt : 0 < j
    · have hlt' : decide ((0 : Int) < (j : Int)) = true := by simp; omega
      have BY := hd.below 9 (by omega) (by omega)
      go_wp2_with fail
      refine BY.mono ?_
      rintro x w4 ⟨⟨y, rfl, y0, y1⟩, g4, d4⟩
      have own4 := own_off hown g4 hN2
      have gw4 : w2.grownBy w4 (some N) := gtrans hg g4
      obtain ⟨yn, rfl⟩ := Int.eq_ofNat_of_zero_le y0
      have sz4 := gw4.size
      have own5 := own_off (N := N) own4 (galloc w4 (.cells #[.int .i64 ((p : Int) + (yn : Int))] 2) _) hN2
      have gw5 : w2.grownBy (w4.alloc (.cells #[.int .i64 ((p : Int) + (yn : Int))] 2)) (some N) := gtrans gw4 (galloc _ _ _)
      have d5 : Dw N cv cs (w4.alloc (.cells #[.int .i64 ((p : Int) + (yn : Int))] 2)) := d2.grown gw5 d4 (galloc _ _ none) (by simp) (by omega)
      have hc : ∀ W : World, (W.alloc (.cells #[.int .i64 ((p : Int) + (yn : Int))] 2)).cell? ⟨W.heap.size, 0, none⟩ = some (.int .i64 ((p : Int) + (yn : Int))) := fun W => by simp
      have HB : Hid (icells (l ++ [(p : Int) + (yn : Int)]) = icells l ++ [.int .i64 ((p : Int) + (yn : Int))]) := (by simp [icells] : icells (l ++ [(p : Int) + (yn : Int)]) = icells l ++ [.int .i64 ((p : Int) + (yn : Int))])
      have HL : Hid ((l ++ [(p : Int) + (yn : Int)]).length = l.length + 1) := (by simp : (l ++ [(p : Int) + (yn : Int)]).length = l.length + 1)
      clear BY
      go_wp2_with (at_builtin; refine app_int _ rfl _ _ rfl w2.heap.size _ l.length _ rfl own5 _ 1 ((p : Int) + (yn : Int)) rfl (hc _) (by omega) (by simp; omega) ?_; intro v6 w6 own6 g6; have gw6 := gmix gw5 g6 (own_row own5); have d6 := d2.grown gw6 d5 g6 (fun e => by have := own_row own5 N e.symm; omega) (by simp; omega))
      exact ⟨⟨l ++ [(p : Int) + (yn : Int)], j - 1, p + yn + 1, _, by go_num, by rw [HL.out]; omega, by go_num, by rw [HL.out]; omega, rfl, by rw [HB.out, HL.out]; exact own6, d6, gw6⟩, by simp [intOf]; omega⟩
    · have hlt' : decide ((0 : Int) < (j : Int)) = false := by simp; omega
      have ON := hd.once 10 (by omega) (by omega)
      go_wp2_with fail
      refine ON.mono ?_
      rintro x w4 ⟨⟨b, rfl⟩, g4, d4⟩
      clear ON
      have gw4 : w2.grownBy w4 (some N) := gtrans hg g4
      have sz4 := gw4.size
      have own4 := own_off hown g4 hN2
      have szw : w.heap.size ≤ w2.heap.size := by omega
      have bw : ∀ (W : World), w2.grownBy W (some N) → Below w.heap.size w W := fun W g => gbel (gbel hb1 g2 hb1.size hN) g (by omega) hN
      have ow : ∀ (W : World) v (l : List Int), W.ownsRow w2.heap.size 2 1 v l.length (icells l) → W.ownsRow w.heap.size 2 1 v l.length (icells l) := fun W v l h => own_monoD h szw
      cases b
      · have hB := bw _ gw4
        have hO := ow _ _ _ own4
        clear hown own4
        go_wp2
        exact bodyPost_ret (v := .tuple #[.int .i64 (1 + e), lv]) (by simp [results, Tryz.results26, go_sem]) rfl ⟨⟨1 + e, l, lv, rfl, hO, by omega⟩, hB⟩
      · have BL := d4.below 3 (by omega) (by omega)
        go_wp2_with fail
        refine BL.mono ?_
        rintro x w5 ⟨⟨y, rfl, y0, y1⟩, g5, d5⟩
        clear BL
        have gw5 : w2.grownBy w5 (some N) := gtrans gw4 g5
        have own5 := own_off own4 g5 hN2
        have hN5 : N < w5.heap.size := by have := gw5.size; omega
        have hy : y = 0 ∨ y = 1 ∨ y = 2 := by omega
        rcases hy with rfl | rfl | rfl
        · have G6 : w2.grownBy (w5.alloc (.cells #[.int .i64 0, .int .i64 999999999, .int .i64 1000000000, .int .i64 (-9223372036854775808)] 2)) (some N) := gtrans gw5 (galloc _ _ _)
          have D6 := d2.grown G6 d5 (galloc _ _ none) (by simp) hN5
          go_wp2_with fail
          refine (D6.below 4 (by omega) (by omega)).mono ?_
          rintro x w6 ⟨⟨z, rfl, z0', z1'⟩, g6, d6⟩
          obtain ⟨kn, rfl⟩ := Int.eq_ofNat_of_zero_le z0'
          obtain ⟨m, hm⟩ := four_cell _ _ _ _ g6 hN5 kn (by omega)
          have gw6 : w2.grownBy w6 (some N) := gtrans G6 g6
          have k1' : decide ((kn : Int) < 4) = true := by simp; omega
          have hB := bw _ gw6
          have hO := ow _ _ _ (own_off (own_off (N := N) own5 (galloc _ _ _) hN2) g6 hN2)
          clear hown own4 own5
          go_wp2
          exact bodyPost_ret (v := .tuple #[.int .i64 m, lv]) (by simp [results, Tryz.results26, go_sem]) rfl ⟨⟨m, l, lv, rfl, hO, by omega⟩, hB⟩
        · have G6 : w2.grownBy (w5.alloc (.cells #[.int .i64 1, .int .i64 64, .int .i64 2, .int .i64 63, .int .i64 (-9223372036854775808)] 2)) (some N) := gtrans gw5 (galloc _ _ _)
          have D6 := d2.grown G6 d5 (galloc _ _ none) (by simp) hN5
          go_wp2_with fail
          refine (D6.below 5 (by omega) (by omega)).mono ?_
          rintro x w6 ⟨⟨z, rfl, z0', z1'⟩, g6, d6⟩
          obtain ⟨kn, rfl⟩ := Int.eq_ofNat_of_zero_le z0'
          obtain ⟨m, hm⟩ := five_cell _ _ _ _ _ g6 hN5 kn (by omega)
          have gw6 : w2.grownBy w6 (some N) := gtrans G6 g6
          have k1' : decide ((kn : Int) < 5) = true := by simp; omega
          have own6 := own_off (own_off (N := N) own5 (galloc _ _ _) hN2) g6 hN2
          have sz6 := gw6.size
          have own7 := own_off (N := N) own6 (galloc w6 (.cells #[.int .i64 m] 2) _) hN2
          have gw7 : w2.grownBy (w6.alloc (.cells #[.int .i64 m] 2)) (some N) := gtrans gw6 (galloc _ _ _)
          have hc : ∀ W : World, (W.alloc (.cells #[.int .i64 m] 2)).cell? ⟨W.heap.size, 0, none⟩ = some (.int .i64 m) := fun W => by simp
          have HB : Hid (icells (l ++ [m]) = icells l ++ [.int .i64 m]) := (by simp [icells] : icells (l ++ [m]) = icells l ++ [.int .i64 m])
          have HL : Hid ((l ++ [m]).length = l.length + 1) := (by simp : (l ++ [m]).length = l.length + 1)
          clear hown own4 own5 own6
          go_wp2_with (at_builtin; refine app_int _ rfl _ _ rfl w2.heap.size _ l.length _ rfl own7 _ 1 m rfl (hc _) (by omega) (by simp; omega) ?_; intro v8 w8 own8 g8; have gw8 := gmix gw7 g8 (own_row own7))
          exact bodyPost_ret (v := .tuple #[.int .i64 (1 + e), v8]) (by simp [results, Tryz.results26, go_sem]) rfl ⟨⟨1 + e, l ++ [m], v8, rfl, ow _ _ _ (by rw [HB.out, HL.out]; exact own8), by rw [HL.out]; omega⟩, bw _ gw8⟩
        · clear hown own4
          go_wp2
          go_loopw [6] (fun lv wr => ∃ (l : List Int) (v0 : Value), v0 = lv ∧ wr.ownsRow w2.heap.size 2 1 v0 l.length (icells l) ∧ l.length ≤ 31 ∧ Dw N cv cs wr ∧ w2.grownBy wr (some N)) (fun lv _ => 32 - lenOf lv)
          case atStart => exact ⟨l, _, rfl, own5, by omega, d5, gw5⟩
          case round =>
            clear own5 l hj hp
            obtain ⟨l, lv, rfl, hown, hl31, hd, hg⟩ := hrel
            obtain ⟨ao, cap, rfl, hcap, _⟩ := own_cell hown
            have BL := hd.below 2 (by omega) (by omega)
            go_wp2_with fail
            refine BL.mono ?_
            rintro x w6 ⟨⟨y, rfl, y0', y1'⟩, g6, d6⟩
            clear BL
            have gw6 : w2.grownBy w6 (some N) := gtrans hg g6
            have own6 := own_off hown g6 hN2
            have sz6 := gw6.size
            by_cases hq : (l.length : Int) < 30 + y
            · have hq' : decide ((l.length : Int) < 30 + y) = true := by simp; omega
              have own7 := own_off (N := N) own6 (galloc w6 (.cells #[.int .i64 ((l.length : Int) + 30)] 2) _) hN2
              have gw7 : w2.grownBy (w6.alloc (.cells #[.int .i64 ((l.length : Int) + 30)] 2)) (some N) := gtrans gw6 (galloc _ _ _)
              have d7 : Dw N cv cs (w6.alloc (.cells #[.int .i64 ((l.length : Int) + 30)] 2)) := d2.grown gw7 d6 (galloc _ _ none) (by simp) (by omega)
              have hc : ∀ W : World, (W.alloc (.cells #[.int .i64 ((l.length : Int) + 30)] 2)).cell? ⟨W.heap.size, 0, none⟩ = some (.int .i64 ((l.length : Int) + 30)) := fun W => by simp
              have HB : Hid (icells (l ++ [(l.length : Int) + 30]) = icells l ++ [.int .i64 ((l.length : Int) + 30)]) := (by simp [icells] : icells (l ++ [(l.length : Int) + 30]) = icells l ++ [.int .i64 ((l.length : Int) + 30)])
              have HL : Hid ((l ++ [(l.length : Int) + 30]).length = l.length + 1) := (by simp : (l ++ [(l.length : Int) + 30]).length = l.length + 1)
              clear hown own6
              go_wp2_with (at_builtin; refine app_int _ rfl _ _ rfl w2.heap.size _ l.length _ rfl own7 _ 1 ((l.length : Int) + 30) rfl (hc _) (by omega) (by simp; omega) ?_; intro v8 w8 own8 g8; have gw8 := gmix gw7 g8 (own_row own7); have d8 := d2.grown gw8 d7 g8 (fun e => by have := own_row own7 N e.symm; omega) (by simp; omega))
              have l8 : lenOf v8 = l.length + 1 := by obtain ⟨ao, cap, rfl, _⟩ := own_cell own8; rfl
              exact ⟨⟨l ++ [(l.length : Int) + 30], _, rfl, by rw [HB.out, HL.out]; exact own8, by rw [HL.out]; omega, d8, gw8⟩, by rw [l8]; show 32 - (l.length + 1) < 32 - l.length; omega⟩
            · have hq' : decide ((l.length : Int) < 30 + y) = false := by simp; omega
              have hB := bw _ gw6
              have hO := ow _ _ _ own6
              clear hown own6
              go_wp2
              exact bodyPost_ret (v := .tuple #[.int .i64 (1 + e), .slice ao l.length cap]) (by simp [results, Tryz.results26, go_sem]) rfl ⟨⟨1 + e, l, _, rfl, hO, by omega⟩, hB⟩

end Go.Proofs.YtfcenohgfhefiaaGreatDoor
