import Derived.Test.YtjclpbaiiklhcaaGreatDoorZV4
import Derived.Test.YtjclpbaiiklhcaaGreatDoorZDHold
import Derived.Test.YtjclpbaiiklhcaaGreatDoorZV3
import Derived.Test.YtjclpbaiiklhcaaGreatDoorZDBase
/- copyTexts of the program: texts copied one by one into a new row. -/
namespace Go.Proofs.YtjclpbaiiklhcaaGreatDoor.Disk
open Go.RowKit Go.Deep

theorem make0_22 (n : Nat) (hn : n ≤ 10000000000000) (w : World) : (Instr.makeSlice 24 (.int .i64 0) (.int .i64 (n : Int))).run Tryz.prog w = .ok (.slice (some ⟨w.heap.size, 0, none⟩) 0 n) (w.alloc (.cells (madeCells #[.string ⟨#[]⟩] n) 9)) := by
  obtain ⟨i, hi, hzz⟩ := Option.map_eq_some_iff.1 Tryz.info9
  simp only [Prod.mk.injEq] at hzz
  obtain ⟨hz, hs, hb⟩ := hzz
  have hr := run_make (P := Tryz.prog) w 24 9 i _ Tryz.under22 hi hz .i64 .i64 0 n (by omega) (by omega) (by rw [hb]; omega) (by omega)
  rw [hs, Int.toNat_natCast, Nat.mul_one] at hr
  exact hr

theorem own_made (w : World) (e size n : Nat) (C : Array Value) (hC : C.size = n * size) (hn : n ≤ maxLen) : (w.alloc (.cells C e)).ownsRow w.heap.size e size (.slice (some ⟨w.heap.size, 0, none⟩) 0 n) 0 [] :=
  ⟨by simp, .inr ⟨w.heap.size, n, C, rfl, Nat.le_refl _, heap_alloc_new w _, by omega, hn, hC, by simp⟩⟩

theorem owned_row {w : World} {B e size n : Nat} {b cap : Nat} {xs : List Value} (g : Nat → Value) (h : w.ownsRow B e size (.slice (some ⟨b, 0, none⟩) n cap) n xs) (hg : ∀ i, i < xs.length → xs[i]? = some (g i)) :
    ∃ (N : Nat) (f : Nat → Value), w.rowIs b e N (fun i => if i < n * size then g i else f i) ∧ n * size ≤ N ∧ B ≤ b := by
  obtain ⟨hl, h⟩ := h
  rcases h with ⟨h, _⟩ | ⟨b', cap', cur, hv, hB, hh, hnc, _, hsz, htk⟩
  · simp at h
  · simp only [Value.slice.injEq, Option.some.injEq, Addr.mk.injEq, and_true] at hv
    obtain ⟨rfl, _, rfl⟩ := hv
    have hle : n * size ≤ cur.size := by rw [hsz]; exact Nat.mul_le_mul_right _ hnc
    refine ⟨cur.size, fun i => cur[i]?.getD undef, ⟨cur, hh, rfl, fun i hi => ?_⟩, hle, hB⟩
    show cur[i]? = some (if i < n * size then g i else cur[i]?.getD undef)
    by_cases hin : i < n * size
    · rw [if_pos hin]
      have hx := hg i (by omega)
      rw [← htk, List.getElem?_take_of_lt hin] at hx
      simpa using hx
    · rw [if_neg hin]
      simp [hi]

theorem ns_owns {w : World} {B b cap : Nat} {ss : List ByteArray} (h : w.ownsRow B 9 1 (.slice (some ⟨b, 0, none⟩) ss.length cap) ss.length (scells ss)) : NS B w (.slice (some ⟨b, 0, none⟩) ss.length cap) ss := by
  obtain ⟨N, f, hr, hN, hB⟩ := owned_row (scell ss) h (fun i hi => by rw [scells_length, Nat.mul_one] at hi; exact scells_get ss i hi)
  rw [Nat.mul_one] at hr hN
  exact ns_row hr hN hB

theorem nw_owns {w : World} {B b cap : Nat} {ws : List Wr} (h : w.ownsRow B 48 2 (.slice (some ⟨b, 0, none⟩) ws.length cap) ws.length (lcells ws)) : NW B w (.slice (some ⟨b, 0, none⟩) ws.length cap) ws := by
  obtain ⟨N, f, hr, hN, hB⟩ := owned_row (lcell ws) h (fun i hi => by rw [lcells_length] at hi; exact lcells_get ws i hi)
  exact nw_row hr hN hB

theorem scells_take_succ (ss : List ByteArray) (j : Nat) (h : j < ss.length) : scells (ss.take (j + 1)) = scells (ss.take j) ++ [.string (ss.getD j ByteArray.empty)] := by
  unfold scells
  rw [List.take_succ_eq_append_getElem h, List.map_append]
  congr 1
  simp [h]

set_option maxRecDepth 100000 in
set_option maxHeartbeats 1000000 in
theorem copyTexts_cap (v : Value) (ss : List ByteArray) (w : World) (hv : SR w v ss) (hl : ss.length ≤ 10000000000000) (hsz : ∀ k, k < ss.length → (ss.getD k ByteArray.empty).size ≤ 256) :
    Calls Tryz.prog 56 #[v] w fun e w' => ∃ v', e = .returned v' ∧ NS w.heap.size w' v' ss ∧ Below w.heap.size w w' ∧ CapS v' := by
  obtain ⟨ao, cap, rfl, hv⟩ := hv
  have hmk := make0_22 ss.length hl
  have HZ : Hid (∀ k, k < ss.length → (ss.getD k ByteArray.empty).size ≤ 256) := hsz
  have ho := own_made w 9 1 ss.length (madeCells #[.string ⟨#[]⟩] ss.length) (by rw [size_madeCells]; omega) (by unfold maxLen; omega)
  have HML : Hid (ss.length ≤ maxLen) := (by unfold maxLen; omega : ss.length ≤ maxLen)
  obtain ⟨i0, hi, hzz⟩ := Option.map_eq_some_iff.1 Tryz.info9
  simp only [Prod.mk.injEq] at hzz
  obtain ⟨_, hs1, _⟩ := hzz
  have HS1 : Hid (i0.size = 1) := hs1
  have HI : Hid (Tryz.prog.info? 9 = some i0) := hi
  clear hsz hs1 hi
  go_enter Tryz.func56, Tryz.ntmps56
  go_wp2
  go_loopw [3, 11] (fun out i wr => ∃ (j : Nat), j ≤ ss.length ∧ i = .int .i64 j ∧ out = .slice (some ⟨w.heap.size, 0, none⟩) j ss.length ∧ wr.ownsRow w.heap.size 9 1 (.slice (some ⟨w.heap.size, 0, none⟩) j ss.length) j (scells (ss.take j)) ∧ Below w.heap.size w wr) (fun _ i _ => ss.length - (intOf i).toNat)
  case atStart => exact ⟨0, Nat.zero_le _, rfl, rfl, ho, bel_one _ _⟩
  case round =>
    obtain ⟨j, hj, rfl, rfl, hown, hb⟩ := hrel
    by_cases hlt : j < ss.length
    · obtain ⟨b, o, rfl, hc⟩ := hv j hlt
      have hc1 := cell_later hb hc
      have hz := HZ.out j hlt
      have hsucc := scells_take_succ ss j hlt
      generalize ss.getD j ByteArray.empty = s at *
      have HS : Hid (scells (ss.take (j + 1)) = scells (ss.take j) ++ [.string s]) := hsucc
      clear hv hc hsucc hmk ho
      go_wp2_with (fail)
      refine (copyText_any s _ (by omega)).mono ?_
      rintro e w2 ⟨rfl, hb2⟩
      have hb3 := bel_then hb hb.size hb2
      have hown2 := hown.kept (grown_below (row := none) hb2) (.inr (by simp [Value.ownBlock]))
      have hown3 := hown2.alloc (.cells #[.string s] 9)
      clear hown hown2 hb
      go_wp2_with (first | (at_builtin; refine wpList_append_fits _ rfl _ _ 24 rfl w.heap.size 9 i0 1 Tryz.under22 HI.out HS1.out w.heap.size j ss.length _ rfl hown3 ⟨w2.heap.size, 0, none⟩ 1 1 [.string s] rfl rfl (cell_one_new _ _ _) (by simp [Value.oneCell']) (by omega) ?_; intro w4 hown4 hg4))
      have hb4 : Below w.heap.size w w4 := (hb3.alloc hb3.size _).grown hg4 (Nat.le_trans hb3.size (by simp)) (fun k e => by cases e; exact Nat.le_refl _)
      rw [← HS.out] at hown4
      go_roundw
      case rel => exact ⟨j + 1, by omega, by go_num, rfl, hown4, hb4⟩
      case measure => simp [intOf]; omega
    · obtain rfl : j = ss.length := by omega
      go_wp2
      go_ret
      rw [List.take_length] at hown
      exact ⟨_, rfl, ns_owns hown, hb, ⟨_, _, _, rfl, Nat.le_refl _⟩⟩
theorem copyTexts_any (v : Value) (ss : List ByteArray) (w : World) (hv : SR w v ss) (hl : ss.length ≤ 10000000000000) (hsz : ∀ k, k < ss.length → (ss.getD k ByteArray.empty).size ≤ 256) :
    Calls Tryz.prog 56 #[v] w fun e w' => ∃ v', e = .returned v' ∧ NS w.heap.size w' v' ss ∧ Below w.heap.size w w' :=
  (copyTexts_cap v ss w hv hl hsz).mono fun _ _ ⟨v', e, n, b, _⟩ => ⟨v', e, n, b⟩

end Go.Proofs.YtjclpbaiiklhcaaGreatDoor.Disk

/- Texts and bodies drawn. -/
namespace Go.Proofs.YtjclpbaiiklhcaaGreatDoor
open Go.RowKit

theorem comp_cell {w w' : World} {N z : Nat} {C : Array Value} {t : Nat} (g : (w.alloc (.cells C t)).grownBy w' (some N)) (hN : N < w.heap.size) {u : Value} (hu : C[z]? = some u) : w'.cell? ⟨w.heap.size, z, none⟩ = some u :=
  g.cell (Disk.cell_new w C t _ rfl z u hu) (fun e => by have e2 : w.heap.size = N := Option.some.inj e; omega)
theorem Dw.later {N : Nat} {cv : Value} {cs : List UInt8} {w w' : World} (h : Dw N cv cs w) (hb : Below w.heap.size w w') (hN : N < w.heap.size) : Dw N cv cs w' := by
  have g : w.grownBy w' none := ⟨hb.os, hb.tape, hb.output, hb.size, fun k hk _ => hb.block k hk⟩
  have g' : w.grownBy w' (some N) := ⟨hb.os, hb.tape, hb.output, hb.size, fun k hk _ => hb.block k hk⟩
  exact h.grown g' h g (by simp) hN

theorem five_str (x0 x1 x2 x3 x4 : ByteArray) (z : Nat) (hz : z < 5) : ∃ s, s ∈ [x0, x1, x2, x3, x4] ∧ (#[.string x0, .string x1, .string x2, .string x3, .string x4] : Array Value)[z]? = some (.string s) := by
  match z, hz with
  | 0, _ => exact ⟨x0, by simp, rfl⟩
  | 1, _ => exact ⟨x1, by simp, rfl⟩
  | 2, _ => exact ⟨x2, by simp, rfl⟩
  | 3, _ => exact ⟨x3, by simp, rfl⟩
  | 4, _ => exact ⟨x4, by simp, rfl⟩
theorem eight_str (x0 x1 x2 x3 x4 x5 x6 x7 : ByteArray) (z : Nat) (hz : z < 8) : ∃ s, s ∈ [x0, x1, x2, x3, x4, x5, x6, x7] ∧ (#[.string x0, .string x1, .string x2, .string x3, .string x4, .string x5, .string x6, .string x7] : Array Value)[z]? = some (.string s) := by
  match z, hz with
  | 0, _ => exact ⟨x0, by simp, rfl⟩
  | 1, _ => exact ⟨x1, by simp, rfl⟩
  | 2, _ => exact ⟨x2, by simp, rfl⟩
  | 3, _ => exact ⟨x3, by simp, rfl⟩
  | 4, _ => exact ⟨x4, by simp, rfl⟩
  | 5, _ => exact ⟨x5, by simp, rfl⟩
  | 6, _ => exact ⟨x6, by simp, rfl⟩
  | 7, _ => exact ⟨x7, by simp, rfl⟩
theorem small_of {s : ByteArray} {L : List ByteArray} {n : Nat} (h : s ∈ L) (hL : (L.all fun x => decide (x.size ≤ n)) = true) : s.size ≤ n := of_decide_eq_true (List.all_eq_true.1 hL s h)

set_option maxRecDepth 100000 in
set_option maxHeartbeats 3200000 in
theorem Dw.text {N : Nat} {cv : Value} {cs : List UInt8} {w : World} (h : Dw N cv cs w) (hN : N < w.heap.size) :
    Calls Tryz.prog 71 #[.pointer (some ⟨N, 0, none⟩)] w fun x w' => (∃ s : ByteArray, x = .returned (.string s) ∧ s.size ≤ 257) ∧ w.grownBy w' (some N) ∧ Dw N cv cs w' := by
  have ON := h.once 20 (by omega) (by omega)
  go_enter Tryz.func71, Tryz.ntmps71
  go_wp2_with fail
  refine ON.mono ?_
  rintro x w2 ⟨⟨b, rfl⟩, g2, d2⟩
  clear ON
  have sz2 := g2.size
  cases b
  · have G3 : w.grownBy (w2.alloc (.cells #[.string ⟨#[]⟩, .string ⟨#[97]⟩, .string ⟨#[111, 110, 101]⟩, .string ⟨#[115, 111, 109, 101, 32, 116, 101, 120, 116]⟩, .string ⟨#[10]⟩, .string ⟨#[83, 49, 59, 48, 59]⟩, .string ⟨#[80, 48, 59, 49, 59]⟩, .string ⟨#[97, 110, 111, 116, 104, 101, 114, 44, 32, 108, 111, 110, 103, 101, 114, 32, 116, 101, 120, 116]⟩] 9)) (some N) := gtrans g2 (galloc _ _ _)
    have D3 := h.grown G3 d2 (galloc _ _ none) (by simp) (by omega)
    go_wp2_with fail
    refine (D3.below 8 (by omega) (by omega)).mono ?_
    rintro x w3 ⟨⟨z, rfl, z0, z1⟩, g3, d3⟩
    obtain ⟨zn, rfl⟩ := Int.eq_ofNat_of_zero_le z0
    obtain ⟨s, hs, hcs⟩ := eight_str _ _ _ _ _ _ _ _ zn (by omega)
    have hcz := comp_cell g3 (by omega) hcs
    have hz : decide ((zn : Int) < 8) = true := by simp; omega
    have hsz : s.size ≤ 257 := small_of hs (by decide)
    have gw3 := gtrans G3 g3
    clear hs hcs
    go_wp2
    go_ret
    exact ⟨⟨s, rfl, hsz⟩, gw3, d3⟩
  · have BL := d2.below 2 (by omega) (by omega)
    go_wp2_with fail
    refine BL.mono ?_
    rintro x w3 ⟨⟨y, rfl, y0, y1⟩, g3, d3⟩
    clear BL
    obtain ⟨yn, rfl⟩ := Int.eq_ofNat_of_zero_le y0
    have MK := makeB (256 + yn) (by omega) w3
    have CB := made_text w3 (256 + yn)
    have e : (((256 + yn : Nat)) : Int) = 256 + (yn : Int) := by omega
    rw [e] at MK
    clear e
    have gw3 : w.grownBy (w3.alloc (.cells (madeCells #[.int .u8 0] (256 + yn)) 5)) (some N) := gtrans (gtrans g2 g3) (galloc _ _ _)
    have D3 := h.grown gw3 d3 (galloc _ _ none) (by simp) (by have := (gtrans g2 g3).size; omega)
    go_wp2
    go_ret
    exact ⟨⟨_, rfl, by show (List.replicate (256 + yn) (0 : UInt8)).toArray.size ≤ 257; rw [List.size_toArray, List.length_replicate]; omega⟩, gw3, D3⟩

theorem ns_of_own {w : World} {B : Nat} {v : Value} {ss : List ByteArray} (h : w.ownsRow B 9 1 v ss.length (tcells ss)) : Disk.NS B w v ss := by
  have h' := h
  obtain ⟨hl, ⟨rfl, hn⟩ | ⟨g, cap, cur, rfl, _⟩⟩ := h'
  · obtain rfl := List.length_eq_zero_iff.1 hn
    exact ⟨⟨_, _, rfl, .inl rfl⟩, ⟨_, _, rfl, fun i hi => by simp at hi⟩, fun b e => by simp [Disk.rowOf] at e⟩
  · exact Disk.ns_owns h
theorem made_ns (w : World) (B n : Nat) (hB : B ≤ w.heap.size) : Disk.NS B (w.alloc (.cells (madeCells #[.string ⟨#[]⟩] n) 9)) (.slice (some ⟨w.heap.size, 0, none⟩) n n) (List.replicate n ByteArray.empty) := by
  have R := World.rowIs_made w (.string ⟨#[]⟩) n 9
  have := Disk.ns_row (B := B) (cap := n) (ss := List.replicate n ByteArray.empty) (f := fun _ => .string ⟨#[]⟩) (World.rowIs.congr R (fun i hi => by
    rw [if_pos (by rw [List.length_replicate]; exact hi)]
    show Value.string ⟨#[]⟩ = .string ((List.replicate n ByteArray.empty).getD i ByteArray.empty)
    rw [List.getD_eq_getElem?_getD, List.getElem?_replicate, if_pos hi]
    rfl)) (by rw [List.length_replicate]; exact Nat.le_refl _) hB
  rw [List.length_replicate] at this
  exact this
theorem own_put {w : World} {B e n g cap k : Nat} {xs : List Value} (h : w.ownsRow B e 1 (.slice (some ⟨g, 0, none⟩) n cap) n xs) (u : Value) : (w.setCell ⟨g, k, none⟩ u).ownsRow B e 1 (.slice (some ⟨g, 0, none⟩) n cap) n (xs.set k u) := by
  obtain ⟨hl, ⟨e, _⟩ | ⟨g', cap', cur, e, hB, hh, h1, h2, h3, h4⟩⟩ := h
  · cases e
  · cases e
    refine ⟨by rw [List.length_set]; exact hl, .inr ⟨g, cap, cur.setIfInBounds k u, rfl, hB, ?_, h1, h2, by simpa using h3, ?_⟩⟩
    · simp [World.setCell, Array.getElem?_modify, hh]
    · rw [← h4, Array.toList_setIfInBounds, List.take_set]

theorem own_facts {w : World} {B e n g cap k : Nat} {xs : List Value} (h : w.ownsRow B e 1 (.slice (some ⟨g, 0, none⟩) n cap) n xs) (hk : k < n) : (∃ u, w.cell? ⟨g, k, none⟩ = some u) ∧ w.frozen? ⟨g, k, none⟩ = false := by
  obtain ⟨hl, ⟨e, _⟩ | ⟨g', cap', cur, e, hB, hh, h1, h2, h3, h4⟩⟩ := h
  · cases e
  · cases e
    have hkc : k < cur.size := by omega
    exact ⟨⟨cur[k], by simp [World.cell?, hh, hkc]⟩, by simp [World.frozen?, hh]⟩

set_option maxRecDepth 100000 in
set_option maxHeartbeats 3200000 in
theorem Dw.bodies {N : Nat} {cv : Value} {cs : List UInt8} {w : World} (h : Dw N cv cs w) (hN : N < w.heap.size) :
    Calls Tryz.prog 24 #[.pointer (some ⟨N, 0, none⟩)] w fun x w' => (∃ (v : Value) (bs : List ByteArray), x = .returned v ∧ Disk.NS w.heap.size w' v bs ∧ bs.length ≤ 31) ∧ w.grownBy w' (some N) ∧ Dw N cv cs w' := by
  have g0 : w.grownBy (w.alloc (.cells #[] 9)) (some N) := galloc _ _ _
  have own0 := own_none w w.heap.size 9 1 (Nat.le_refl _)
  have D0 : Dw N cv cs (w.alloc (.cells #[] 9)) := h.grown g0 h (galloc _ _ none) (by simp) hN
  have B0 := D0.below 5 (by omega) (by omega)
  go_enter Tryz.func24, Tryz.ntmps24
  go_wp2_with fail
  refine B0.mono ?_
  rintro x w1 ⟨⟨z, rfl, z0, z1⟩, g1, d1⟩
  clear B0
  have gw1 : w.grownBy w1 (some N) := gtrans g0 g1
  have own1 := own_off own0 g1 hN
  obtain ⟨zn, rfl⟩ := Int.eq_ofNat_of_zero_le z0
  go_wp2
  go_loopw [3, 4] (fun bv iv wr => ∃ (l : List ByteArray) (j : Nat) (v0 : Value), iv = .int .i64 j ∧ j + l.length ≤ 5 ∧ v0 = bv ∧ wr.ownsRow w.heap.size 9 1 v0 l.length (tcells l) ∧ Dw N cv cs wr ∧ w.grownBy wr (some N)) (fun _ iv _ => (intOf iv).toNat)
  case atStart => exact ⟨[], zn, _, rfl, by simp; omega, rfl, own1, d1, gw1⟩
  case round =>
    obtain ⟨l, j, bv, rfl, hj, rfl, hown, hd, hg⟩ := hrel
    have szr := hg.size
    by_cases hlt : 0 < j
    · have hlt' : decide ((0 : Int) < (j : Int)) = true := by simp; omega
      have G2 : w.grownBy (wr.alloc (.cells #[.string ⟨#[]⟩, .string ⟨#[111, 110, 101]⟩, .string ⟨#[116, 119, 111]⟩, .string ⟨#[116, 104, 114, 101, 101]⟩, .string ⟨#[120]⟩] 9)) (some N) := gtrans hg (galloc _ _ _)
      have D2 := h.grown G2 hd (galloc _ _ none) (by simp) (by omega)
      have own2 := own_off (N := N) hown (galloc wr (.cells #[.string ⟨#[]⟩, .string ⟨#[111, 110, 101]⟩, .string ⟨#[116, 119, 111]⟩, .string ⟨#[116, 104, 114, 101, 101]⟩, .string ⟨#[120]⟩] 9) _) hN
      have BY := D2.below 5 (by omega) (by omega)
      go_wp2_with fail
      refine BY.mono ?_
      rintro x w3 ⟨⟨y, rfl, y0, y1⟩, g3, d3⟩
      clear BY
      obtain ⟨yn, rfl⟩ := Int.eq_ofNat_of_zero_le y0
      obtain ⟨s, hs, hcs⟩ := five_str _ _ _ _ _ yn (by omega)
      have hcz := comp_cell g3 (by omega) hcs
      have hz : decide ((yn : Int) < 5) = true := by simp; omega
      clear hs hcs
      have gw3 := gtrans G2 g3
      have sz3 := gw3.size
      have own3 := own_off own2 g3 hN
      have own4 := own_off (N := N) own3 (galloc w3 (.cells #[.string s] 9) _) hN
      have gw4 : w.grownBy (w3.alloc (.cells #[.string s] 9)) (some N) := gtrans gw3 (galloc _ _ _)
      have d4 : Dw N cv cs (w3.alloc (.cells #[.string s] 9)) := h.grown gw4 d3 (galloc _ _ none) (by simp) (by omega)
      have hc : ∀ W : World, (W.alloc (.cells #[.string s] 9)).cell? ⟨W.heap.size, 0, none⟩ = some (.string s) := fun W => by simp
      have HB : Hid (tcells (l ++ [s]) = tcells l ++ [.string s]) := (by simp [tcells] : tcells (l ++ [s]) = tcells l ++ [.string s])
      have HL : Hid ((l ++ [s]).length = l.length + 1) := (by simp : (l ++ [s]).length = l.length + 1)
      clear hown own2 own3
      go_wp2_with (at_builtin; refine app_text _ rfl _ _ rfl w.heap.size _ l.length _ rfl own4 _ 1 s rfl (hc _) (by omega) (by simp; omega) ?_; intro v5 w5 own5 g5; have gw5 := gmix gw4 g5 (own_row own4); have d5 := h.grown gw5 d4 g5 (fun e => by have := own_row own4 N e.symm; omega) (by simp; omega))
      have sz5 := gw5.size
      have ON := d5.once 6 (by omega) (by omega)
      refine ON.mono ?_
      rintro x w6 ⟨⟨b, rfl⟩, g6, d6⟩
      clear ON
      have gw6 := gtrans gw5 g6
      have sz6 := gw6.size
      have own6 := own_off own5 g6 hN
      cases b
      · clear own5 own4
        go_wp2
        exact ⟨⟨l ++ [s], j - 1, _, by go_num, by rw [HL.out]; omega, rfl, by rw [HB.out, HL.out]; exact own6, d6, gw6⟩, by simp [intOf]; omega⟩
      · obtain ⟨gb, cp, rfl⟩ : ∃ g cp, v5 = .slice (some ⟨g, 0, none⟩) (l.length + 1) cp := by
          obtain ⟨_, ⟨_, hn⟩ | ⟨g, cap, cur, rfl, _⟩⟩ := own5
          · omega
          · exact ⟨g, cap, rfl⟩
        have BD := d6.body (by omega)
        clear own5 own4
        go_wp2_with fail
        refine BD.mono ?_
        rintro x w7 ⟨⟨t, rfl, ht⟩, g7, d7⟩
        clear BD
        have gw7 := gtrans gw6 g7
        have own7 := own_off own6 g7 hN
        obtain ⟨⟨u, hu⟩, hf⟩ := own_facts own7 (k := l.length) (by omega)
        have own8 := own_put (k := l.length) own7 (.string t)
        have hgb : w.heap.size ≤ gb := own_row own7 gb rfl
        have gw8 : w.grownBy (w7.setCell ⟨gb, l.length, none⟩ (.string t)) (some N) := gmix gw7 (gset1 w7 gb l.length (.string t)) (fun k e => by have := Option.some.inj e; omega)
        have d8 : Dw N cv cs (w7.setCell ⟨gb, l.length, none⟩ (.string t)) := h.grown gw8 d7 (gset1 w7 gb l.length (.string t)) (fun e => by have := Option.some.inj e; omega) (by have := gw7.size; omega)
        have HT : Hid ((tcells l ++ [Value.string s]).set l.length (Value.string t) = tcells (l ++ [t])) := (by rw [List.set_append_right _ _ (by rw [tcells_length]; exact Nat.le_refl _), tcells_length]; simp [tcells] : (tcells l ++ [Value.string s]).set l.length (Value.string t) = tcells (l ++ [t]))
        have HL2 : Hid ((l ++ [t]).length = l.length + 1) := (by simp : (l ++ [t]).length = l.length + 1)
        rw [HT.out] at own8
        have hp0 : (0 : Int) ≤ (l.length : Int) := by omega
        have hp1 : decide ((l.length : Int) < (l.length : Int) + 1) = true := by simp; omega
        have hp2 : (l.length : Int) + 1 - 1 = (l.length : Int) := by omega
        clear own6 own7
        go_wp2
        exact ⟨⟨l ++ [t], j - 1, _, by go_num, by rw [HL2.out]; omega, rfl, by rw [HL2.out]; exact own8, d8, gw8⟩, by simp [intOf]; omega⟩
    · have hlt' : decide ((0 : Int) < (j : Int)) = false := by simp; omega
      have ON := hd.once 40 (by omega) (by omega)
      go_wp2_with fail
      refine ON.mono ?_
      rintro x w2 ⟨⟨b, rfl⟩, g2, d2⟩
      clear ON
      have gw2 : w.grownBy w2 (some N) := gtrans hg g2
      have sz2 := gw2.size
      cases b
      · have own2 := own_off hown g2 hN
        have NS2 := ns_of_own own2
        clear own2 hown
        go_wp2
        go_ret
        exact ⟨⟨_, l, rfl, NS2, by omega⟩, gw2, d2⟩
      · clear hown
        have BL := d2.below 2 (by omega) (by omega)
        go_wp2_with fail
        refine BL.mono ?_
        rintro x w3 ⟨⟨y, rfl, y0, y1⟩, g3, d3⟩
        clear BL
        obtain ⟨yn, rfl⟩ := Int.eq_ofNat_of_zero_le y0
        have MK := Disk.make22 (30 + yn) (by omega) w3
        have e : (((30 + yn : Nat)) : Int) = 30 + (yn : Int) := by omega
        rw [e] at MK
        clear e
        have gw3 : w.grownBy (w3.alloc (.cells (madeCells #[.string ⟨#[]⟩] (30 + yn)) 9)) (some N) := gtrans (gtrans gw2 g3) (galloc _ _ _)
        have D3 := h.grown gw3 d3 (galloc _ _ none) (by simp) (by have := (gtrans gw2 g3).size; omega)
        have NS3 := made_ns w3 w.heap.size (30 + yn) (by have := (gtrans gw2 g3).size; omega)
        go_wp2
        go_ret
        exact ⟨⟨_, _, rfl, NS3, by rw [List.length_replicate]; omega⟩, gw3, D3⟩

end Go.Proofs.YtjclpbaiiklhcaaGreatDoor
