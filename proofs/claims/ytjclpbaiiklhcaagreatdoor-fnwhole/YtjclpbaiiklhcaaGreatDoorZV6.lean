import Derived.Test.YtjclpbaiiklhcaaGreatDoorZV3
import Derived.Test.YtjclpbaiiklhcaaGreatDoorZV2
import Derived.Test.YtjclpbaiiklhcaaGreatDoorZDBase
import Derived.Test.YtjclpbaiiklhcaaGreatDoorZV5
/- Texts and bodies drawn. -/
namespace Go.Proofs.YtjclpbaiiklhcaaGreatDoor
open Go.RowKit

theorem comp_cell {w w' : World} {N z : Nat} {C : Array Value} {t : Nat} (g : (w.alloc (.cells C t)).grownBy w' (some N)) (hN : N < w.heap.size) {u : Value} (hu : C[z]? = some u) : w'.cell? ⟨w.heap.size, z, none⟩ = some u :=
  g.cell (Disk.cell_new w C t _ rfl z u hu) (fun e => by have e2 : w.heap.size = N := Option.some.inj e; omega)
theorem Dw.later {N : Nat} {cv : Value} {cs : List UInt8} {w w' : World} (h : Dw N cv cs w) (hb : Below w.heap.size w w') (hN : N < w.heap.size) : Dw N cv cs w' := by
  have g : w.grownBy w' none := ⟨hb.os, hb.tape, hb.output, hb.size, fun k hk _ => hb.block k hk⟩
  have g' : w.grownBy w' (some N) := ⟨hb.os, hb.tape, hb.output, hb.size, fun k hk _ => hb.block k hk⟩
  exact h.grown g' h g (by simp) hN

theorem five_str (x0 x1 x2 x3 x4 : ByteArray) (z : Nat) (hz : z < 5) : ∃ s, s ∈ [x0, x1, x2, x3, x4] ∧ (#[.string x0, .string x1, .string x2, .string x3, .string x4] : Array Value)[z]? = some (.string s) := by
  match z, hz with
  | 0, _ => exact ⟨x0, by simp, rfl⟩
  | 1, _ => exact ⟨x1, by simp, rfl⟩
  | 2, _ => exact ⟨x2, by simp, rfl⟩
  | 3, _ => exact ⟨x3, by simp, rfl⟩
  | 4, _ => exact ⟨x4, by simp, rfl⟩
theorem eight_str (x0 x1 x2 x3 x4 x5 x6 x7 : ByteArray) (z : Nat) (hz : z < 8) : ∃ s, s ∈ [x0, x1, x2, x3, x4, x5, x6, x7] ∧ (#[.string x0, .string x1, .string x2, .string x3, .string x4, .string x5, .string x6, .string x7] : Array Value)[z]? = some (.string s) := by
  match z, hz with
  | 0, _ => exact ⟨x0, by simp, rfl⟩
  | 1, _ => exact ⟨x1, by simp, rfl⟩
  | 2, _ => exact ⟨x2, by simp, rfl⟩
  | 3, _ => exact ⟨x3, by simp, rfl⟩
  | 4, _ => exact ⟨x4, by simp, rfl⟩
  | 5, _ => exact ⟨x5, by simp, rfl⟩
  | 6, _ => exact ⟨x6, by simp, rfl⟩
  | 7, _ => exact ⟨x7, by simp, rfl⟩
theorem small_of {s : ByteArray} {L : List ByteArray} {n : Nat} (h : s ∈ L) (hL : (L.all fun x => decide (x.size ≤ n)) = true) : s.size ≤ n := of_decide_eq_true (List.all_eq_true.1 hL s h)

set_option maxRecDepth 100000 in
set_option maxHeartbeats 3200000 in
theorem Dw.textI {N : Nat} {cv : Value} {cs : List UInt8} {w : World} (h : Dw N cv cs w) (hN : N < w.heap.size) :
    Calls Tryz.prog 71 #[.pointer (some ⟨N, 0, none⟩)] w fun x w' => (∃ s : ByteArray, x = .returned (.string s) ∧ s.size ≤ 257 ∧ Inv 0 s.data.toList) ∧ w.grownBy w' (some N) ∧ Dw N cv cs w' := by
  have ON := h.once 20 (by omega) (by omega)
  go_enter Tryz.func71, Tryz.ntmps71
  go_wp2_with fail
  refine ON.mono ?_
  rintro x w2 ⟨⟨b, rfl⟩, g2, d2⟩
  clear ON
  have sz2 := g2.size
  cases b
  · have G3 : w.grownBy (w2.alloc (.cells #[.string ⟨#[]⟩, .string ⟨#[97]⟩, .string ⟨#[111, 110, 101]⟩, .string ⟨#[115, 111, 109, 101, 32, 116, 101, 120, 116]⟩, .string ⟨#[10]⟩, .string ⟨#[83, 49, 59, 48, 59]⟩, .string ⟨#[80, 48, 59, 49, 59]⟩, .string ⟨#[97, 110, 111, 116, 104, 101, 114, 44, 32, 108, 111, 110, 103, 101, 114, 32, 116, 101, 120, 116]⟩] 9)) (some N) := gtrans g2 (galloc _ _ _)
    have D3 := h.grown G3 d2 (galloc _ _ none) (by simp) (by omega)
    go_wp2_with fail
    refine (D3.below 8 (by omega) (by omega)).mono ?_
    rintro x w3 ⟨⟨z, rfl, z0, z1⟩, g3, d3⟩
    obtain ⟨zn, rfl⟩ := Int.eq_ofNat_of_zero_le z0
    obtain ⟨s, hs, hcs⟩ := eight_str _ _ _ _ _ _ _ _ zn (by omega)
    have hcz := comp_cell g3 (by omega) hcs
    have hz : decide ((zn : Int) < 8) = true := by simp; omega
    have hsz : s.size ≤ 257 := small_of hs (by decide)
    have hiv : Hid (Inv 0 s.data.toList) := inv_mem hs (by decide)
    have gw3 := gtrans G3 g3
    clear hs hcs
    go_wp2
    go_ret
    exact ⟨⟨s, rfl, hsz, hiv.out⟩, gw3, d3⟩
  · have BL := d2.below 2 (by omega) (by omega)
    go_wp2_with fail
    refine BL.mono ?_
    rintro x w3 ⟨⟨y, rfl, y0, y1⟩, g3, d3⟩
    clear BL
    obtain ⟨yn, rfl⟩ := Int.eq_ofNat_of_zero_le y0
    have MK := makeB (256 + yn) (by omega) w3
    have CB := made_text w3 (256 + yn)
    have e : (((256 + yn : Nat)) : Int) = 256 + (yn : Int) := by omega
    rw [e] at MK
    clear e
    have gw3 : w.grownBy (w3.alloc (.cells (madeCells #[.int .u8 0] (256 + yn)) 5)) (some N) := gtrans (gtrans g2 g3) (galloc _ _ _)
    have D3 := h.grown gw3 d3 (galloc _ _ none) (by simp) (by have := (gtrans g2 g3).size; omega)
    go_wp2
    go_ret
    exact ⟨⟨_, rfl, by show (List.replicate (256 + yn) (0 : UInt8)).toArray.size ≤ 257; rw [List.size_toArray, List.length_replicate]; omega, by simpa using inv_zeros yn⟩, gw3, D3⟩

theorem Dw.text {N : Nat} {cv : Value} {cs : List UInt8} {w : World} (h : Dw N cv cs w) (hN : N < w.heap.size) :
    Calls Tryz.prog 71 #[.pointer (some ⟨N, 0, none⟩)] w fun x w' => (∃ s : ByteArray, x = .returned (.string s) ∧ s.size ≤ 257) ∧ w.grownBy w' (some N) ∧ Dw N cv cs w' :=
  (h.textI hN).mono fun _ _ ⟨⟨s, e, a, _⟩, k⟩ => ⟨⟨s, e, a⟩, k⟩

theorem ns_of_own {w : World} {B : Nat} {v : Value} {ss : List ByteArray} (h : w.ownsRow B 9 1 v ss.length (tcells ss)) : Disk.NS B w v ss := by
  have h' := h
  obtain ⟨hl, ⟨rfl, hn⟩ | ⟨g, cap, cur, rfl, _⟩⟩ := h'
  · obtain rfl := List.length_eq_zero_iff.1 hn
    exact ⟨⟨_, _, rfl, .inl rfl⟩, ⟨_, _, rfl, fun i hi => by simp at hi⟩, fun b e => by simp [Disk.rowOf] at e⟩
  · exact Disk.ns_owns h
theorem made_ns (w : World) (B n : Nat) (hB : B ≤ w.heap.size) : Disk.NS B (w.alloc (.cells (madeCells #[.string ⟨#[]⟩] n) 9)) (.slice (some ⟨w.heap.size, 0, none⟩) n n) (List.replicate n ByteArray.empty) := by
  have R := World.rowIs_made w (.string ⟨#[]⟩) n 9
  have := Disk.ns_row (B := B) (cap := n) (ss := List.replicate n ByteArray.empty) (f := fun _ => .string ⟨#[]⟩) (World.rowIs.congr R (fun i hi => by
    rw [if_pos (by rw [List.length_replicate]; exact hi)]
    show Value.string ⟨#[]⟩ = .string ((List.replicate n ByteArray.empty).getD i ByteArray.empty)
    rw [List.getD_eq_getElem?_getD, List.getElem?_replicate, if_pos hi]
    rfl)) (by rw [List.length_replicate]; exact Nat.le_refl _) hB
  rw [List.length_replicate] at this
  exact this
theorem own_put {w : World} {B e n g cap k : Nat} {xs : List Value} (h : w.ownsRow B e 1 (.slice (some ⟨g, 0, none⟩) n cap) n xs) (u : Value) : (w.setCell ⟨g, k, none⟩ u).ownsRow B e 1 (.slice (some ⟨g, 0, none⟩) n cap) n (xs.set k u) := by
  obtain ⟨hl, ⟨e, _⟩ | ⟨g', cap', cur, e, hB, hh, h1, h2, h3, h4⟩⟩ := h
  · cases e
  · cases e
    refine ⟨by rw [List.length_set]; exact hl, .inr ⟨g, cap, cur.setIfInBounds k u, rfl, hB, ?_, h1, h2, by simpa using h3, ?_⟩⟩
    · simp [World.setCell, Array.getElem?_modify, hh]
    · rw [← h4, Array.toList_setIfInBounds, List.take_set]

theorem own_facts {w : World} {B e n g cap k : Nat} {xs : List Value} (h : w.ownsRow B e 1 (.slice (some ⟨g, 0, none⟩) n cap) n xs) (hk : k < n) : (∃ u, w.cell? ⟨g, k, none⟩ = some u) ∧ w.frozen? ⟨g, k, none⟩ = false := by
  obtain ⟨hl, ⟨e, _⟩ | ⟨g', cap', cur, e, hB, hh, h1, h2, h3, h4⟩⟩ := h
  · cases e
  · cases e
    have hkc : k < cur.size := by omega
    exact ⟨⟨cur[k], by simp [World.cell?, hh, hkc]⟩, by simp [World.frozen?, hh]⟩

set_option maxRecDepth 100000 in
set_option maxHeartbeats 3200000 in
theorem Dw.bodies {N : Nat} {cv : Value} {cs : List UInt8} {w : World} (h : Dw N cv cs w) (hN : N < w.heap.size) :
    Calls Tryz.prog 24 #[.pointer (some ⟨N, 0, none⟩)] w fun x w' => (∃ (v : Value) (bs : List ByteArray), x = .returned v ∧ Disk.NS w.heap.size w' v bs ∧ bs.length ≤ 31) ∧ w.grownBy w' (some N) ∧ Dw N cv cs w' := by
  have g0 : w.grownBy (w.alloc (.cells #[] 9)) (some N) := galloc _ _ _
  have own0 := own_none w w.heap.size 9 1 (Nat.le_refl _)
  have D0 : Dw N cv cs (w.alloc (.cells #[] 9)) := h.grown g0 h (galloc _ _ none) (by simp) hN
  have B0 := D0.below 5 (by omega) (by omega)
  go_enter Tryz.func24, Tryz.ntmps24
  go_wp2_with fail
  refine B0.mono ?_
  rintro x w1 ⟨⟨z, rfl, z0, z1⟩, g1, d1⟩
  clear B0
  have gw1 : w.grownBy w1 (some N) := gtrans g0 g1
  have own1 := own_off own0 g1 hN
  obtain ⟨zn, rfl⟩ := Int.eq_ofNat_of_zero_le z0
  go_wp2
  go_loopw [3, 4] (fun bv iv wr => ∃ (l : List ByteArray) (j : Nat) (v0 : Value), iv = .int .i64 j ∧ j + l.length ≤ 5 ∧ v0 = bv ∧ wr.ownsRow w.heap.size 9 1 v0 l.length (tcells l) ∧ Dw N cv cs wr ∧ w.grownBy wr (some N)) (fun _ iv _ => (intOf iv).toNat)
  case atStart => exact ⟨[], zn, _, rfl, by simp; omega, rfl, own1, d1, gw1⟩
  case round =>
    obtain ⟨l, j, bv, rfl, hj, rfl, hown, hd, hg⟩ := hrel
    have szr := hg.size
    by_cases hlt : 0 < j
    · have hlt' : decide ((0 : Int) < (j : Int)) = true := by simp; omega
      have G2 : w.grownBy (wr.alloc (.cells #[.string ⟨#[]⟩, .string ⟨#[111, 110, 101]⟩, .string ⟨#[116, 119, 111]⟩, .string ⟨#[116, 104, 114, 101, 101]⟩, .string ⟨#[120]⟩] 9)) (some N) := gtrans hg (galloc _ _ _)
      have D2 := h.grown G2 hd (galloc _ _ none) (by simp) (by omega)
      have own2 := own_off (N := N) hown (galloc wr (.cells #[.string ⟨#[]⟩, .string ⟨#[111, 110, 101]⟩, .string ⟨#[116, 119, 111]⟩, .string ⟨#[116, 104, 114, 101, 101]⟩, .string ⟨#[120]⟩] 9) _) hN
      have BY := D2.below 5 (by omega) (by omega)
      go_wp2_with fail
      refine BY.mono ?_
      rintro x w3 ⟨⟨y, rfl, y0, y1⟩, g3, d3⟩
      clear BY
      obtain ⟨yn, rfl⟩ := Int.eq_ofNat_of_zero_le y0
      obtain ⟨s, hs, hcs⟩ := five_str _ _ _ _ _ yn (by omega)
      have hcz := comp_cell g3 (by omega) hcs
      have hz : decide ((yn : Int) < 5) = true := by simp; omega
      clear hs hcs
      have gw3 := gtrans G2 g3
      have sz3 := gw3.size
      have own3 := own_off own2 g3 hN
      have own4 := own_off (N := N) own3 (galloc w3 (.cells #[.string s] 9) _) hN
      have gw4 : w.grownBy (w3.alloc (.cells #[.string s] 9)) (some N) := gtrans gw3 (galloc _ _ _)
      have d4 : Dw N cv cs (w3.alloc (.cells #[.string s] 9)) := h.grown gw4 d3 (galloc _ _ none) (by simp) (by omega)
      have hc : ∀ W : World, (W.alloc (.cells #[.string s] 9)).cell? ⟨W.heap.size, 0, none⟩ = some (.string s) := fun W => by simp
      have HB : Hid (tcells (l ++ [s]) = tcells l ++ [.string s]) := (by simp [tcells] : tcells (l ++ [s]) = tcells l ++ [.string s])
      have HL : Hid ((l ++ [s]).length = l.length + 1) := (by simp : (l ++ [s]).length = l.length + 1)
      clear hown own2 own3
      go_wp2_with (at_builtin; refine app_text _ rfl _ _ rfl w.heap.size _ l.length _ rfl own4 _ 1 s rfl (hc _) (by omega) (by simp; omega) ?_; intro v5 w5 own5 g5; have gw5 := gmix gw4 g5 (own_row own4); have d5 := h.grown gw5 d4 g5 (fun e => by have := own_row own4 N e.symm; omega) (by simp; omega))
      have sz5 := gw5.size
      have ON := d5.once 6 (by omega) (by omega)
      refine ON.mono ?_
      rintro x w6 ⟨⟨b, rfl⟩, g6, d6⟩
      clear ON
      have gw6 := gtrans gw5 g6
      have sz6 := gw6.size
      have own6 := own_off own5 g6 hN
      cases b
      · clear own5 own4
        go_wp2
        exact ⟨⟨l ++ [s], j - 1, _, by go_num, by rw [HL.out]; omega, rfl, by rw [HB.out, HL.out]; exact own6, d6, gw6⟩, by simp [intOf]; omega⟩
      · obtain ⟨gb, cp, rfl⟩ : ∃ g cp, v5 = .slice (some ⟨g, 0, none⟩) (l.length + 1) cp := by
          obtain ⟨_, ⟨_, hn⟩ | ⟨g, cap, cur, rfl, _⟩⟩ := own5
          · omega
          · exact ⟨g, cap, rfl⟩
        have BD := d6.body (by omega)
        clear own5 own4
        go_wp2_with fail
        refine BD.mono ?_
        rintro x w7 ⟨⟨t, rfl, ht⟩, g7, d7⟩
        clear BD
        have gw7 := gtrans gw6 g7
        have own7 := own_off own6 g7 hN
        obtain ⟨⟨u, hu⟩, hf⟩ := own_facts own7 (k := l.length) (by omega)
        have own8 := own_put (k := l.length) own7 (.string t)
        have hgb : w.heap.size ≤ gb := own_row own7 gb rfl
        have gw8 : w.grownBy (w7.setCell ⟨gb, l.length, none⟩ (.string t)) (some N) := gmix gw7 (gset1 w7 gb l.length (.string t)) (fun k e => by have := Option.some.inj e; omega)
        have d8 : Dw N cv cs (w7.setCell ⟨gb, l.length, none⟩ (.string t)) := h.grown gw8 d7 (gset1 w7 gb l.length (.string t)) (fun e => by have := Option.some.inj e; omega) (by have := gw7.size; omega)
        have HT : Hid ((tcells l ++ [Value.string s]).set l.length (Value.string t) = tcells (l ++ [t])) := (by rw [List.set_append_right _ _ (by rw [tcells_length]; exact Nat.le_refl _), tcells_length]; simp [tcells] : (tcells l ++ [Value.string s]).set l.length (Value.string t) = tcells (l ++ [t]))
        have HL2 : Hid ((l ++ [t]).length = l.length + 1) := (by simp : (l ++ [t]).length = l.length + 1)
        rw [HT.out] at own8
        have hp0 : (0 : Int) ≤ (l.length : Int) := by omega
        have hp1 : decide ((l.length : Int) < (l.length : Int) + 1) = true := by simp; omega
        have hp2 : (l.length : Int) + 1 - 1 = (l.length : Int) := by omega
        clear own6 own7
        go_wp2
        exact ⟨⟨l ++ [t], j - 1, _, by go_num, by rw [HL2.out]; omega, rfl, by rw [HL2.out]; exact own8, d8, gw8⟩, by simp [intOf]; omega⟩
    · have hlt' : decide ((0 : Int) < (j : Int)) = false := by simp; omega
      have ON := hd.once 40 (by omega) (by omega)
      go_wp2_with fail
      refine ON.mono ?_
      rintro x w2 ⟨⟨b, rfl⟩, g2, d2⟩
      clear ON
      have gw2 : w.grownBy w2 (some N) := gtrans hg g2
      have sz2 := gw2.size
      cases b
      · have own2 := own_off hown g2 hN
        have NS2 := ns_of_own own2
        clear own2 hown
        go_wp2
        go_ret
        exact ⟨⟨_, l, rfl, NS2, by omega⟩, gw2, d2⟩
      · clear hown
        have BL := d2.below 2 (by omega) (by omega)
        go_wp2_with fail
        refine BL.mono ?_
        rintro x w3 ⟨⟨y, rfl, y0, y1⟩, g3, d3⟩
        clear BL
        obtain ⟨yn, rfl⟩ := Int.eq_ofNat_of_zero_le y0
        have MK := Disk.make22 (30 + yn) (by omega) w3
        have e : (((30 + yn : Nat)) : Int) = 30 + (yn : Int) := by omega
        rw [e] at MK
        clear e
        have gw3 : w.grownBy (w3.alloc (.cells (madeCells #[.string ⟨#[]⟩] (30 + yn)) 9)) (some N) := gtrans (gtrans gw2 g3) (galloc _ _ _)
        have D3 := h.grown gw3 d3 (galloc _ _ none) (by simp) (by have := (gtrans gw2 g3).size; omega)
        have NS3 := made_ns w3 w.heap.size (30 + yn) (by have := (gtrans gw2 g3).size; omega)
        go_wp2
        go_ret
        exact ⟨⟨_, _, rfl, NS3, by rw [List.length_replicate]; omega⟩, gw3, D3⟩

end Go.Proofs.YtjclpbaiiklhcaaGreatDoor

/- A superblock's text, in plain words. -/
namespace Go.Proofs.YtjclpbaiiklhcaaGreatDoor
open Go.RowKit

def supHead (e : Int) (n : Nat) : ByteArray := ⟨#[83]⟩ ++ itoaB e ++ semi ++ itoaB n ++ semi
def supL (acc : ByteArray) (l : List Int) : ByteArray := l.foldl (fun a x => a ++ itoaB x ++ semi) acc
/-- Number i is a page's sector and none of those ahead of it. -/
def goodAt (l : List Int) (i : Nat) : Bool := decide (2 ≤ l.getD i 0 ∧ l.getD i 0 ≤ 63) && !(l.take i).contains (l.getD i 0)
def rowOk (l : List Int) (k : Nat) : Bool := (List.range k).all (goodAt l)
def supOk (e : Int) (l : List Int) : Bool := decide (1 ≤ e ∧ e ≤ 999999999) && decide (l.length ≤ 30) && rowOk l l.length
def supS (e : Int) (l : List Int) : ByteArray := supL (supHead e l.length) l
def supT (e : Int) (l : List Int) : ByteArray := if supOk e l = true then supS e l ++ itoaB (crcS (supS e l)) else ⟨#[]⟩

theorem rowOk_succ (l : List Int) (k : Nat) : rowOk l (k + 1) = (rowOk l k && goodAt l k) := by
  unfold rowOk
  rw [List.range_succ, List.all_append]
  simp
theorem rowOk_mem {l : List Int} {k : Nat} (h : rowOk l k = true) (i : Nat) (hi : i < k) : goodAt l i = true := by
  unfold rowOk at h
  exact List.all_eq_true.1 h i (List.mem_range.2 hi)
theorem rowOk_false {l : List Int} {i n : Nat} (h : goodAt l i = false) (hi : i < n) : rowOk l n = false := by
  rw [Bool.eq_false_iff]
  intro hc
  rw [rowOk_mem hc i hi] at h
  exact absurd h (by simp)
theorem goodAt_range {l : List Int} {i : Nat} (h : goodAt l i = true) : 2 ≤ l.getD i 0 ∧ l.getD i 0 ≤ 63 := by
  unfold goodAt at h
  rw [Bool.and_eq_true] at h
  exact of_decide_eq_true h.1
theorem supOk_row {e : Int} {l : List Int} (h : rowOk l l.length = false) : supOk e l = false := by unfold supOk; rw [h]; simp
theorem supT_no {e : Int} {l : List Int} (h : supOk e l = false) : supT e l = ⟨#[]⟩ := by unfold supT; rw [if_neg (by rw [h]; simp)]
theorem supT_yes {e : Int} {l : List Int} (h : supOk e l = true) : supT e l = supS e l ++ itoaB (crcS (supS e l)) := by unfold supT; rw [if_pos h]
theorem supOk_yes {e : Int} {l : List Int} (h0 : 1 ≤ e) (h1 : e ≤ 999999999) (hl : l.length ≤ 30) (h : rowOk l l.length = true) : supOk e l = true := by
  unfold supOk
  rw [h, decide_eq_true ⟨h0, h1⟩, decide_eq_true hl]
  rfl
theorem supOk_e {e : Int} {l : List Int} (h : ¬ (1 ≤ e ∧ e ≤ 999999999)) : supOk e l = false := by unfold supOk; rw [decide_eq_false h]; simp
theorem supOk_l {e : Int} {l : List Int} (h : ¬ l.length ≤ 30) : supOk e l = false := by unfold supOk; rw [decide_eq_false h]; simp

theorem supL_succ (acc : ByteArray) (l : List Int) (k : Nat) (h : k < l.length) : supL acc (l.take (k + 1)) = supL acc (l.take k) ++ itoaB (l.getD k 0) ++ semi := by
  unfold supL
  rw [List.take_succ_eq_append_getElem h, List.foldl_append]
  simp [h]
theorem supHead_size {e : Int} {n : Nat} (h0 : 1 ≤ e) (h1 : e ≤ 999999999) (hn : n ≤ 1000000) : (supHead e n).size ≤ 43 := by
  have a := itoaB_size (n := e) (by omega) (by omega)
  have b := itoaB_size (n := n) (by omega) (by omega)
  have c : semi.size = 1 := rfl
  have d : (⟨#[83]⟩ : ByteArray).size = 1 := rfl
  unfold supHead
  rw [ByteArray.size_append, ByteArray.size_append, ByteArray.size_append, ByteArray.size_append]
  omega
theorem supL_size {acc : ByteArray} {l : List Int} : ∀ k, k ≤ l.length → rowOk l k = true → (supL acc (l.take k)).size ≤ acc.size + 21 * k
  | 0, _, _ => by simp [supL]
  | k + 1, hk, h => by
    rw [rowOk_succ, Bool.and_eq_true] at h
    have ih := supL_size (acc := acc) (l := l) k (by omega) h.1
    obtain ⟨r1, r2⟩ := goodAt_range h.2
    have a := itoaB_size (n := l.getD k 0) (by omega) (by omega)
    have c : semi.size = 1 := rfl
    rw [supL_succ acc l k (by omega), ByteArray.size_append, ByteArray.size_append]
    omega
theorem goodAt_no {l : List Int} {i : Nat} (h : ¬ (2 ≤ l.getD i 0 ∧ l.getD i 0 ≤ 63)) : goodAt l i = false := by unfold goodAt; rw [decide_eq_false h]; simp
theorem goodAt_twice {l : List Int} {i : Nat} (h : (l.take i).contains (l.getD i 0) = true) : goodAt l i = false := by unfold goodAt; rw [h]; simp
theorem goodAt_yes {l : List Int} {i : Nat} (h : 2 ≤ l.getD i 0 ∧ l.getD i 0 ≤ 63) (hc : (l.take i).contains (l.getD i 0) = false) : goodAt l i = true := by unfold goodAt; rw [hc, decide_eq_true h]; rfl
theorem take_get {l : List Int} {i j : Nat} (h : j < i) : (l.take i).getD j 0 = l.getD j 0 := by simp [List.getD_eq_getElem?_getD, h]

end Go.Proofs.YtjclpbaiiklhcaaGreatDoor
