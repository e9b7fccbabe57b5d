import Derived.Test.YtjclpbaiiklhcaaGreatDoorZV1
import Derived.Deep.OwnRows
import Derived.Laws.IdiomStrings
import Derived.Test.YtjclpbaiiklhcaaGreatDoorZV2
/- textPart, copyText, copyTexts of the program. -/
namespace Go.Proofs.YtjclpbaiiklhcaaGreatDoor
open Go.RowKit

theorem add_eq' (b o i : Nat) : (⟨b, o, none⟩ : Addr).add i = ⟨b, o + i, none⟩ := Addr.add_lit _ _ _

theorem cell_later' {w w' : World} {a : Addr} {v : Value} (hb : Below w.heap.size w w') (h : w.cell? a = some v) : w'.cell? a = some v := by
  have hlt : a.block < w.heap.size := by
    rcases Nat.lt_or_ge a.block w.heap.size with h' | h'
    · exact h'
    · simp [World.cell?, Array.getElem?_eq_none h'] at h
  rw [hb.cell hlt]
  exact h

theorem conv_bytes (w : World) (s : ByteArray) : (convert 9 22 (.string s)).run Tryz.prog w = .ok (.slice (some ⟨w.heap.size, 0, none⟩) s.size (grownCap w s.size 0 5))
      (w.drew.alloc (.cells (bytesRow s (grownCap w s.size 0 5)) 5 ((bytesRow s (grownCap w s.size 0 5)).size, (bytesRow s (grownCap w s.size 0 5)).size + 1))) :=
  run_bytes_of_string w 9 22 5 s (by kernel_rfl) (by kernel_rfl) (by kernel_rfl)

/-- The bytes l lie from a on. -/
def BytesAt (w : World) (a : Addr) (l : List UInt8) : Prop := ∀ j (hj : j < l.length), w.cell? (a.add j) = some (.int .u8 (l[j].toNat : Int))
theorem BytesAt.later {w w' : World} {a : Addr} {l : List UInt8} (h : BytesAt w a l) (hb : Below w.heap.size w w') : BytesAt w' a l := fun j hj => cell_later' hb (h j hj)

def part (s : ByteArray) (f t : Nat) : List UInt8 := (s.data.toList.take t).drop f
theorem part_length (s : ByteArray) (f t : Nat) (h : t ≤ s.size) : (part s f t).length = t - f := by
  have : s.data.size = s.size := rfl
  simp [part]
  omega

theorem row_bytes (w : World) (s : ByteArray) (C f t : Nat) (fr : Nat × Nat) (h : t ≤ s.size) : BytesAt ((w.alloc (.cells (bytesRow s C) 5 fr)).drew) ⟨w.heap.size, f, none⟩ (part s f t) := by
  intro j hj
  have hsz : s.data.size = s.size := rfl
  rw [part_length s f t h] at hj
  rw [add_eq']
  show (w.alloc (.cells (bytesRow s C) 5 fr)).cell? _ = _
  rw [World.cell?_alloc_mark, bytesRow_at s C (f + j) (by omega)]
  simp [part]

set_option maxHeartbeats 400000 in
theorem textPart_any (s : ByteArray) (f t : Nat) (w : World) (_hs : s.size ≤ 1000000000000000) (h1 : f ≤ t) (h2 : t ≤ s.size) :
    Calls Tryz.prog 83 #[.string s, .int .i64 f, .int .i64 t] w fun e w' => ∃ a n, e = .returned (.slice (some a) n n) ∧ n = (part s f t).length ∧ BytesAt w' a (part s f t) ∧ Below w.heap.size w w' := by
  have hcv := conv_bytes
  have hcap : s.size ≤ grownCap w s.size 0 5 := grownCap_ge _ _ _ _
  generalize hC : grownCap w s.size 0 5 = C at *
  have hl := part_length s f t h2
  have HL : Hid ((part s f t).length = t - f) := hl
  have R := row_bytes w s C f t ((bytesRow s C).size, (bytesRow s C).size + 1) h2
  have G := ((Below.refl _ w).alloc (Nat.le_refl _) (.cells (bytesRow s C) 5 ((bytesRow s C).size, (bytesRow s C).size + 1))).drew
  clear hl
  go_enter Tryz.func83, Tryz.ntmps83
  go_wp2
  · go_ret
    have hl0 := part_length s f f (by omega)
    refine ⟨⟨w.heap.size, 0, none⟩, 0, rfl, by omega, fun j hj => ?_, G⟩
    omega
  · go_ret
    exact ⟨⟨w.heap.size, f, none⟩, t - f, rfl, HL.out.symm, R, G⟩

theorem part_all (s : ByteArray) : part s 0 s.size = s.data.toList := by
  unfold part
  rw [List.drop_zero]
  exact List.take_of_length_le (by rw [Array.length_toList]; exact Nat.le_refl _)

theorem conv_back (w : World) (a : Addr) (cap : Nat) (l : List UInt8) (n : Nat) (hn : n = l.length) (h : BytesAt w a l) : (convert 22 9 (.slice (some a) n cap)).run Tryz.prog w = .ok (.string ⟨l.toArray⟩) w := by
  subst hn
  exact run_convert_bytes_back w 22 9 5 a cap l (by kernel_rfl) (by kernel_rfl) (by kernel_rfl) h

set_option maxHeartbeats 400000 in
theorem copyText_any (s : ByteArray) (w : World) (hs : s.size ≤ 1000000000000000) :
    Calls Tryz.prog 58 #[.string s] w fun e w' => e = .returned (.string s) ∧ Below w.heap.size w w' := by
  go_enter Tryz.func58, Tryz.ntmps58
  go_wp2_with (fail)
  refine (textPart_any s 0 s.size _ hs (by omega) (Nat.le_refl _)).mono ?_
  rintro e w1 ⟨a, n, rfl, hn, hB, hb⟩
  have hcv := conv_back w1 a n (part s 0 s.size) n hn hB
  rw [part_all] at hcv
  clear hn hB
  go_wp2
  go_ret
  exact ⟨rfl, hb⟩

end Go.Proofs.YtjclpbaiiklhcaaGreatDoor

/- The draw kit of the model: a code opened, a body and a page drawn. -/
namespace Go.Proofs.YtjclpbaiiklhcaaGreatDoor
open Go.RowKit

set_option maxRecDepth 100000 in
set_option maxHeartbeats 1600000 in
theorem Dw.once {N : Nat} {cv : Value} {cs : List UInt8} {w : World} (h : Dw N cv cs w) (n : Int) (h0 : 0 < n) (h1 : n ≤ 256) :
    Calls Tryz.prog 34 #[.pointer (some ⟨N, 0, none⟩), .int .i64 n] w fun x w' => (∃ b : Bool, x = .returned (.bool b)) ∧ w.grownBy w' (some N) ∧ Dw N cv cs w' := by
  have B := h.below n h0 h1
  go_enter Tryz.func34, Tryz.ntmps34
  go_wp2_with fail
  refine B.mono ?_
  rintro x w1 ⟨⟨z, rfl, z0, z1⟩, g1, d1⟩
  go_wp2
  go_ret
  exact ⟨⟨_, rfl⟩, g1, d1⟩

set_option maxRecDepth 100000 in
set_option maxHeartbeats 1600000 in
theorem l1New_any (cv : Value) (cs : List UInt8) (w : World) (hc : BR w cv cs) (hn : cs.length ≤ 4096) :
    Calls Tryz.prog 22 #[cv] w fun x w' => ∃ N, x = .returned (.pointer (some ⟨N, 0, none⟩)) ∧ w.heap.size ≤ N ∧ N < w'.heap.size ∧ Below w.heap.size w w' ∧ Dw N cv cs w' := by
  have hC := hc
  obtain ⟨ao, cap, rfl, hcap, hr⟩ := hc
  have lt : ∀ a n c, Value.slice ao cs.length cap = .slice (some a) n c → 0 < n → a.block < w.heap.size := by
    intro a n c e hp
    simp only [Value.slice.injEq] at e
    obtain ⟨rfl, rfl, _⟩ := e
    obtain ⟨b, o, e2, hc⟩ := hr 0 hp
    simp only [Option.some.injEq] at e2
    subst e2
    exact World.block_lt_of_cell? _ _ hc
  go_enter Tryz.func22, Tryz.ntmps22
  go_wp2
  go_loopw [3, 4] (fun hv iv wr => ∃ (k : Nat) (H : Int), k ≤ cs.length ∧ iv = .int .i64 k ∧ hv = .int .i64 H ∧ Below w.heap.size w wr) (fun _ iv _ => cs.length - (intOf iv).toNat)
  case atStart => exact ⟨0, _, Nat.zero_le _, rfl, rfl, Below.refl _ _⟩
  case round =>
    obtain ⟨k, H, hk, rfl, rfl, hb⟩ := hrel
    by_cases hlt : k < cs.length
    · obtain ⟨b, o, rfl, hx⟩ := hr k hlt
      have hx1 := cell_later hb hx
      clear hr hx lt hC
      go_wp2
      exact ⟨⟨k + 1, _, by omega, by go_num, rfl, hb⟩, by simp [intOf]; omega⟩
    · obtain rfl : k = cs.length := by omega
      go_wp2
      go_ret
      have hal := bel_after hb (bel_one wr (.cells #[.slice ao cs.length cap, .int .i64 0, .int .i64 H] 72))
      exact ⟨wr.heap.size, rfl, hb.size, by simp, hal, hC.later hal, hn, ⟨by simp, ⟨0, Nat.zero_le _, by simp⟩, ⟨H, by simp⟩, by simp, by simp⟩, fun a n c e hp he => by have := lt a n c e hp; have := hb.size; omega⟩

def ucells (l : List UInt8) : List Value := l.map fun x => .int .u8 (x.toNat : Int)
theorem Tryz.infoB : (Tryz.prog.info? 5).map (fun i => (i.zero, i.size, i.bytes)) = some (some (.int .u8 0), 1, 1) := by kernel_rfl
theorem Tryz.underB : Tryz.prog.underlying 22 = some (.slice 5) := by kernel_rfl
theorem app_byte {ops : Array Oper} {rest : List Oper} {o : Oper} {a : Act} {Q : Exit → Act → World → Prop} (w : World) (hgd : o.guard = none) (s x : Operand)
    (ho : o.op = .call { callee := .builtin .append, args := #[s, x], argTypes := #[22, 22] }) (B : Nat) (v : Value) (n : Nat) (xs : List Value) (hs : a.eval s = v) (hown : w.ownsRow B 5 1 v n xs)
    (g c : Nat) (z : Int) (hx : a.eval x = .slice (some ⟨g, 0, none⟩) 1 c) (hc : w.cell? ⟨g, 0, none⟩ = some (.int .u8 z)) (hn : n ≤ 1000000000000) (hB : B ≤ w.heap.size)
    (h : ∀ v' w', w'.ownsRow B 5 1 v' (n + 1) (xs ++ [.int .u8 z]) → w.grownBy w' v.ownBlock → wpList Tryz.prog ops Q rest (a.put o.dst v') w') : wpList Tryz.prog ops Q (o :: rest) a w := by
  obtain ⟨i, hi, hzz⟩ := Option.map_eq_some_iff.1 Tryz.infoB
  simp only [Prod.mk.injEq] at hzz
  obtain ⟨hz, hsz, hby⟩ := hzz
  refine wpList_append_own w hgd s x 22 ho B 5 i _ 1 1 Tryz.underB hi hz hsz hby rfl (by omega) v n xs hs hown ⟨g, 0, none⟩ 1 c [.int .u8 z] hx rfl (fun j u hj => ?_) (fun u hu => ?_) (by unfold maxLen; omega) (by omega) hB (fun v' w' h1 h2 _ => h v' w' h1 h2)
  · match j, hj with
    | 0, hj => simp at hj; subst hj; simpa [Addr.add] using hc
  · simp at hu; subst hu; rfl

theorem galloc (w : World) (o : Obj) (r : Option Nat) : w.grownBy (w.alloc o) r := ⟨rfl, rfl, rfl, by simp, fun k hk _ => (bel_one w o).block k hk⟩
theorem gmix {w a b : World} {N : Nat} {row : Option Nat} (h : w.grownBy a (some N)) (g : a.grownBy b row) (hr : ∀ k, row = some k → w.heap.size ≤ k) : w.grownBy b (some N) :=
  ⟨g.os.trans h.os, g.tape.trans h.tape, g.output.trans h.output, Nat.le_trans h.size g.size, fun k hk e => (g.block k (Nat.lt_of_lt_of_le hk h.size) (fun e2 => by have := hr k e2.symm; omega)).trans (h.block k hk e)⟩
theorem Dr.grown {N n : Nat} {cv : Value} {a b : World} {row : Option Nat} (h : Dr N cv n a) (g : a.grownBy b row) (hne : some N ≠ row) (hN : N < a.heap.size) : Dr N cv n b := by
  obtain ⟨c0, ⟨p, hp, c1⟩, ⟨q, c2⟩, f1, f2⟩ := h
  exact ⟨g.cell c0 hne, ⟨p, hp, g.cell c1 hne⟩, ⟨q, g.cell c2 hne⟩, (World.frozen?_of_block (w := a) (g.block N hN hne)).trans f1, (World.frozen?_of_block (w := a) (g.block N hN hne)).trans f2⟩
theorem Dw.grown {N : Nat} {cv : Value} {cs : List UInt8} {w a b : World} {row : Option Nat} (h0 : Dw N cv cs w) (hb : w.grownBy b (some N)) (h : Dw N cv cs a) (g : a.grownBy b row) (hne : some N ≠ row) (hN : N < a.heap.size) : Dw N cv cs b :=
  ⟨h0.br.grown hb h0.off, h0.len, h.dr.grown g hne hN, h0.off⟩
theorem own_off {w w' : World} {B e size n N : Nat} {v : Value} {xs : List Value} (h : w.ownsRow B e size v n xs) (hg : w.grownBy w' (some N)) (hN : N < B) : w'.ownsRow B e size v n xs := by
  obtain ⟨hl, h⟩ := h
  refine ⟨hl, ?_⟩
  rcases h with h | ⟨g, cap, cur, hv, hB, hh, h1, h2, h3, h4⟩
  · exact .inl h
  · refine .inr ⟨g, cap, cur, hv, hB, ?_, h1, h2, h3, h4⟩
    have hlt : g < w.heap.size := by
      rcases Nat.lt_or_ge g w.heap.size with h' | h'
      · exact h'
      · rw [Array.getElem?_eq_none h'] at hh; cases hh
    rw [hg.block g hlt (fun e => by have := Option.some.inj e; omega)]
    exact hh
theorem own_row {w : World} {B e size n : Nat} {v : Value} {xs : List Value} (h : w.ownsRow B e size v n xs) : ∀ k, v.ownBlock = some k → B ≤ k := by
  intro k hk
  obtain ⟨_, h⟩ := h
  rcases h with ⟨rfl, _⟩ | ⟨g, cap, cur, rfl, hg, _⟩
  · cases hk
  · cases hk; exact hg
theorem byte_of (z : Int) (h0 : 0 ≤ z) (h1 : z ≤ 255) : ((UInt8.ofNat z.toNat).toNat : Int) = z := by
  rw [UInt8.toNat_ofNat']
  omega
/-- A row of bytes of the call's own reads as its text. -/
theorem own_bytes {w : World} {B : Nat} {v : Value} {l : List UInt8} (h : w.ownsRow B 5 1 v l.length (ucells l)) : (convert 22 9 v).run Tryz.prog w = .ok (.string ⟨l.toArray⟩) w := by
  obtain ⟨hl, h⟩ := id h
  rcases h with ⟨rfl, h0⟩ | ⟨g, cap, cur, rfl, hB, hh, h1, h2, h3, h4⟩
  · have : l = [] := List.eq_nil_of_length_eq_zero h0
    subst this
    rw [run_convert_bytes_string _ 22 9 5 _ _ _ (by kernel_rfl) (by kernel_rfl) (by kernel_rfl)]
    rfl
  · refine conv_back w ⟨g, 0, none⟩ cap l _ rfl fun j hj => ?_
    have hc : w.cell? ⟨g, j, none⟩ = (ucells l)[j]? := by
      rw [← h4, List.getElem?_take_of_lt (by omega)]
      simp [World.cell?, hh]
    have e : (⟨g, 0, none⟩ : Addr).add j = ⟨g, j, none⟩ := by simp [Addr.add]; omega
    rw [e, hc]
    simp [ucells, hj]

theorem makeB (n : Nat) (hn : n ≤ 10000000000000) (w : World) : (Instr.makeSlice 22 (.int .i64 (n : Int)) (.int .i64 (n : Int))).run Tryz.prog w = .ok (.slice (some ⟨w.heap.size, 0, none⟩) n n) (w.alloc (.cells (madeCells #[.int .u8 0] n) 5)) :=
  run_make_row' (P := Tryz.prog) 22 5 (.int .u8 0) 1 Tryz.underB Tryz.infoB rfl .i64 .i64 n (by omega) (by omega) w
theorem made_text (w : World) (n : Nat) : (convert 22 9 (.slice (some ⟨w.heap.size, 0, none⟩) n n)).run Tryz.prog (w.alloc (.cells (madeCells #[.int .u8 0] n) 5)) = .ok (.string ⟨(List.replicate n (0 : UInt8)).toArray⟩) (w.alloc (.cells (madeCells #[.int .u8 0] n) 5)) := by
  refine conv_back _ ⟨w.heap.size, 0, none⟩ n (List.replicate n 0) n (by simp) fun j hj => ?_
  have hj' : j < n := by simpa using hj
  have e : (⟨w.heap.size, 0, none⟩ : Addr).add j = ⟨w.heap.size, j, none⟩ := by simp [Addr.add]; omega
  rw [e, (World.rowIs_made w (.int .u8 0) n 5).cell hj']
  simp

set_option maxRecDepth 100000 in
set_option maxHeartbeats 3200000 in
theorem Dw.body {N : Nat} {cv : Value} {cs : List UInt8} {w : World} (h : Dw N cv cs w) (hN : N < w.heap.size) :
    Calls Tryz.prog 50 #[.pointer (some ⟨N, 0, none⟩)] w fun x w' => (∃ s : ByteArray, x = .returned (.string s) ∧ s.size ≤ 201) ∧ w.grownBy w' (some N) ∧ Dw N cv cs w' := by
  have g0 : w.grownBy (w.alloc (.cells #[] 5)) (some N) := galloc _ _ _
  have own0 := own_none w w.heap.size 5 1 (Nat.le_refl _)
  have D0 : Dw N cv cs (w.alloc (.cells #[] 5)) := h.grown g0 h (galloc _ _ none) (by simp) hN
  have B0 := D0.below 12 (by omega) (by omega)
  go_enter Tryz.func50, Tryz.ntmps50
  go_wp2_with fail
  refine B0.mono ?_
  rintro x w1 ⟨⟨z, rfl, z0, z1⟩, g1, d1⟩
  clear B0
  have gw1 : w.grownBy w1 (some N) := gtrans g0 g1
  have own1 := own_off own0 g1 hN
  obtain ⟨zn, rfl⟩ := Int.eq_ofNat_of_zero_le z0
  go_wp2
  go_loopw [3, 4] (fun bv iv wr => ∃ (l : List UInt8) (j : Nat) (v0 : Value), iv = .int .i64 j ∧ j + l.length ≤ 12 ∧ v0 = bv ∧ wr.ownsRow w.heap.size 5 1 v0 l.length (ucells l) ∧ Dw N cv cs wr ∧ w.grownBy wr (some N)) (fun _ iv _ => (intOf iv).toNat)
  case atStart => exact ⟨[], zn, _, rfl, by simp; omega, rfl, own1, d1, gw1⟩
  case round =>
    obtain ⟨l, j, bv, rfl, hj, rfl, hown, hd, hg⟩ := hrel
    have szr := hg.size
    by_cases hlt : 0 < j
    · have hlt' : decide ((0 : Int) < (j : Int)) = true := by simp; omega
      have BY := hd.byte
      go_wp2_with fail
      refine BY.mono ?_
      rintro x w2 ⟨⟨y, rfl, y0, y1⟩, g2, d2⟩
      have own2 := own_off hown g2 hN
      have gw2 : w.grownBy w2 (some N) := gtrans hg g2
      obtain ⟨yn, rfl⟩ := Int.eq_ofNat_of_zero_le y0
      have sz2 := gw2.size
      have own3 := own_off (N := N) own2 (galloc w2 (.cells #[.int .u8 (yn : Int)] 5) _) hN
      have gw3 : w.grownBy (w2.alloc (.cells #[.int .u8 (yn : Int)] 5)) (some N) := gtrans gw2 (galloc _ _ _)
      have d3 : Dw N cv cs (w2.alloc (.cells #[.int .u8 (yn : Int)] 5)) := h.grown gw3 d2 (galloc _ _ none) (by simp) (by omega)
      have hc : ∀ W : World, (W.alloc (.cells #[.int .u8 (yn : Int)] 5)).cell? ⟨W.heap.size, 0, none⟩ = some (.int .u8 (yn : Int)) := fun W => by simp
      have HB : Hid (ucells (l ++ [UInt8.ofNat yn]) = ucells l ++ [.int .u8 (yn : Int)]) := (by
        have := byte_of (yn : Int) (by omega) y1
        rw [Int.toNat_natCast] at this
        simp only [ucells, List.map_append, List.map_cons, List.map_nil, this] : ucells (l ++ [UInt8.ofNat yn]) = ucells l ++ [.int .u8 (yn : Int)])
      have HL : Hid ((l ++ [UInt8.ofNat yn]).length = l.length + 1) := (by simp : (l ++ [UInt8.ofNat yn]).length = l.length + 1)
      clear BY
      go_wp2_with (at_builtin; refine app_byte _ rfl _ _ rfl w.heap.size _ l.length _ rfl own3 _ 1 (yn : Int) rfl (hc _) (by omega) (by simp; omega) ?_; intro v5 w5 own5 g5; have gw5 := gmix gw3 g5 (own_row own3); have d5 := h.grown gw5 d3 g5 (fun e => by have := own_row own3 N e.symm; omega) (by simp; omega))
      exact ⟨⟨l ++ [UInt8.ofNat yn], j - 1, _, by go_num, by rw [HL.out]; omega, rfl, by rw [HB.out, HL.out]; exact own5, d5, gw5⟩, by simp [intOf]; omega⟩
    · have hlt' : decide ((0 : Int) < (j : Int)) = false := by simp; omega
      have ON := hd.once 20 (by omega) (by omega)
      go_wp2_with fail
      refine ON.mono ?_
      rintro x w2 ⟨⟨b, rfl⟩, g2, d2⟩
      clear ON
      have gw2 : w.grownBy w2 (some N) := gtrans hg g2
      have sz2 := gw2.size
      cases b
      · have own2 := own_off hown g2 hN
        have CB := own_bytes own2
        clear own2 hown
        go_wp2
        go_ret
        exact ⟨⟨_, rfl, by show l.toArray.size ≤ 201; rw [List.size_toArray]; omega⟩, gw2, d2⟩
      · have BL := d2.below 2 (by omega) (by omega)
        go_wp2_with fail
        refine BL.mono ?_
        rintro x w3 ⟨⟨y, rfl, y0, y1⟩, g3, d3⟩
        clear BL
        obtain ⟨yn, rfl⟩ := Int.eq_ofNat_of_zero_le y0
        have MK := makeB (200 + yn) (by omega) w3
        have CB := made_text w3 (200 + yn)
        have e : (((200 + yn : Nat)) : Int) = 200 + (yn : Int) := by omega
        rw [e] at MK
        clear e
        have gw3 : w.grownBy (w3.alloc (.cells (madeCells #[.int .u8 0] (200 + yn)) 5)) (some N) := gtrans (gtrans gw2 g3) (galloc _ _ _)
        go_wp2
        go_ret
        exact ⟨⟨_, rfl, by show (List.replicate (200 + yn) (0 : UInt8)).toArray.size ≤ 201; rw [List.size_toArray, List.length_replicate]; omega⟩, gw3, h.grown gw3 d3 (galloc _ _ none) (by simp) (by have := gtrans gw2 g3; have := this.size; omega)⟩

theorem gbel {B N : Nat} {w a b : World} (h : Below B w a) (g : a.grownBy b (some N)) (hB : B ≤ a.heap.size) (hN : B ≤ N) : Below B w b :=
  h.trans ⟨g.os, g.tape, g.output, g.size, fun k hk => g.block k (by omega) (fun e => by have := Option.some.inj e; omega)⟩
theorem four_cell {w w' : World} {N : Nat} (x0 x1 x2 x3 : Int) (g : (w.alloc (.cells #[.int .i64 x0, .int .i64 x1, .int .i64 x2, .int .i64 x3] 2)).grownBy w' (some N)) (hN : N < w.heap.size) (z : Nat) (hz : z < 4) : ∃ m : Int, w'.cell? ⟨w.heap.size, z, none⟩ = some (.int .i64 m) := by
  have key : ∃ m : Int, (w.alloc (.cells #[.int .i64 x0, .int .i64 x1, .int .i64 x2, .int .i64 x3] 2)).cell? ⟨w.heap.size, z, none⟩ = some (.int .i64 m) := by
    match z, hz with
    | 0, _ => exact ⟨x0, by simp⟩
    | 1, _ => exact ⟨x1, by simp⟩
    | 2, _ => exact ⟨x2, by simp⟩
    | 3, _ => exact ⟨x3, by simp⟩
  obtain ⟨m, hm⟩ := key
  exact ⟨m, g.cell hm (fun e => by have e2 : w.heap.size = N := Option.some.inj e; omega)⟩

end Go.Proofs.YtjclpbaiiklhcaaGreatDoor
