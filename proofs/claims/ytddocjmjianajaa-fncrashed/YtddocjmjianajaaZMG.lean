import Derived.Test.YtddocjmjianajaaZDrawT
import Derived.Test.YtddocjmjianajaaZDNewD
import Derived.Test.YtddocjmjianajaaZCommit
import Derived.Test.YtddocjmjianajaaZDSpecPut
import Derived.Deep.RegionHeld3
import Derived.Deep.DeepCutAuto
/- A disk drawn. -/
namespace Go.Proofs.Ytddocjmjianajaa
open Go.RowKit

/-- The box of a disk's two slices. -/
def Bx (w : World) (D : Nat) (u1 u2 : Value) : Prop := w.heap[D]? = some (.cells #[u1, u2] 27 (0, 0))
theorem Bx.c0 {w : World} {D : Nat} {u1 u2 : Value} (h : Bx w D u1 u2) : w.cell? ⟨D, 0, none⟩ = some u1 := by simp [World.cell?, show w.heap[D]? = _ from h]
theorem Bx.c1 {w : World} {D : Nat} {u1 u2 : Value} (h : Bx w D u1 u2) : w.cell? ⟨D, 1, none⟩ = some u2 := by simp [World.cell?, show w.heap[D]? = _ from h]
theorem Bx.f {w : World} {D o : Nat} {u1 u2 : Value} (h : Bx w D u1 u2) : w.frozen? ⟨D, o, none⟩ = false := by simp [World.frozen?, show w.heap[D]? = _ from h]
theorem Bx.lt {w : World} {D : Nat} {u1 u2 : Value} (h : Bx w D u1 u2) : D < w.heap.size := by
  obtain ⟨hlt, _⟩ := Array.getElem?_eq_some_iff.1 (show w.heap[D]? = _ from h)
  exact hlt
theorem Bx.later {w w' : World} {D : Nat} {u1 u2 : Value} (h : Bx w D u1 u2) (hb : Below w.heap.size w w') : Bx w' D u1 u2 := (hb.block D h.lt).trans h
theorem Bx.grown {w w' : World} {D : Nat} {u1 u2 : Value} {r : Option Nat} (h : Bx w D u1 u2) (hg : w.grownBy w' r) (hr : some D ≠ r) : Bx w' D u1 u2 := (hg.block D h.lt hr).trans h
theorem Bx.set {w : World} {D : Nat} {u1 u2 : Value} (h : Bx w D u1 u2) (x y : Value) : Bx ((w.setCell ⟨D, 0, none⟩ x).setCell ⟨D, 1, none⟩ y) D x y := by
  unfold Bx
  simp [World.setCell, Array.getElem?_modify, show w.heap[D]? = _ from h]
theorem Bx.new (w : World) (u1 u2 : Value) : Bx (w.alloc (.cells #[u1, u2] 27)) w.heap.size u1 u2 := heap_alloc_new w _
theorem Dw.drew {N : Nat} {cv : Value} {cs : List UInt8} {w : World} (h : Dw N cv cs w) : Dw N cv cs w.drew := ⟨h.br, h.len, h.dr.drew, h.off⟩
/-- A disk under way: drawn from N, its box in D. -/
structure Dd (w : World) (N : Nat) (cv : Value) (cs : List UInt8) (D : Nat) (W : World) (u1 u2 : Value) (ss : List ByteArray) (ws : List Disk.Wr) : Prop where
  dw : Dw N cv cs W
  gr : w.grownBy W (some N)
  bx : Bx W D u1 u2
  lo : w.heap.size < D
  rs : Bx W w.heap.size (.slice none 0 0) (.slice none 0 0)
  ns : Disk.NS w.heap.size W u1 ss
  no : Disk.NO w.heap.size W u2 ws
  l1 : ss.length = 64
  l2 : ws.length ≤ 300
  cp : Disk.CapS u1

theorem os_off {w w' : World} {N B t size n : Nat} {v : Value} (h : Disk.OS w t size v n) (g : w.grownBy w' (some N)) (hr : ∀ b, Disk.rowOf v n = some b → B ≤ b) (hN : N < B) : Disk.OS w' t size v n := by
  obtain ⟨ao, cap, rfl, h⟩ := h
  refine ⟨ao, cap, rfl, ?_⟩
  rcases h with h | ⟨b, M, f, rfl, hM, hf⟩
  · exact .inl h
  · by_cases hn : n = 0
    · exact .inl hn
    · have := hr b (by rw [Disk.rowOf, if_neg (by omega)]; rfl)
      exact .inr ⟨b, M, f, rfl, hM, World.rowIs.of_block hf (g.block b (World.rowIs.lt hf) (fun e => by have := Option.some.inj e; omega))⟩
theorem ns_off {w w' : World} {N B : Nat} {v : Value} {ss : List ByteArray} (h : Disk.NS B w v ss) (g : w.grownBy w' (some N)) (hN : N < B) : Disk.NS B w' v ss := by
  refine ⟨os_off h.1 g h.2.2 hN, ?_, h.2.2⟩
  obtain ⟨ao, cap, rfl, hc⟩ := h.2.1
  refine ⟨ao, cap, rfl, fun i hi => ?_⟩
  obtain ⟨b, o, rfl, hci⟩ := hc i hi
  have := h.2.2 b (by rw [Disk.rowOf, if_neg (by omega)]; rfl)
  exact ⟨b, o, rfl, g.cell hci (fun e => by have e2 : b = N := Option.some.inj e; omega)⟩
theorem nw_off {w w' : World} {N B : Nat} {v : Value} {ws : List Disk.Wr} (h : Disk.NW B w v ws) (g : w.grownBy w' (some N)) (hN : N < B) : Disk.NW B w' v ws := by
  refine ⟨os_off h.1 g h.2.2 hN, ?_, h.2.2⟩
  obtain ⟨ao, cap, rfl, hc⟩ := h.2.1
  refine ⟨ao, cap, rfl, fun i hi => ?_⟩
  obtain ⟨b, o, rfl, hci, hci'⟩ := hc i hi
  have := h.2.2 b (by rw [Disk.rowOf, if_neg (by omega)]; rfl)
  exact ⟨b, o, rfl, g.cell hci (fun e => by have e2 : b = N := Option.some.inj e; omega), g.cell hci' (fun e => by have e2 : b = N := Option.some.inj e; omega)⟩
theorem Dd.nw {w W : World} {N D : Nat} {cv : Value} {cs : List UInt8} {u1 u2 : Value} {ss : List ByteArray} {ws : List Disk.Wr} (h : Dd w N cv cs D W u1 u2 ss ws) : Disk.NW w.heap.size W u2 ws := h.no.nw
theorem no_off {w w' : World} {N B : Nat} {v : Value} {ws : List Disk.Wr} (h : Disk.NO B w v ws) (g : w.grownBy w' (some N)) (hN : N < B) : Disk.NO B w' v ws := h.imp id (fun h => own_off h g hN)
theorem Dd.step {w W W' : World} {N D : Nat} {cv : Value} {cs : List UInt8} {u1 u2 : Value} {ss : List ByteArray} {ws : List Disk.Wr} (h : Dd w N cv cs D W u1 u2 ss ws) (hN : N < w.heap.size) (g : W.grownBy W' (some N)) (d : Dw N cv cs W') : Dd w N cv cs D W' u1 u2 ss ws :=
  ⟨d, gtrans h.gr g, h.bx.grown g (fun e => by have := Option.some.inj e; have := h.lo; omega), h.lo, h.rs.grown g (fun e => by have := Option.some.inj e; omega), ns_off h.ns g hN, no_off h.no g hN, h.l1, h.l2, h.cp⟩

theorem os_sep {w : World} {D t t' size n : Nat} {v : Value} {c : Array Value} (h : Disk.OS w t size v n) (hD : w.heap[D]? = some (.cells c t' (0, 0))) (ht : t ≠ t') : ∀ b, Disk.rowOf v n = some b → b ≠ D := by
  obtain ⟨ao, cap, rfl, h⟩ := h
  intro b hb e
  subst e
  rcases h with h | ⟨b', M, f, rfl, hM, hf⟩
  · subst h
    simp [Disk.rowOf] at hb
  · rw [Disk.rowOf] at hb
    split at hb
    · cases hb
    · obtain rfl : b' = b := Option.some.inj hb
      obtain ⟨cc, hc, _⟩ := hf
      rw [hc] at hD
      simp at hD
      exact ht hD.2
theorem os_sepd {w w' : World} {D t size n : Nat} {v : Value} (h : Disk.OS w t size v n) (g : w.grownBy w' (some D)) (hr : ∀ b, Disk.rowOf v n = some b → b ≠ D) : Disk.OS w' t size v n := by
  obtain ⟨ao, cap, rfl, h⟩ := h
  refine ⟨ao, cap, rfl, ?_⟩
  rcases h with h | ⟨b, M, f, rfl, hM, hf⟩
  · exact .inl h
  · by_cases hn : n = 0
    · exact .inl hn
    · have := hr b (by rw [Disk.rowOf, if_neg (by omega)]; rfl)
      exact .inr ⟨b, M, f, rfl, hM, World.rowIs.of_block hf (g.block b (World.rowIs.lt hf) (fun e => this (Option.some.inj e)))⟩
theorem ns_sep {w w' : World} {D B : Nat} {v : Value} {ss : List ByteArray} (h : Disk.NS B w v ss) (g : w.grownBy w' (some D)) (hr : ∀ b, Disk.rowOf v ss.length = some b → b ≠ D) : Disk.NS B w' v ss := by
  refine ⟨os_sepd h.1 g hr, ?_, h.2.2⟩
  obtain ⟨ao, cap, rfl, hc⟩ := h.2.1
  refine ⟨ao, cap, rfl, fun i hi => ?_⟩
  obtain ⟨b, o, rfl, hci⟩ := hc i hi
  have := hr b (by rw [Disk.rowOf, if_neg (by omega)]; rfl)
  exact ⟨b, o, rfl, g.cell hci (fun e => this (Option.some.inj e))⟩
theorem no_sep {w w' : World} {D B t' : Nat} {c : Array Value} {v : Value} {ws : List Disk.Wr} (h : Disk.NO B w v ws) (g : w.grownBy w' (some D)) (hD : w.heap[D]? = some (.cells c t' (0, 0))) (ht : 42 ≠ t') : Disk.NO B w' v ws := by
  rcases h with h | h
  · exact .inl h
  · refine .inr ?_
    obtain ⟨hl, h1 | ⟨b, cap, cur, rfl, hB, hh, r⟩⟩ := h
    · exact ⟨hl, .inl h1⟩
    · refine ⟨hl, .inr ⟨b, cap, cur, rfl, hB, ?_, r⟩⟩
      have hlt : b < w.heap.size := by
        obtain ⟨hlt, _⟩ := Array.getElem?_eq_some_iff.1 hh
        exact hlt
      refine (g.block b hlt (fun e => ?_)).trans hh
      have e2 : b = D := Option.some.inj e
      subst e2
      rw [hh] at hD
      simp at hD
      exact ht hD.2
theorem Dd.br {w W W' : World} {N D : Nat} {cv : Value} {cs : List UInt8} {u1 u2 : Value} {ss : List ByteArray} {ws : List Disk.Wr} (h : Dd w N cv cs D W u1 u2 ss ws) (hc : BR w cv cs) (k : W.grownBy W' (some D)) : BR W' cv cs := by
  have hlo := h.lo
  obtain ⟨ao, cap, rfl, hle, hb⟩ := h.dw.br
  refine ⟨ao, cap, rfl, hle, fun i hi => ?_⟩
  obtain ⟨b, o, rfl, hci⟩ := hb i hi
  refine ⟨b, o, rfl, k.cell hci (fun e => ?_)⟩
  have e2 : b = D := Option.some.inj e
  obtain ⟨_, _, e3, _, hcc⟩ := hc
  obtain ⟨b', o', e4, hx⟩ := hcc i hi
  simp at e3
  obtain ⟨rfl, _⟩ := e3
  simp at e4
  have := World.block_lt_of_cell? _ _ hx
  simp at this
  omega
/-- Another disk goes into the box. -/
theorem Dd.put {w W : World} {N D : Nat} {cv : Value} {cs : List UInt8} {u1 u2 x1 x2 : Value} {ss ss' : List ByteArray} {ws ws' : List Disk.Wr} (h : Dd w N cv cs D W u1 u2 ss ws) (hbr : BR w cv cs) (hN : N < w.heap.size) (ns : Disk.NS w.heap.size W x1 ss') (no : Disk.NO w.heap.size W x2 ws') (l1 : ss'.length = 64) (l2 : ws'.length ≤ 300) (cp : Disk.CapS x1) :
    Dd w N cv cs D ((W.setCell ⟨D, 0, none⟩ x1).setCell ⟨D, 1, none⟩ x2) x1 x2 ss' ws' := by
  have k : W.grownBy ((W.setCell ⟨D, 0, none⟩ x1).setCell ⟨D, 1, none⟩ x2) (some D) := gset (gset1 W D 0 x1) 1 x2
  have hlo := h.lo
  have hsz := h.gr.size
  have g : w.grownBy ((W.setCell ⟨D, 0, none⟩ x1).setCell ⟨D, 1, none⟩ x2) (some N) := gmix h.gr k (fun e he => by have := Option.some.inj he; omega)
  have g' : W.grownBy ((W.setCell ⟨D, 0, none⟩ x1).setCell ⟨D, 1, none⟩ x2) (some D) := k
  refine ⟨⟨?_, h.dw.len, h.dw.dr.grown k (fun e => by have := Option.some.inj e; omega) (by omega), h.dw.off⟩, g, h.bx.set x1 x2, h.lo, h.rs.grown k (fun e => by have := Option.some.inj e; omega), ns_sep ns k (os_sep ns.1 h.bx (by decide)), no_sep no k h.bx (by decide), l1, l2, cp⟩
  exact Dd.br h hbr k
theorem zB {a b : World} {N : Nat} {C : Prop} (g : (a.alloc (.cells #[.slice none 0 0, .slice none 0 0] 27)).grownBy b (some N)) (hN : N < a.heap.size) (k : Bx b a.heap.size (.slice none 0 0) (.slice none 0 0) → C) : C :=
  k ((Bx.new a (.slice none 0 0) (.slice none 0 0)).grown g (fun e => by have := Option.some.inj e; omega))
theorem zBd {a b : World} {N : Nat} {C : Prop} (g : (a.alloc (.cells #[.slice none 0 0, .slice none 0 0] 27)).drew.grownBy b (some N)) (hN : N < a.heap.size) (k : Bx b a.heap.size (.slice none 0 0) (.slice none 0 0) → C) : C :=
  k ((g.block a.heap.size (Bx.new a (.slice none 0 0) (.slice none 0 0)).lt (fun e => by have := Option.some.inj e; omega)).trans (Bx.new a (.slice none 0 0) (.slice none 0 0)))
theorem zBg {X b : World} {N D : Nat} {u v : Value} {C : Prop} (g : X.grownBy b (some N)) (z : Bx X D u v) (hN : N < D) (k : Bx b D u v → C) : C :=
  k (z.grown g (fun e => by have := Option.some.inj e; omega))
theorem zC {X b : World} {D : Nat} {u v : Value} {C : Prop} (hb : Below X.heap.size X b) (z : Bx X D u v) (k : b.cell? ⟨D, 0, none⟩ = some u → b.cell? ⟨D, 1, none⟩ = some v → b.frozen? ⟨D, 0, none⟩ = false → b.frozen? ⟨D, 1, none⟩ = false → Bx b D u v → C) : C :=
  k (z.later hb).c0 (z.later hb).c1 (z.later hb).f (z.later hb).f (z.later hb)
def Sx (wr : World) (N : Nat) (cv : Value) (cs : List UInt8) (w' : World) : Prop := wr.grownBy w' (some N) ∧ Dw N cv cs w'
theorem mkS {w wr w' : World} {N D : Nat} {cv : Value} {cs : List UInt8} {u1 u2 : Value} {ss : List ByteArray} {ws : List Disk.Wr} (h : Dd w N cv cs D wr u1 u2 ss ws) (hN : N < w.heap.size) (g : wr.grownBy w' (some N)) (d : Dw N cv cs w') :
    w'.cell? ⟨D, 0, none⟩ = some u1 ∧ w'.cell? ⟨D, 1, none⟩ = some u2 ∧ Sx wr N cv cs w' := ⟨(h.step hN g d).bx.c0, (h.step hN g d).bx.c1, g, d⟩
theorem mkSa {w wr X : World} {N D : Nat} {cv : Value} {cs : List UInt8} {u1 u2 : Value} {ss : List ByteArray} {ws : List Disk.Wr} {A B : Prop} (h : Dd w N cv cs D wr u1 u2 ss ws) (hN : N < w.heap.size) (s : A ∧ B ∧ Sx wr N cv cs X) (o : Obj) :
    (X.alloc o).cell? ⟨D, 0, none⟩ = some u1 ∧ (X.alloc o).cell? ⟨D, 1, none⟩ = some u2 ∧ Sx wr N cv cs (X.alloc o) := by
  have hs := h.gr.size
  have hx := s.2.2.1.size
  have g : wr.grownBy (X.alloc o) (some N) := gtrans s.2.2.1 (galloc _ _ _)
  exact mkS h hN g (h.dw.grown g s.2.2.2 (galloc _ _ none) (by simp) (by omega))
theorem mkSs {w wr X : World} {N D SB : Nat} {cv : Value} {cs : List UInt8} {u1 u2 : Value} {ss : List ByteArray} {ws : List Disk.Wr} {A B : Prop} (h : Dd w N cv cs D wr u1 u2 ss ws) (hN : N < w.heap.size) (s : A ∧ B ∧ Sx wr N cv cs X) (hSB : wr.heap.size ≤ SB) (a b : Value) :
    ((X.setCell ⟨SB, 0, none⟩ a).setCell ⟨SB, 1, none⟩ b).cell? ⟨D, 0, none⟩ = some u1 ∧ ((X.setCell ⟨SB, 0, none⟩ a).setCell ⟨SB, 1, none⟩ b).cell? ⟨D, 1, none⟩ = some u2 ∧ Sx wr N cv cs ((X.setCell ⟨SB, 0, none⟩ a).setCell ⟨SB, 1, none⟩ b) := by
  have hs := h.gr.size
  have hx := s.2.2.1.size
  have k : X.grownBy ((X.setCell ⟨SB, 0, none⟩ a).setCell ⟨SB, 1, none⟩ b) (some SB) := gset (gset1 X SB 0 a) 1 b
  have g : wr.grownBy ((X.setCell ⟨SB, 0, none⟩ a).setCell ⟨SB, 1, none⟩ b) (some N) := gmix s.2.2.1 k (fun e he => by have := Option.some.inj he; omega)
  exact mkS h hN g (h.dw.grown g s.2.2.2 k (fun e => by have := Option.some.inj e; omega) (by omega))
theorem Sd {wr X : World} {N : Nat} {cv : Value} {cs : List UInt8} {A B : Prop} (s : A ∧ B ∧ Sx wr N cv cs X) : Dw N cv cs X := s.2.2.2
theorem Sg {wr X : World} {N : Nat} {cv : Value} {cs : List UInt8} {A B : Prop} (s : A ∧ B ∧ Sx wr N cv cs X) : wr.grownBy X (some N) := s.2.2.1
theorem bodiesK' {w wr X : World} {N D : Nat} {cv : Value} {cs : List UInt8} {u1 u2 : Value} {ss : List ByteArray} {ws : List Disk.Wr} {A B : Prop} (h : Dd w N cv cs D wr u1 u2 ss ws) (hN : N < w.heap.size) (s : A ∧ B ∧ Sx wr N cv cs X) :
    Calls Try.prog 36 #[.pointer (some ⟨N, 0, none⟩)] X fun x w' => ∃ (v : Value) (bs : List ByteArray), x = .returned v ∧ Disk.SR w' v bs ∧ bs.length ≤ 31 ∧ Sx wr N cv cs w' ∧ X.grownBy w' (some N) := by
  refine (Dw.bodies s.2.2.2 (by have := h.gr.size; have := s.2.2.1.size; omega)).mono ?_
  rintro x w' ⟨⟨v, bs, rfl, hv, hl⟩, g, d⟩
  exact ⟨v, bs, rfl, hv.2.1, hl, ⟨gtrans s.2.2.1 g, d⟩, g⟩
theorem commitK {w wr X : World} {N D : Nat} {cv bv : Value} {cs : List UInt8} {u1 u2 : Value} {ss bs : List ByteArray} {ws : List Disk.Wr} {A B : Prop} (h : Dd w N cv cs D wr u1 u2 ss ws) (hN : N < w.heap.size) (s : A ∧ B ∧ Sx wr N cv cs X) (hb : Disk.SR X bv bs) (hl : bs.length ≤ 31) :
    Calls Try.prog 35 #[.agg #[u1, u2], bv] X fun x w' => ∃ (a1 : Option Addr) (n1 c1 : Nat) (a2 : Option Addr) (n2 c2 : Nat) (ok : Bool) (ss' : List ByteArray) (ws' : List Disk.Wr), x = .returned (.tuple #[.agg #[.slice a1 n1 c1, .slice a2 n2 c2], .bool ok]) ∧ Sx wr N cv cs w' ∧ Disk.NS X.heap.size w' (.slice a1 n1 c1) ss' ∧ Disk.NO X.heap.size w' (.slice a2 n2 c2) ws' ∧ (ok = true → ss'.length = 64 ∧ n1 ≤ c1) ∧ ws'.length ≤ 201 ∧ Below X.heap.size X w' := by
  have H := h.step hN s.2.2.1 s.2.2.2
  have := h.l1
  have := h.l2
  refine (specCommit_no u1 u2 bv ss ws bs X H.ns.2.1 H.nw.2.1 (by omega) (by omega) hb (by omega)).mono ?_
  rintro x w' ⟨x1, x2, rfl, hn, hno, hb', hcp⟩
  obtain ⟨a1, n1, c1, rfl⟩ := hn.s1
  obtain ⟨a2, n2, c2, rfl⟩ := hn.s2
  have g : X.grownBy w' (some N) := ⟨hb'.os, hb'.tape, hb'.output, hb'.size, fun k hk _ => hb'.block k hk⟩
  exact ⟨a1, n1, c1, a2, n2, c2, _, _, [], rfl, ⟨gtrans s.2.2.1 g, s.2.2.2.later hb' (by have := h.gr.size; have := s.2.2.1.size; omega)⟩, ⟨hn.1, hn.2.2.1, hn.2.2.2.2.1⟩, hno, fun hk => ⟨by rw [commitS_yes hk, doneS_length, okD_len64 (scrOk_parts hk).1], hcp.le⟩, by simp, hb'⟩

theorem belowK {w wr X : World} {N D : Nat} {cv : Value} {cs : List UInt8} {u1 u2 : Value} {ss : List ByteArray} {ws : List Disk.Wr} {A B : Prop} (_ : Dd w N cv cs D wr u1 u2 ss ws) (s : A ∧ B ∧ Sx wr N cv cs X) (n : Int) (h0 : 0 < n) (h1 : n ≤ 256) :
    Calls Try.prog 19 #[.pointer (some ⟨N, 0, none⟩), .int .i64 n] X fun x w' => ∃ z : Nat, x = .returned (.int .i64 z) ∧ (z : Int) < n ∧ Sx wr N cv cs w' ∧ X.grownBy w' (some N) := by
  refine (Dw.below s.2.2.2 n h0 h1).mono ?_
  rintro x w' ⟨⟨z, rfl, z0, z1⟩, g, d⟩
  obtain ⟨zn, rfl⟩ := Int.eq_ofNat_of_zero_le z0
  exact ⟨zn, rfl, z1, ⟨gtrans s.2.2.1 g, d⟩, g⟩
theorem textK {w wr X : World} {N D : Nat} {cv : Value} {cs : List UInt8} {u1 u2 : Value} {ss : List ByteArray} {ws : List Disk.Wr} {A B : Prop} (h : Dd w N cv cs D wr u1 u2 ss ws) (hN : N < w.heap.size) (s : A ∧ B ∧ Sx wr N cv cs X) :
    Calls Try.prog 21 #[.pointer (some ⟨N, 0, none⟩)] X fun x w' => ∃ t : ByteArray, x = .returned (.string t) ∧ t.size ≤ 257 ∧ Sx wr N cv cs w' ∧ X.grownBy w' (some N) := by
  refine (Dw.text s.2.2.2 (by have := h.gr.size; have := s.2.2.1.size; omega)).mono ?_
  rintro x w' ⟨⟨t, rfl, ht⟩, g, d⟩
  exact ⟨t, rfl, ht, ⟨gtrans s.2.2.1 g, d⟩, g⟩
theorem putK {w wr X : World} {N D : Nat} {cv : Value} {cs : List UInt8} {u1 u2 : Value} {ss : List ByteArray} {ws : List Disk.Wr} {A B : Prop} (h : Dd w N cv cs D wr u1 u2 ss ws) (hN : N < w.heap.size) (s : A ∧ B ∧ Sx wr N cv cs X) (sec : Int) (t : ByteArray) :
    Calls Try.prog 8 #[.agg #[u1, u2], .int .i64 sec, .string t] X fun x w' => ∃ (a1 : Option Addr) (n1 c1 : Nat) (a2 : Option Addr) (n2 c2 : Nat) (ok : Bool) (ss' : List ByteArray) (ws' : List Disk.Wr), x = .returned (.tuple #[.agg #[.slice a1 n1 c1, .slice a2 n2 c2], .bool ok]) ∧ Sx wr N cv cs w' ∧ Disk.NS X.heap.size w' (.slice a1 n1 c1) ss' ∧ Disk.NO X.heap.size w' (.slice a2 n2 c2) ws' ∧ (ok = true → ss'.length = 64 ∧ n1 ≤ c1) ∧ ws'.length ≤ 201 ∧ Below X.heap.size X w' := by
  have H := h.step hN s.2.2.1 s.2.2.2
  have h1 := h.l1
  have h2 := h.l2
  refine (Disk.specPut_no u1 u2 ss ws sec t X H.ns.2.1 H.nw.2.1 (by omega) (by omega)).mono ?_
  rintro x w' ⟨x1, x2, rfl, hn, hno, hb', hcp⟩
  obtain ⟨a1, n1, c1, rfl⟩ := hn.s1
  obtain ⟨a2, n2, c2, rfl⟩ := hn.s2
  have g : X.grownBy w' (some N) := ⟨hb'.os, hb'.tape, hb'.output, hb'.size, fun k hk _ => hb'.block k hk⟩
  refine ⟨a1, n1, c1, a2, n2, c2, _, _, _, rfl, ⟨gtrans s.2.2.1 g, s.2.2.2.later hb' (by have := h.gr.size; have := s.2.2.1.size; omega)⟩, ⟨hn.1, hn.2.2.1, hn.2.2.2.2.1⟩, hno, fun hk => ⟨by unfold Disk.putS; rw [if_pos hk]; exact h1, hcp.le⟩, ?_, hb'⟩
  unfold Disk.putW
  split
  · rename_i hk
    unfold Disk.putOk at hk
    rw [Bool.and_eq_true, Bool.and_eq_true] at hk
    have := (Disk.okD_all hk.1.1).2.1
    rw [List.length_append]
    show ws.length + 1 ≤ 201
    omega
  · exact Nat.zero_le _

theorem br_off {w W W' : World} {b : Nat} {cv : Value} {cs : List UInt8} (hw : BR w cv cs) (h : BR W cv cs) (hb : w.heap.size ≤ b) (k : W.grownBy W' (some b)) : BR W' cv cs := by
  obtain ⟨ao, cap, rfl, hle, hc⟩ := h
  refine ⟨ao, cap, rfl, hle, fun i hi => ?_⟩
  obtain ⟨b', o, rfl, hci⟩ := hc i hi
  refine ⟨b', o, rfl, k.cell hci (fun e => ?_)⟩
  have e2 : b' = b := Option.some.inj e
  obtain ⟨_, _, e3, _, hcc⟩ := hw
  obtain ⟨b2, o2, e4, hx⟩ := hcc i hi
  simp at e3
  obtain ⟨rfl, _⟩ := e3
  simp at e4
  have := World.block_lt_of_cell? _ _ hx
  simp at this
  omega
/-- A text goes into a sector of the disk under way. -/
theorem Dd.store {w W : World} {N D rb n cap i : Nat} {cv : Value} {cs : List UInt8} {u2 : Value} {ss : List ByteArray} {ws : List Disk.Wr} (h : Dd w N cv cs D W (.slice (some ⟨rb, 0, none⟩) n cap) u2 ss ws) (hbr : BR w cv cs) (hN : N < w.heap.size) (hi : i < ss.length) (t : ByteArray) :
    Dd w N cv cs D (W.setCell ⟨rb, i, none⟩ (.string t)) (.slice (some ⟨rb, 0, none⟩) n cap) u2 (ss.set i t) ws := by
  have hlo := h.lo
  have hsz := h.gr.size
  obtain ⟨ao, cp, e, hh⟩ := id h.ns.1
  cases e
  obtain ⟨M, f, hM, hf⟩ : ∃ M f, ss.length * 1 ≤ M ∧ W.rowIs rb 9 M f := by
    rcases hh with hh | ⟨b, M, f, e, hM, hf⟩
    · omega
    · cases e
      exact ⟨M, f, hM, hf⟩
  have hrow : Disk.rowOf (.slice (some ⟨rb, 0, none⟩) ss.length cap) ss.length = some rb := by rw [Disk.rowOf, if_neg (by omega)]; rfl
  have hrb := h.ns.2.2 rb hrow
  have hne := os_sep h.ns.1 h.bx (by decide) rb hrow
  have k : W.grownBy (W.setCell ⟨rb, i, none⟩ (.string t)) (some rb) := gset1 W rb i (.string t)
  have g : w.grownBy (W.setCell ⟨rb, i, none⟩ (.string t)) (some N) := gmix h.gr k (fun e he => by have := Option.some.inj he; omega)
  obtain ⟨c, hc, _⟩ := id hf
  exact ⟨⟨br_off hbr h.dw.br hrb k, h.dw.len, h.dw.dr.grown k (fun e => by have := Option.some.inj e; omega) (by omega), h.dw.off⟩, g, h.bx.grown k (fun e => hne (Option.some.inj e).symm), h.lo, h.rs.grown k (fun e => os_sep h.ns.1 h.rs (by decide) rb hrow (Option.some.inj e).symm), Disk.NS.put t h.ns hi, no_sep h.no k hc (by decide), by rw [List.length_set]; exact h.l1, h.l2, h.cp⟩

theorem Dd.sector {w W : World} {N D rb n cap i : Nat} {cv : Value} {cs : List UInt8} {u2 : Value} {ss : List ByteArray} {ws : List Disk.Wr} {C : Prop} (h : Dd w N cv cs D W (.slice (some ⟨rb, 0, none⟩) n cap) u2 ss ws) (hi : i < 64)
    (k : ∀ s, W.cell? ⟨rb, i, none⟩ = some (.string s) → W.frozen? ⟨rb, i, none⟩ = false → C) : C := by
  have h64 := h.l1
  obtain ⟨b, cp, e, _, _, hc, hf⟩ := h.ns.form (by omega)
  cases e
  exact k _ (hc i (by omega)) (hf i)

theorem belowN {w X : World} {N D : Nat} {cv : Value} {cs : List UInt8} {u1 u2 : Value} {ss : List ByteArray} {ws : List Disk.Wr} (h : Dd w N cv cs D X u1 u2 ss ws) (n : Int) (h0 : 0 < n) (h1 : n ≤ 256) :
    Calls Try.prog 19 #[.pointer (some ⟨N, 0, none⟩), .int .i64 n] X fun x w' => ∃ z : Nat, x = .returned (.int .i64 z) ∧ (z : Int) < n ∧ X.grownBy w' (some N) ∧ Dw N cv cs w' := by
  refine (Dw.below h.dw n h0 h1).mono ?_
  rintro x w' ⟨⟨z, rfl, z0, z1⟩, g, d⟩
  obtain ⟨zn, rfl⟩ := Int.eq_ofNat_of_zero_le z0
  exact ⟨zn, rfl, z1, g, d⟩

/-- A disk goes into the result. -/
theorem Dd.ret {w W : World} {N D : Nat} {cv : Value} {cs : List UInt8} {u1 u2 : Value} {ss : List ByteArray} {ws : List Disk.Wr} (h : Dd w N cv cs D W u1 u2 ss ws) (hbr : BR w cv cs) (hN : N < w.heap.size) :
    Disk.NS w.heap.size ((W.setCell ⟨w.heap.size, 0, none⟩ u1).setCell ⟨w.heap.size, 1, none⟩ u2) u1 ss ∧ Disk.NO w.heap.size ((W.setCell ⟨w.heap.size, 0, none⟩ u1).setCell ⟨w.heap.size, 1, none⟩ u2) u2 ws ∧ w.grownBy ((W.setCell ⟨w.heap.size, 0, none⟩ u1).setCell ⟨w.heap.size, 1, none⟩ u2) (some N) ∧ Dw N cv cs ((W.setCell ⟨w.heap.size, 0, none⟩ u1).setCell ⟨w.heap.size, 1, none⟩ u2) ∧ Bx ((W.setCell ⟨w.heap.size, 0, none⟩ u1).setCell ⟨w.heap.size, 1, none⟩ u2) w.heap.size u1 u2 := by
  have k : W.grownBy ((W.setCell ⟨w.heap.size, 0, none⟩ u1).setCell ⟨w.heap.size, 1, none⟩ u2) (some w.heap.size) := gset (gset1 W w.heap.size 0 u1) 1 u2
  have hsz := h.gr.size
  have g : w.grownBy ((W.setCell ⟨w.heap.size, 0, none⟩ u1).setCell ⟨w.heap.size, 1, none⟩ u2) (some N) := gmix h.gr k (fun e he => by have := Option.some.inj he; omega)
  exact ⟨ns_sep h.ns k (os_sep h.ns.1 h.rs (by decide)), no_sep h.no k h.rs (by decide), g, ⟨br_off hbr h.dw.br (Nat.le_refl _) k, h.dw.len, h.dw.dr.grown k (fun e => by have := Option.some.inj e; omega) (by omega), h.dw.off⟩, h.rs.set u1 u2⟩

end Go.Proofs.Ytddocjmjianajaa

/- A disk drawn: its damages. -/
namespace Go.Proofs.Ytddocjmjianajaa
open Go.RowKit

/-- A write into a block above the ground leaves the code that is drawn from. -/
theorem dw_off {w W W' : World} {N b : Nat} {cv : Value} {cs : List UInt8} (hbr : BR w cv cs) (hN : N < w.heap.size) (hb : w.heap.size ≤ b) (g : w.grownBy W (some N)) (d : Dw N cv cs W) (k : W.grownBy W' (some b)) : w.grownBy W' (some N) ∧ Dw N cv cs W' := by
  have hsz := g.size
  exact ⟨gmix g k (fun e he => by have := Option.some.inj he; omega), ⟨br_off hbr d.br hb k, d.len, d.dr.grown k (fun e => by have := Option.some.inj e; omega) (by omega), d.off⟩⟩
/-- Other late writes go into the box. -/
theorem Dd.late {w W : World} {N D : Nat} {cv : Value} {cs : List UInt8} {u1 u2 x2 : Value} {ss : List ByteArray} {ws ws' : List Disk.Wr} (h : Dd w N cv cs D W u1 u2 ss ws) (hbr : BR w cv cs) (hN : N < w.heap.size) (no : Disk.NO w.heap.size W x2 ws') (l2 : ws'.length ≤ 300) :
    Dd w N cv cs D (W.setCell ⟨D, 1, none⟩ x2) u1 x2 ss ws' := by
  have k : W.grownBy (W.setCell ⟨D, 1, none⟩ x2) (some D) := gset1 W D 1 x2
  have hlo := h.lo
  have hsz := h.gr.size
  obtain ⟨g, d⟩ := dw_off hbr hN (by omega : w.heap.size ≤ D) h.gr h.dw k
  refine ⟨d, g, ?_, h.lo, h.rs.grown k (fun e => by have := Option.some.inj e; omega), ns_sep h.ns k (os_sep h.ns.1 h.bx (by decide)), no_sep no k h.bx (by decide), h.l1, l2, h.cp⟩
  unfold Bx
  simp [World.setCell, Array.getElem?_modify, show W.heap[D]? = _ from h.bx]
/-- A new block. -/
theorem Dd.al {w W : World} {N D : Nat} {cv : Value} {cs : List UInt8} {u1 u2 : Value} {ss : List ByteArray} {ws : List Disk.Wr} (h : Dd w N cv cs D W u1 u2 ss ws) (hN : N < w.heap.size) (o : Obj) : Dd w N cv cs D (W.alloc o) u1 u2 ss ws :=
  h.step hN (galloc _ _ _) (h.dw.grown (galloc _ _ _) h.dw (galloc _ _ none) (by simp) (by have := h.gr.size; omega))
def blankW : Disk.Wr := (0, ⟨#[]⟩)
theorem lcells_blank (n : Nat) : Disk.lcells (List.replicate n blankW) = (madeCells #[.int .i64 0, .string ⟨#[]⟩] (n * 2)).toList := by
  apply List.ext_getElem?
  intro i
  by_cases hi : i < n * 2
  · have hb : (List.replicate n blankW).getD (i / 2) Disk.wr0 = blankW := by
      rw [List.getD_eq_getElem?_getD, List.getElem?_replicate, if_pos (by omega)]
      rfl
    rw [Disk.lcells_get _ i (by rw [List.length_replicate]; exact hi), Array.getElem?_toList]
    unfold Disk.lcell
    rw [hb]
    rcases (by omega : i % 2 = 0 ∨ i % 2 = 1) with hp | hp
    · rw [if_pos hp]
      simp [madeCells, hi, hp, blankW]
    · rw [if_neg (by omega)]
      simp [madeCells, hi, hp, blankW]
  · rw [List.getElem?_eq_none (by rw [Disk.lcells_length, List.length_replicate]; omega), Array.getElem?_toList, Array.getElem?_eq_none (by rw [size_madeCells]; omega)]
theorem made_no (w : World) (B n : Nat) (hB : B ≤ w.heap.size) (hn : n ≤ 1000) : Disk.NO B (w.alloc (.cells (madeCells #[.int .i64 0, .string ⟨#[]⟩] (n * 2)) 42)) (.slice (some ⟨w.heap.size, 0, none⟩) n n) (List.replicate n blankW) := by
  refine .inr ⟨by rw [lcells_blank, List.length_replicate]; simp [size_madeCells], .inr ⟨w.heap.size, n, _, by rw [List.length_replicate], hB, heap_alloc_new w _, by rw [List.length_replicate]; exact Nat.le_refl _, by unfold maxLen; omega, ?_, ?_⟩⟩
  · simp [size_madeCells]
  · rw [lcells_blank, List.length_replicate]
    apply List.take_of_length_le
    simp [size_madeCells]
/-- The first sector is left out, and the disk goes into the result. -/
theorem Dd.less {w W : World} {N D rb rc : Nat} {cv : Value} {cs : List UInt8} {u2 : Value} {ss : List ByteArray} {ws : List Disk.Wr} (h : Dd w N cv cs D W (.slice (some ⟨rb, 0, none⟩) 64 rc) u2 ss ws) (hbr : BR w cv cs) (hN : N < w.heap.size) (s : Value) (hs : s = .slice (some ⟨rb, 1, none⟩) 63 (rc - 1)) :
    Disk.SR (((W.setCell ⟨D, 0, none⟩ s).setCell ⟨w.heap.size, 0, none⟩ s).setCell ⟨w.heap.size, 1, none⟩ u2) s (ss.drop 1) ∧ Disk.WR (((W.setCell ⟨D, 0, none⟩ s).setCell ⟨w.heap.size, 0, none⟩ s).setCell ⟨w.heap.size, 1, none⟩ u2) u2 ws ∧ w.grownBy (((W.setCell ⟨D, 0, none⟩ s).setCell ⟨w.heap.size, 0, none⟩ s).setCell ⟨w.heap.size, 1, none⟩ u2) (some N) ∧ Dw N cv cs (((W.setCell ⟨D, 0, none⟩ s).setCell ⟨w.heap.size, 0, none⟩ s).setCell ⟨w.heap.size, 1, none⟩ u2) ∧ Bx (((W.setCell ⟨D, 0, none⟩ s).setCell ⟨w.heap.size, 0, none⟩ s).setCell ⟨w.heap.size, 1, none⟩ u2) w.heap.size s u2 := by
  have hlo := h.lo
  have k1 : W.grownBy (W.setCell ⟨D, 0, none⟩ s) (some D) := gset1 W D 0 s
  obtain ⟨g1, d1⟩ := dw_off hbr hN (by omega : w.heap.size ≤ D) h.gr h.dw k1
  have k2 : (W.setCell ⟨D, 0, none⟩ s).grownBy (((W.setCell ⟨D, 0, none⟩ s).setCell ⟨w.heap.size, 0, none⟩ s).setCell ⟨w.heap.size, 1, none⟩ u2) (some w.heap.size) := gset (gset1 _ w.heap.size 0 s) 1 u2
  obtain ⟨g2, d2⟩ := dw_off hbr hN (Nat.le_refl _) g1 d1 k2
  have n1 := ns_sep h.ns k1 (os_sep h.ns.1 h.bx (by decide))
  have r1 := h.rs.grown k1 (fun e => by have := Option.some.inj e; omega)
  have n2 := ns_sep n1 k2 (os_sep n1.1 r1 (by decide))
  have o1 := no_sep h.no k1 h.bx (by decide)
  have o2 := no_sep o1 k2 r1 (by decide)
  obtain ⟨b, cp, e, _, _, hc, _⟩ := n2.form (by rw [h.l1]; omega)
  injection e with e1 e2 e3
  injection e1 with e1
  injection e1 with e1 _ _
  subst e1
  have l1 := h.l1
  refine ⟨⟨some ⟨rb, 1, none⟩, rc - 1, ?_, fun i hi => ⟨rb, 1, rfl, ?_⟩⟩, o2.nw.2.1, g2, d2, r1.set s u2⟩
  · rw [hs, List.length_drop, l1]
  · rw [List.length_drop, l1] at hi
    rw [Nat.add_comm 1 i, hc (i + 1) (by omega)]
    simp [List.getD_eq_getElem?_getD]

/-- A slice lies from block B on. -/
def Low (B : Nat) (v : Value) : Prop := ∀ a n c, v = .slice (some a) n c → 0 < n → B ≤ a.block
theorem low_ns {B : Nat} {w : World} {v : Value} {ss : List ByteArray} (h : Disk.NS B w v ss) : Low B v := by
  rintro a n c rfl hn
  obtain ⟨ao, cap, e, _⟩ := h.2.1
  injection e with e1 e2 e3
  subst e2
  exact h.2.2 a.block (by rw [Disk.rowOf, if_neg (by omega)]; rfl)
theorem low_nw {B : Nat} {w : World} {v : Value} {ws : List Disk.Wr} (h : Disk.NW B w v ws) : Low B v := by
  rintro a n c rfl hn
  obtain ⟨ao, cap, e, _⟩ := h.2.1
  injection e with e1 e2 e3
  subst e2
  exact h.2.2 a.block (by rw [Disk.rowOf, if_neg (by omega)]; rfl)
theorem low_at {B b n c o : Nat} (h : B ≤ b) : Low B (.slice (some ⟨b, o, none⟩) n c) := by
  intro a m k e _
  injection e with e1 _ _
  injection e1 with e1
  subst e1
  exact h

end Go.Proofs.Ytddocjmjianajaa
