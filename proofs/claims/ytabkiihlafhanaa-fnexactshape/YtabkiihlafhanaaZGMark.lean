/- Graphs that own their memory; markNodeS, markGraph, heldGraph. -/
import Derived.Test.YtabkiihlafhanaaZGLawG
namespace Go.Proofs.Ytabkiihlafhanaa
open Go.RowKit

/-- Nodes that own their memory, since B; no two lie in one row. -/
def NOwn (B : Nat) (w : World) (nv : Value) (ns : List Nd) (fv : Nat → Value) : Prop :=
  ∃ xs, w.ownsRow B 51 3 nv ns.length xs ∧ Trip xs ns fv ∧ (∀ i, i < ns.length → w.ownsRow B 2 1 (fv i) (ns.getD i nd0).fl.length (icells (ns.getD i nd0).fl)) ∧
    ∀ i j, i < ns.length → j < ns.length → i ≠ j → ∀ b, (fv i).ownBlock = some b → (fv j).ownBlock ≠ some b
/-- A graph that owns its memory. -/
def GN (B : Nat) (w : World) (v : Value) (g : Gr) : Prop :=
  ∃ vr vn fv, v = .agg #[vr, vn, .int .i64 g.hash] ∧ w.ownsRow B 2 1 vr g.roots.length (icells g.roots) ∧ NOwn B w vn g.nodes fv ∧ ∀ i, i < g.nodes.length → ∀ b, vr.ownBlock = some b → (fv i).ownBlock ≠ some b
theorem type_ne {w : World} {B B' e e' s s' n n' b : Nat} {v v' : Value} {xs xs' : List Value} (h : w.ownsRow B e s v n xs) (h' : w.ownsRow B' e' s' v' n' xs') (ne : e ≠ e') (hb : v.ownBlock = some b) : v'.ownBlock ≠ some b := by
  intro hb'
  rcases h.2 with ⟨rfl, _⟩ | ⟨g, cap, cur, rfl, _, hh, _⟩
  · simp [Value.ownBlock] at hb
  · rcases h'.2 with ⟨rfl, _⟩ | ⟨g', cap', cur', rfl, _, hh', _⟩
    · simp [Value.ownBlock] at hb'
    · simp [Value.ownBlock] at hb hb'
      subst hb hb'
      rw [hh] at hh'
      simp at hh'
      exact ne hh'.2
theorem NOwn.nk {B : Nat} {w : World} {nv : Value} {ns : List Nd} {fv : Nat → Value} (h : NOwn B w nv ns fv) : NK B w nv ns (fun b => B ≤ b ∧ b < w.heap.size) := by
  obtain ⟨xs, ho, ht, hf, _⟩ := h
  exact ⟨xs, fv, ho, ht, fun i hi => ⟨IR_of_owns (hf i hi), fun b k => (hf i hi).lt b (inB_own (hf i hi) k)⟩⟩
theorem GN.grn {B : Nat} {w : World} {v : Value} {g : Gr} (h : GN B w v g) : GRn B w v g := by
  obtain ⟨vr, vn, fv, e, hr, hn, _⟩ := h
  exact ⟨vr, vn, _, e, ⟨IR_of_owns hr, fun b k => hr.lt b (inB_own hr k)⟩, hn.nk, fun b k => k.1⟩
theorem Grew.nown {B : Nat} {w w' : World} {nv : Value} {ns : List Nd} {fv : Nat → Value} {S : Nat → Prop} (q : Grew w w' S) (h : NOwn B w nv ns fv) (hS : ∀ b, S b → b < B) : NOwn B w' nv ns fv := by
  obtain ⟨xs, ho, ht, hf, ha⟩ := h
  exact ⟨xs, q.own ho (fun b e s => by have := (ho.lt b e).1; have := hS b s; omega), ht, fun i hi => q.own (hf i hi) (fun b e s => by have := ((hf i hi).lt b e).1; have := hS b s; omega), ha⟩
theorem Grew.gn {B : Nat} {w w' : World} {v : Value} {g : Gr} {S : Nat → Prop} (q : Grew w w' S) (h : GN B w v g) (hS : ∀ b, S b → b < B) : GN B w' v g := by
  obtain ⟨vr, vn, fv, e, hr, hn, ha⟩ := h
  exact ⟨vr, vn, fv, e, q.own hr (fun b e s => by have := (hr.lt b e).1; have := hS b s; omega), q.nown hn hS, ha⟩
theorem GN.later {B : Nat} {w w' : World} {v : Value} {g : Gr} (h : GN B w v g) (hb : Below w.heap.size w w') : GN B w' v g := (Grew.new hb (fun _ => False)).gn h (fun _ q => q.elim)
theorem GN.base {B B' : Nat} {w : World} {v : Value} {g : Gr} (h : GN B w v g) (hB : B' ≤ B) : GN B' w v g := by
  obtain ⟨vr, vn, fv, e, hr, ⟨xs, ho, ht, hf, ha⟩, h2⟩ := h
  exact ⟨vr, vn, fv, e, own_mono hr hB, ⟨xs, own_mono ho hB, ht, fun i hi => own_mono (hf i hi) hB, ha⟩, h2⟩
/-- One node more, whose fields were made since. -/
theorem NOwn.snoc {B : Nat} {w w1 w2 w3 : World} {nv nv1 f : Value} {ns : List Nd} {fv : Nat → Value} {c z : Int} {fl : List Int} (h : NOwn B w nv ns fv) (b1 : Below w.heap.size w w1) (hf : w1.ownsRow w.heap.size 2 1 f fl.length (icells fl)) (hB : B ≤ w.heap.size)
    (b2 : Below w1.heap.size w1 w2) {xs : List Value} (ht : Trip xs ns fv) (ho : w3.ownsRow B 51 3 nv1 (ns.length + 1) (xs ++ [.int .i64 c, .int .i64 z, f])) (g : w2.grownBy w3 nv.ownBlock) :
    NOwn B w3 nv1 (ns ++ [⟨c, z, fl⟩]) (fun i => if i = ns.length then f else fv i) := by
  obtain ⟨xs0, ho0, _, hf0, ha0⟩ := h
  have o1 : w1.ownsRow B _ 3 nv ns.length xs0 := own_later ho0 b1
  have G : Grew w1 w3 (fun k => nv.ownBlock = some k) := (Grew.new b2 _).trans (Grew.grown g)
  have oF : w3.ownsRow B 2 1 f fl.length (icells fl) := own_mono (G.own hf (fun b e q => type_ne hf o1 (by decide) e q)) hB
  have oI : ∀ i, i < ns.length → w3.ownsRow B 2 1 (fv i) (ns.getD i nd0).fl.length (icells (ns.getD i nd0).fl) := fun i hi => G.own (own_later (hf0 i hi) b1) (fun b e q => type_ne (hf0 i hi) ho0 (by decide) e q)
  have eg : ∀ i, i < ns.length → (ns ++ [(⟨c, z, fl⟩ : Nd)]).getD i nd0 = ns.getD i nd0 := fun i hi => by simp [List.getD_eq_getElem?_getD, List.getElem?_append_left hi]
  have en : (ns ++ [(⟨c, z, fl⟩ : Nd)]).getD ns.length nd0 = ⟨c, z, fl⟩ := by simp
  have hl : (ns ++ [(⟨c, z, fl⟩ : Nd)]).length = ns.length + 1 := by simp
  refine ⟨_, by rw [hl]; exact ho, ht.snoc c z fl f, fun i hi => ?_, fun i j hi hj ne b e => ?_⟩
  · rw [hl] at hi
    dsimp only
    by_cases e : i = ns.length
    · subst e
      rw [if_pos rfl, en]
      exact oF
    · rw [if_neg e, eg i (by omega)]
      exact oI i (by omega)
  · rw [hl] at hi hj
    dsimp only at e ⊢
    by_cases e1 : i = ns.length
    · rw [if_pos e1] at e
      rw [if_neg (by omega)]
      intro q
      have h1 := (hf.lt b e).1
      have h2 := ((hf0 j (by omega)).lt b q).2
      omega
    · rw [if_neg e1] at e
      by_cases e2 : j = ns.length
      · rw [if_pos e2]
        intro q
        have h1 := (hf.lt b q).1
        have h2 := ((hf0 i (by omega)).lt b e).2
        omega
      · rw [if_neg e2]
        exact ha0 i j (by omega) (by omega) ne b e

theorem heldGraph_any (v : Value) (vr vn : Value) (g : Gr) (k : Int) (w : World) (hv : v = .agg #[vr, vn, .int .i64 g.hash]) (hr : IR w vr (imarks k g.roots.length)) (hn : NR w vn (nmk (k + g.roots.length) g.nodes)) (h0 : 0 < k) (h1 : mkK (k + g.roots.length) g.nodes g.nodes.length ≤ 1000000000000) (h2 : g.nodes.length ≤ 1000000000000) :
    Calls Try.prog 13 #[v, .int .i64 k] w fun e w' => e = .returned (.int .i64 (mkK (k + g.roots.length) g.nodes g.nodes.length)) ∧ Below w.heap.size w w' := by
  subst hv
  obtain ⟨ra, rc, rfl⟩ := IR.shape hr
  obtain ⟨na, nc, rfl⟩ := NR.shape hn
  rw [imarks_length] at hr ⊢
  rw [nmk_length] at hn ⊢
  have bb := mkK_bounds (k + g.roots.length) g.nodes g.nodes.length (Nat.le_refl _)
  have hb0 := bel_one w (.cells #[.slice ra g.roots.length rc, .slice na g.nodes.length nc, .int .i64 g.hash] 28)
  have R0 := graphC w (.slice ra g.roots.length rc) (.slice na g.nodes.length nc) g.hash 28
  have E1 := heldInt64S_any _ g.roots.length k _ (hr.later hb0) h0 (by omega)
  have E2 := fun W (q : Below w.heap.size w W) => heldNodeS_any _ g.nodes (k + g.roots.length) W (hn.later q) (by omega) h1 h2
  generalize mkK (k + g.roots.length) g.nodes g.nodes.length = z at *
  have t1 : ¬ k + (g.roots.length : Int) < 0 := by omega
  have t2 : ¬ z < 0 := by omega
  clear hr hn
  go_enter Try.func13, Try.ntmps13
  go_wp2_with fail
  refine E1.mono ?_
  rintro e w1 ⟨rfl, hb1⟩
  have hbw1 := bel_after hb0 hb1
  have Q0 := R0.of_block (hb1.block _ R0.lt)
  have a1 : w1.cell? ⟨w.heap.size, 1, none⟩ = some (.slice na g.nodes.length nc) := Q0.cell (i := 1) (by omega)
  go_wp2_with fail
  refine (E2 w1 hbw1).mono ?_
  rintro e w2 ⟨rfl, hb2⟩
  go_wp2
  go_ret
  exact ⟨rfl, bel_after hbw1 hb2⟩

/-- The cells of a row of nodes of which i are marked. -/
def mkF (k : Int) (ns : List Nd) (f : Nat → Value) (i j : Nat) : Value := if j < i * 3 ∧ j % 3 = 0 then .int .i64 (mkK k ns (j / 3)) else if j < i * 3 ∧ j % 3 = 1 then .int .i64 (mkK k ns (j / 3) + 1) else f j
theorem mkF_zero (k : Int) (ns : List Nd) (f : Nat → Value) (j : Nat) : mkF k ns f 0 j = f j := by
  unfold mkF
  rw [if_neg (by omega), if_neg (by omega)]
theorem mkF_next {w : World} {g t N i : Nat} {k : Int} {ns : List Nd} {f : Nat → Value} (h : w.rowIs g t N (mkF k ns f i)) :
    ((w.setCell ⟨g, i * 3, none⟩ (.int .i64 (mkK k ns i))).setCell ⟨g, i * 3 + 1, none⟩ (.int .i64 (mkK k ns i + 1))).rowIs g t N (mkF k ns f (i + 1)) := by
  refine ((h.set (i * 3) _).set (i * 3 + 1) _).congr fun j _ => ?_
  unfold mkF
  by_cases e1 : j = i * 3 + 1
  · subst e1
    rw [if_pos rfl, if_neg (by omega), if_pos (by omega), show (i * 3 + 1) / 3 = i from by omega]
  · rw [if_neg e1]
    by_cases e0 : j = i * 3
    · subst e0
      rw [if_pos rfl, if_pos (by omega), show i * 3 / 3 = i from by omega]
    · rw [if_neg e0]
      by_cases h0 : j < i * 3 ∧ j % 3 = 0
      · rw [if_pos h0, if_pos (by omega)]
      · rw [if_neg h0]
        by_cases h1 : j < i * 3 ∧ j % 3 = 1
        · rw [if_pos h1, if_neg (by omega), if_pos (by omega)]
        · rw [if_neg h1, if_neg (by omega), if_neg (by omega)]

/-- The state of the marking. -/
structure MkSt (w wr : World) (g N : Nat) (k : Int) (ns : List Nd) (f fv : Nat → Value) (i B : Nat) : Prop where
  row : wr.rowIs g 51 N (mkF k ns f i)
  done : ∀ j, j < i → IR wr (fv j) (imarks (mkK k ns j + 2) (ns.getD j nd0).fl.length)
  left : ∀ j, i ≤ j → j < ns.length → wr.ownsRow B 2 1 (fv j) (ns.getD j nd0).fl.length (icells (ns.getD j nd0).fl)
  grew : Grew w wr (fun b => b = g ∨ ∃ j, j < ns.length ∧ (fv j).ownBlock = some b)
theorem rowOf_own {v : Value} {n b : Nat} (h : Disk.rowOf v n = some b) : v.ownBlock = some b := by
  unfold Disk.rowOf at h
  split at h
  · cases h
  · exact h
theorem inB_own' {v : Value} {b n cap : Nat} {ao : Option Addr} (_ : v = .slice ao n cap) (k : inB v b) : v.ownBlock = some b := by
  obtain ⟨o, m, c, e, hm⟩ := k
  rw [e]
  rfl

set_option maxRecDepth 100000 in
set_option maxHeartbeats 1600000 in
theorem markNodeS_any (B : Nat) (nv : Value) (ns : List Nd) (fv : Nat → Value) (k : Int) (w : World) (hv : NOwn B w nv ns fv) (h0 : 0 < k) (h1 : mkK k ns ns.length ≤ 1000000000000) (h2 : ns.length ≤ 1000000000000) :
    Calls Try.prog 28 #[nv, .int .i64 k] w fun e w' => (e = .returned (.int .i64 (mkK k ns ns.length)) ∧ NR w' nv (nmk k ns)) ∧ Grew w w' (fun b => nv.ownBlock = some b ∨ ∃ j, j < ns.length ∧ (fv j).ownBlock = some b) := by
  obtain ⟨xs, ho, ht, hf, ha⟩ := hv
  rcases ho.2 with ⟨rfl, hz⟩ | ⟨g, cap, cur, rfl, hB, hh, hc, _, hcs, htk⟩
  · have hn : ns = [] := List.eq_nil_of_length_eq_zero hz
    subst hn
    have G : Hid (∀ e, e = Ending.returned (.int .i64 k) → (e = .returned (.int .i64 (mkK k [] ([] : List Nd).length)) ∧ NR w (.slice none 0 0) (nmk k [])) ∧ Grew w w (fun b => Value.ownBlock (.slice none 0 0) = some b ∨ ∃ j, j < ([] : List Nd).length ∧ (fv j).ownBlock = some b)) := fun e he => ⟨⟨by rw [he]; simp [mkK], ⟨none, 0, rfl, Nat.le_refl _, fun i hi => absurd hi (Nat.not_lt_zero i)⟩⟩, Grew.refl _ _⟩
    clear hf ha ht ho h1 h2 hz
    go_enter Try.func28, Try.ntmps28
    go_wp2
    refine wp_loop_rounds 1 ?_
    rw [rounds_succ]
    go_wp2
    go_ret
    exact G.out _ rfl
  · have R0 : w.rowIs g 51 cur.size (fun j => cur[j]?.getD undef) := ⟨cur, hh, rfl, fun i hi => by simp [hi]⟩
    have FV : Hid (∀ i, i < ns.length → (fun j => cur[j]?.getD undef) (i * 3 + 2) = fv i) := fun i hi => by
      have h3 := (ht.2 i hi).2.2
      rw [← htk, List.getElem?_take_of_lt (by omega)] at h3
      simp only [Array.getElem?_toList] at h3
      simp [h3]
    have szc : ns.length * 3 ≤ cur.size := by rw [hcs]; exact Nat.mul_le_mul_right _ hc
    have S0 : MkSt w w g cur.size k ns (fun j => cur[j]?.getD undef) fv 0 B := ⟨R0.congr (fun i _ => (mkF_zero k ns (fun j => cur[j]?.getD undef) i).symm), fun j hj => by omega, fun j _ hj => hf j hj, Grew.refl _ _⟩
    have HA : Hid (∀ i j, i < ns.length → j < ns.length → i ≠ j → ∀ b, (fv i).ownBlock = some b → (fv j).ownBlock ≠ some b) := ha
    have TG : Hid (∀ i, i < ns.length → (fv i).ownBlock ≠ some g) := fun i hi => type_ne ho (hf i hi) (by decide) rfl
    have SH : Hid (∀ i, i < ns.length → ∃ ao c, fv i = .slice ao (ns.getD i nd0).fl.length c) := fun i hi => own_shape (hf i hi)
    generalize hff : (fun j : Nat => cur[j]?.getD undef) = f at *
    generalize cur.size = N at *
    clear ho ht hf ha hh hcs htk hff R0
    go_enter Try.func28, Try.ntmps28
    go_wp2
    go_loopw [1, 5] (fun kv iv wr => ∃ i : Nat, i ≤ ns.length ∧ iv = .int .i64 i ∧ kv = .int .i64 (mkK k ns i) ∧ MkSt w wr g N k ns f fv i B) (fun _ iv _ => ns.length - (intOf iv).toNat)
    case atStart => exact ⟨0, Nat.zero_le _, rfl, by rw [mkK_zero], S0⟩
    case round =>
      clear S0
      obtain ⟨i, hi, rfl, rfl, S⟩ := hrel
      by_cases hil : i < ns.length
      · have q0 := S.row.cell (i := i * 3) (by omega)
        have q1 := S.row.cell (i := i * 3 + 1) (by omega)
        have fz0 := S.row.frozen (i * 3)
        have fz1 := S.row.frozen (i * 3 + 1)
        have R2 := mkF_next S.row
        have q2 : ((wr.setCell ⟨g, i * 3, none⟩ (.int .i64 (mkK k ns i))).setCell ⟨g, i * 3 + 1, none⟩ (.int .i64 (mkK k ns i + 1))).cell? ⟨g, i * 3 + 2, none⟩ = some (fv i) := by
          rw [R2.cell (by omega)]
          unfold mkF
          rw [if_neg (by omega), if_neg (by omega), FV.out i hil]
        have q1' : (wr.setCell ⟨g, i * 3, none⟩ (.int .i64 (mkK k ns i))).cell? ⟨g, i * 3 + 1, none⟩ = some (mkF k ns f i (i * 3 + 1)) := by
          rw [World.cell?_setCell_other _ _ _ _ (by simp)]
          exact q1
        have fz1' : (wr.setCell ⟨g, i * 3, none⟩ (.int .i64 (mkK k ns i))).frozen? ⟨g, i * 3 + 1, none⟩ = false := ((S.row.set (i * 3) (.int .i64 (mkK k ns i)))).frozen (i * 3 + 1)
        have G2 : Grew wr ((wr.setCell ⟨g, i * 3, none⟩ (.int .i64 (mkK k ns i))).setCell ⟨g, i * 3 + 1, none⟩ (.int .i64 (mkK k ns i + 1))) (fun b => b = g) := (Grew.set _ _ _ _).trans (Grew.set _ _ _ _)
        have O2 : ∀ j, i ≤ j → j < ns.length → ((wr.setCell ⟨g, i * 3, none⟩ (.int .i64 (mkK k ns i))).setCell ⟨g, i * 3 + 1, none⟩ (.int .i64 (mkK k ns i + 1))).ownsRow B 2 1 (fv j) (ns.getD j nd0).fl.length (icells (ns.getD j nd0).fl) := fun j h1 h2 => G2.own (S.left j h1 h2) (fun b e q => TG.out j h2 (by rw [e, q]))
        have D2 : ∀ j, j < i → IR ((wr.setCell ⟨g, i * 3, none⟩ (.int .i64 (mkK k ns i))).setCell ⟨g, i * 3 + 1, none⟩ (.int .i64 (mkK k ns i + 1))) (fv j) (imarks (mkK k ns j + 2) (ns.getD j nd0).fl.length) := fun j hj => G2.ir (S.done j hj) (fun b e q => by
          obtain ⟨ao, c, es⟩ := SH.out j (by omega)
          exact TG.out j (by omega) (by rw [← q]; exact inB_own' es e))
        have W2 := S.grew.trans (G2.mono fun b _ e => .inl e)
        generalize hw2 : (wr.setCell ⟨g, i * 3, none⟩ (.int .i64 (mkK k ns i))).setCell ⟨g, i * 3 + 1, none⟩ (.int .i64 (mkK k ns i + 1)) = w2 at q2 R2 O2 D2 W2 G2
        obtain ⟨b1, b2⟩ := mkK_bounds k ns i hi
        have KS := mkK_succ k ns i hil
        obtain ⟨b3, b4⟩ := mkK_bounds k ns (i + 1) hil
        obtain ⟨ao, c, es⟩ := SH.out i hil
        have MK := markInt64S_any (fv i) (ns.getD i nd0).fl.length (mkK k ns i + 2) w2 (OS_of_owns (O2 i (Nat.le_refl _) hil)) ⟨ao, c, es, by
          obtain ⟨_, _, e3, hcap, _⟩ := own_cell (O2 i (Nat.le_refl _) hil)
          rw [es] at e3
          simp only [Value.slice.injEq] at e3
          omega⟩ (by omega) (by omega)
        have FIN : Hid (∀ w3, w2.grownBy w3 (Disk.rowOf (fv i) (ns.getD i nd0).fl.length) → IR w3 (fv i) (imarks (mkK k ns i + 2) (ns.getD i nd0).fl.length) → MkSt w w3 g N k ns f fv (i + 1) B) := fun w3 g3 m3 => by
          have G3 : Grew w2 w3 (fun b => (fv i).ownBlock = some b) := (Grew.grown g3).mono fun b _ e => rowOf_own e
          refine ⟨G3.row R2 (TG.out i hil), fun j hj => ?_, fun j h1 h2 => G3.own (O2 j (by omega) h2) (fun b e q => HA.out j i h2 hil (by omega) b e q), W2.trans (G3.mono fun b _ e => .inr ⟨i, hil, e⟩)⟩
          by_cases e : j = i
          · subst e; exact m3
          · obtain ⟨ao', c', es'⟩ := SH.out j (by omega)
            exact G3.ir (D2 j (by omega)) (fun b k q => HA.out j i (by omega) hil e b (inB_own' es' k) q)
        have KE : Hid (∀ y, y = mkK k ns i + 2 + ((ns.getD i nd0).fl.length : Int) → y = mkK k ns (i + 1)) := fun y e => by rw [e, KS]
        clear S R2 G2 O2 D2 W2 b3 b4 KS q1 fz1 es
        generalize (ns.getD i nd0).fl.length = m at *
        generalize mkF k ns f i (i * 3) = z0 at *
        generalize mkF k ns f i (i * 3 + 1) = z1 at *
        generalize mkK k ns i = x at *
        have hii : (i : Int) < ns.length := by omega
        have e3 : x + 1 + 1 = x + 2 := by omega
        generalize fv i = fi at *
        go_wp2_with fail
        refine MK.mono ?_
        rintro e w3 ⟨rfl, g3, m3⟩
        have SF := FIN.out w3 g3 m3
        go_wp2
        exact ⟨⟨i + 1, by omega, by go_num, congrArg (Value.int .i64) (KE.out _ rfl), SF⟩, by simp [intOf]; omega⟩
      · obtain rfl : i = ns.length := by omega
        have G : Hid (NR wr (.slice (some ⟨g, 0, none⟩) ns.length cap) (nmk k ns) ∧ Grew w wr (fun b => Value.ownBlock (.slice (some ⟨g, 0, none⟩) ns.length cap) = some b ∨ ∃ j, j < ns.length ∧ (fv j).ownBlock = some b)) := by
          refine ⟨⟨_, cap, by rw [nmk_length], by rw [nmk_length]; exact hc, fun j hj => ?_⟩, S.grew.mono fun b _ e => e.imp (fun e => by rw [e]; rfl) id⟩
          rw [nmk_length] at hj
          rw [nmk_get k ns j hj]
          obtain ⟨ao, c, es⟩ := SH.out j hj
          refine ⟨g, 0, ao, (ns.getD j nd0).fl.length, c, rfl, ?_, ?_, ?_, by rw [← es]; exact S.done j hj⟩
          · rw [Nat.zero_add, S.row.cell (by omega)]
            unfold mkF
            rw [if_pos (by omega), show j * 3 / 3 = j from by omega]
          · rw [Nat.zero_add, S.row.cell (by omega)]
            unfold mkF
            rw [if_neg (by omega), if_pos (by omega), show (j * 3 + 1) / 3 = j from by omega]
          · rw [Nat.zero_add, S.row.cell (by omega)]
            unfold mkF
            rw [if_neg (by omega), if_neg (by omega), FV.out j hj, es]
        clear S
        go_wp2
        go_ret
        exact ⟨⟨rfl, G.out.1⟩, G.out.2⟩

end Go.Proofs.Ytabkiihlafhanaa
