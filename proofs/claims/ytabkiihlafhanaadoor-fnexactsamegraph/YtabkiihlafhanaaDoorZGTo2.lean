/- toNode, toNodeS and toGraph of the laws. -/
import Derived.Test.YtabkiihlafhanaaDoorZGTo
import Derived.Laws.MakeOwn
namespace Go.Proofs.YtabkiihlafhanaaDoor
open Go.RowKit

def nodF (c z : Value) (f : Value) (i : Nat) : Value := if i = 0 then c else if i = 1 then z else f
theorem nod_row (w : World) (c z f : Value) (t : TypeId) : (w.alloc (.cells #[c, z, f] t)).rowIs w.heap.size t 3 (nodF c z f) :=
  World.rowIs_alloc w #[c, z, f] t _ (fun i hi => by
    match i, hi with
    | 0, _ => rfl
    | 1, _ => rfl
    | 2, _ => rfl)
theorem nod_set {w : World} {b t : Nat} {c z f : Value} (h : w.rowIs b t 3 (nodF c z f)) (i : Nat) (u : Value) (hi : i < 3) : (w.setCell ⟨b, i, none⟩ u).rowIs b t 3 (nodF (if i = 0 then u else c) (if i = 1 then u else z) (if i = 2 then u else f)) :=
  (h.set i u).congr fun j hj => by
    unfold nodF
    match i, hi, j, hj with
    | 0, _, 0, _ => rfl
    | 0, _, 1, _ => rfl
    | 0, _, 2, _ => rfl
    | 1, _, 0, _ => rfl
    | 1, _, 1, _ => rfl
    | 1, _, 2, _ => rfl
    | 2, _, 0, _ => rfl
    | 2, _, 1, _ => rfl
    | 2, _, 2, _ => rfl

set_option maxHeartbeats 1600000 in
theorem toNode_any (c z : Int) (v : Value) (fl : List Int) (w : World) (hv : IR w v fl) (h1 : fl.length ≤ 1000000000) :
    Calls Tryd.prog 20 #[.agg #[.int .i64 c, .int .i64 z, v]] w fun e w' => (∃ fa fc, e = .returned (.agg #[.int .i64 c, .int .i64 z, .slice fa fl.length fc]) ∧ w'.ownsRow w.heap.size 2 1 (.slice fa fl.length fc) fl.length (icells fl)) ∧ Below w.heap.size w w' := by
  obtain ⟨ao, cap, rfl, _, _⟩ := id hv
  have b0 := bel_one w (.cells #[.int .i64 c, .int .i64 z, .slice ao fl.length cap] 44)
  have b1 := bel_one (w.alloc (.cells #[.int .i64 c, .int .i64 z, .slice ao fl.length cap] 44)) (.cells #[.int .i64 0, .int .i64 0, .slice none 0 0] 37)
  have b2 := bel_one ((w.alloc (.cells #[.int .i64 c, .int .i64 z, .slice ao fl.length cap] 44)).alloc (.cells #[.int .i64 0, .int .i64 0, .slice none 0 0] 37)) (.cells #[.int .i64 0, .int .i64 0, .slice none 0 0] 37)
  have A0 := ((nod_row w (.int .i64 c) (.int .i64 z) (.slice ao fl.length cap) 44).of_block (b1.block _ (by simp))).of_block (b2.block _ (by simp; omega))
  have A1 := nod_row (w.alloc (.cells #[.int .i64 c, .int .i64 z, .slice ao fl.length cap] 44)) (.int .i64 0) (.int .i64 0) (.slice none 0 0) 37
  have A2 := nod_row ((w.alloc (.cells #[.int .i64 c, .int .i64 z, .slice ao fl.length cap] 44)).alloc (.cells #[.int .i64 0, .int .i64 0, .slice none 0 0] 37)) (.int .i64 0) (.int .i64 0) (.slice none 0 0) 37
  have A1' := A1.of_block (b2.block _ A1.lt)
  rw [World.size_alloc] at A1'
  rw [World.size_alloc, World.size_alloc] at A2
  have bb := bel_after (bel_after b0 b1) b2
  have sz : (((w.alloc (.cells #[.int .i64 c, .int .i64 z, .slice ao fl.length cap] 44)).alloc (.cells #[.int .i64 0, .int .i64 0, .slice none 0 0] 37)).alloc (.cells #[.int .i64 0, .int .i64 0, .slice none 0 0] 37)).heap.size = w.heap.size + 1 + 1 + 1 := by simp
  generalize hW : (((w.alloc (.cells #[.int .i64 c, .int .i64 z, .slice ao fl.length cap] 44)).alloc (.cells #[.int .i64 0, .int .i64 0, .slice none 0 0] 37)).alloc (.cells #[.int .i64 0, .int .i64 0, .slice none 0 0] 37)) = W at *
  have S1 := nod_set A2 0 (.int .i64 c) (by omega)
  have S2 := nod_set S1 1 (.int .i64 z) (by omega)
  have G2 : Grew W ((W.setCell ⟨w.heap.size + 1 + 1, 0, none⟩ (.int .i64 c)).setCell ⟨w.heap.size + 1 + 1, 1, none⟩ (.int .i64 z)) (fun k => k = w.heap.size + 1 + 1) := (Grew.set _ _ _ _).trans (Grew.set _ _ _ _)
  have B2 : Below w.heap.size w ((W.setCell ⟨w.heap.size + 1 + 1, 0, none⟩ (.int .i64 c)).setCell ⟨w.heap.size + 1 + 1, 1, none⟩ (.int .i64 z)) := bb.trans (G2.below (by omega) fun b _ e => by omega)
  have A02 := G2.row A0 (by omega)
  have A12 := G2.row A1' (by omega)
  have T := gtoInts_any (.slice ao fl.length cap) fl _ (hv.later B2) (by omega)
  have x0 : W.cell? ⟨w.heap.size, 0, none⟩ = some (.int .i64 c) := A0.cell (i := 0) (by omega)
  have y0 : W.cell? ⟨w.heap.size + 1 + 1, 0, none⟩ = some (.int .i64 0) := A2.cell (i := 0) (by omega)
  have f0 := A2.frozen 0
  have x1 : (W.setCell ⟨w.heap.size + 1 + 1, 0, none⟩ (.int .i64 c)).cell? ⟨w.heap.size, 1, none⟩ = some (.int .i64 z) := ((Grew.set W (w.heap.size + 1 + 1) 0 (.int .i64 c)).row A0 (by omega)).cell (i := 1) (by omega)
  have y1 : (W.setCell ⟨w.heap.size + 1 + 1, 0, none⟩ (.int .i64 c)).cell? ⟨w.heap.size + 1 + 1, 1, none⟩ = some (.int .i64 0) := S1.cell (i := 1) (by omega)
  have f1 := S1.frozen 1
  have x2 : ((W.setCell ⟨w.heap.size + 1 + 1, 0, none⟩ (.int .i64 c)).setCell ⟨w.heap.size + 1 + 1, 1, none⟩ (.int .i64 z)).cell? ⟨w.heap.size, 2, none⟩ = some (.slice ao fl.length cap) := A02.cell (i := 2) (by omega)
  have z2 : ((W.setCell ⟨w.heap.size + 1 + 1, 0, none⟩ (.int .i64 c)).setCell ⟨w.heap.size + 1 + 1, 1, none⟩ (.int .i64 z)).heap.size = w.heap.size + 1 + 1 + 1 := by simp [World.setCell, sz]
  generalize hV : (W.setCell ⟨w.heap.size + 1 + 1, 0, none⟩ (.int .i64 c)).setCell ⟨w.heap.size + 1 + 1, 1, none⟩ (.int .i64 z) = V at S2 B2 A12 T x2 z2
  clear A0 A1 A1' A2 S1 G2 A02 b0 b1 b2 bb hv
  go_enter Tryd.func20, Tryd.ntmps20
  go_wp2_with fail
  refine T.mono ?_
  rintro e w3 ⟨⟨f, rfl, ho⟩, hb3⟩
  obtain ⟨fa, fc', hfv⟩ := own_shape ho
  subst hfv
  have Q2 := S2.of_block (hb3.block _ S2.lt)
  have Q1 := A12.of_block (hb3.block _ A12.lt)
  have R2 := nod_set Q2 2 (.slice fa fl.length fc') (by omega)
  have Q1' := (Grew.set w3 (w.heap.size + 1 + 1) 2 (.slice fa fl.length fc')).row Q1 (by omega)
  have y2 : w3.cell? ⟨w.heap.size + 1 + 1, 2, none⟩ = some (.slice none 0 0) := Q2.cell (i := 2) (by omega)
  have f2 := Q2.frozen 2
  have r0 : (w3.setCell ⟨w.heap.size + 1 + 1, 2, none⟩ (.slice fa fl.length fc')).cell? ⟨w.heap.size + 1 + 1, 0, none⟩ = some (.int .i64 c) := R2.cell (i := 0) (by omega)
  have r1 : (w3.setCell ⟨w.heap.size + 1 + 1, 2, none⟩ (.slice fa fl.length fc')).cell? ⟨w.heap.size + 1 + 1, 1, none⟩ = some (.int .i64 z) := R2.cell (i := 1) (by omega)
  have r2 : (w3.setCell ⟨w.heap.size + 1 + 1, 2, none⟩ (.slice fa fl.length fc')).cell? ⟨w.heap.size + 1 + 1, 2, none⟩ = some (.slice fa fl.length fc') := R2.cell (i := 2) (by omega)
  have s0 : (w3.setCell ⟨w.heap.size + 1 + 1, 2, none⟩ (.slice fa fl.length fc')).cell? ⟨w.heap.size + 1, 0, none⟩ = some (.int .i64 0) := Q1'.cell (i := 0) (by omega)
  have s1 : (w3.setCell ⟨w.heap.size + 1 + 1, 2, none⟩ (.slice fa fl.length fc')).cell? ⟨w.heap.size + 1, 1, none⟩ = some (.int .i64 0) := Q1'.cell (i := 1) (by omega)
  have s2 : (w3.setCell ⟨w.heap.size + 1 + 1, 2, none⟩ (.slice fa fl.length fc')).cell? ⟨w.heap.size + 1, 2, none⟩ = some (.slice none 0 0) := Q1'.cell (i := 2) (by omega)
  have g0 := Q1'.frozen 0
  have g1 := Q1'.frozen 1
  have g2 := Q1'.frozen 2
  have G : Grew w3 ((((w3.setCell ⟨w.heap.size + 1 + 1, 2, none⟩ (.slice fa fl.length fc')).setCell ⟨w.heap.size + 1, 0, none⟩ (.int .i64 c)).setCell ⟨w.heap.size + 1, 1, none⟩ (.int .i64 z)).setCell ⟨w.heap.size + 1, 2, none⟩ (.slice fa fl.length fc')) (fun k => k = w.heap.size + 1 + 1 ∨ k = w.heap.size + 1) := ((((Grew.set _ _ _ _).mono fun b _ e => .inl e).trans ((Grew.set _ _ _ _).mono fun b _ e => .inr e)).trans ((Grew.set _ _ _ _).mono fun b _ e => .inr e)).trans ((Grew.set _ _ _ _).mono fun b _ e => .inr e)
  have fin := G.own ho (fun b e q => by have := (ho.lt b e).1; omega)
  have bfin := (B2.trans (hb3.mono (by omega))).trans (G.below (by have := hb3.size; omega) fun b _ e => by omega)
  have FIN : Hid (((((w3.setCell ⟨w.heap.size + 1 + 1, 2, none⟩ (.slice fa fl.length fc')).setCell ⟨w.heap.size + 1, 0, none⟩ (.int .i64 c)).setCell ⟨w.heap.size + 1, 1, none⟩ (.int .i64 z)).setCell ⟨w.heap.size + 1, 2, none⟩ (.slice fa fl.length fc')).ownsRow w.heap.size 2 1 (.slice fa fl.length fc') fl.length (icells fl) ∧ Below w.heap.size w ((((w3.setCell ⟨w.heap.size + 1 + 1, 2, none⟩ (.slice fa fl.length fc')).setCell ⟨w.heap.size + 1, 0, none⟩ (.int .i64 c)).setCell ⟨w.heap.size + 1, 1, none⟩ (.int .i64 z)).setCell ⟨w.heap.size + 1, 2, none⟩ (.slice fa fl.length fc'))) := ⟨gown_mono fin (by omega), bfin⟩
  clear fin bfin G R2 Q1 Q2 Q1' ho
  go_wp2
  exact bodyPost_ret (v := .agg #[.int .i64 c, .int .i64 z, .slice fa fl.length fc']) (by simp [results, Tryd.results20, go_sem, s0, s1, s2]) rfl ⟨⟨_, _, rfl, FIN.out.1⟩, FIN.out.2⟩

/-- The cells of a row of nodes, by their places. -/
def tnC (ns : List Nd) (fv : Nat → Value) (j : Nat) : Value := if j % 3 = 0 then .int .i64 (ns.getD (j / 3) nd0).cls else if j % 3 = 1 then .int .i64 (ns.getD (j / 3) nd0).hash else fv (j / 3)
def tnF (ns : List Nd) (fv : Nat → Value) (f : Nat → Value) (i j : Nat) : Value := if j < i * 3 then tnC ns fv j else f j
theorem tn_next {w : World} {g t N i : Nat} {ns : List Nd} {fv f : Nat → Value} (h : w.rowIs g t N (tnF ns fv f i)) (u : Value) :
    (((w.setCell ⟨g, i * 3, none⟩ (.int .i64 (ns.getD i nd0).cls)).setCell ⟨g, i * 3 + 1, none⟩ (.int .i64 (ns.getD i nd0).hash)).setCell ⟨g, i * 3 + 2, none⟩ u).rowIs g t N (tnF ns (fun j => if j = i then u else fv j) f (i + 1)) := by
  refine (((h.set (i * 3) _).set (i * 3 + 1) _).set (i * 3 + 2) _).congr fun j _ => ?_
  unfold tnF tnC
  by_cases e2 : j = i * 3 + 2
  · subst e2
    rw [if_pos rfl, if_pos (by omega), if_neg (by omega), if_neg (by omega)]
    show u = if (i * 3 + 2) / 3 = i then u else fv ((i * 3 + 2) / 3)
    rw [if_pos (by omega)]
  · rw [if_neg e2]
    by_cases e1 : j = i * 3 + 1
    · subst e1
      rw [if_pos rfl, if_pos (by omega), if_neg (by omega), if_pos (by omega), show (i * 3 + 1) / 3 = i from by omega]
    · rw [if_neg e1]
      by_cases e0 : j = i * 3
      · subst e0
        rw [if_pos rfl, if_pos (by omega), if_pos (by omega), show i * 3 / 3 = i from by omega]
      · rw [if_neg e0]
        by_cases hl : j < i * 3
        · have hl2 : j < (i + 1) * 3 := by omega
          rw [if_pos hl, if_pos hl2]
          have : ¬ j / 3 = i := by omega
          simp only [this, if_false]
        · rw [if_neg hl, if_neg (by omega)]
theorem tn_own {w : World} {g n : Nat} {ns : List Nd} {fv f : Nat → Value} {B : Nat} (hn : ns.length = n) (h : w.rowIs g 37 (n * 3) (tnF ns fv f n)) (hm : n ≤ 1000000000) (hB : B ≤ g) (hf : ∀ i, i < n → w.ownsRow B 2 1 (fv i) (ns.getD i nd0).fl.length (icells (ns.getD i nd0).fl)) (ha : ∀ i j, i < n → j < n → i ≠ j → ∀ b, (fv i).ownBlock = some b → (fv j).ownBlock ≠ some b) :
    NOwn B w (.slice (some ⟨g, 0, none⟩) n n) ns fv := by
  subst hn
  refine ⟨(List.range (ns.length * 3)).map (tnC ns fv), own_of_row h (by unfold maxLen; omega) hB (by simp) (fun i hi => ?_), ⟨by simp, fun i hi => ⟨?_, ?_, ?_⟩⟩, hf, ha⟩
  · unfold tnF
    rw [if_pos hi]
    simp [hi]
  · have q : i * 3 < ns.length * 3 := by omega
    simp only [List.getElem?_map, List.getElem?_range q, Option.map_some]
    unfold tnC
    rw [if_pos (by omega), show i * 3 / 3 = i from by omega]
  · have q : i * 3 + 1 < ns.length * 3 := by omega
    simp only [List.getElem?_map, List.getElem?_range q, Option.map_some]
    unfold tnC
    rw [if_neg (by omega), if_pos (by omega), show (i * 3 + 1) / 3 = i from by omega]
  · have q : i * 3 + 2 < ns.length * 3 := by omega
    simp only [List.getElem?_map, List.getElem?_range q, Option.map_some]
    unfold tnC
    rw [if_neg (by omega), if_neg (by omega), show (i * 3 + 2) / 3 = i from by omega]

theorem Tryd.infoNn : (Tryd.prog.info? 37).map (fun i => (i.zero, i.size, i.bytes)) = some (some (.agg #[.int .i64 0, .int .i64 0, .slice none 0 0]), 3, 40) := by kernel_rfl
theorem make_nodesN (n : Nat) (hn : n ≤ 1000000000) (w : World) : ∃ C : Array Value, C.size = n * 3 ∧ (Instr.makeSlice 28 (.int .i64 (n : Int)) (.int .i64 (n : Int))).run Tryd.prog w = .ok (.slice (some ⟨w.heap.size, 0, none⟩) n n) (w.alloc (.cells C 37)) := by
  obtain ⟨i, hi, hzz⟩ := Option.map_eq_some_iff.1 Tryd.infoNn
  simp only [Prod.mk.injEq] at hzz
  obtain ⟨hz, hsz, hby⟩ := hzz
  have h := run_make (P := Tryd.prog) w 28 37 i _ Tryd.underlying28 hi hz .i64 .i64 (n : Int) (n : Int) (by omega) (Int.le_refl _) (by rw [hby]; omega) (by omega)
  simp only [Int.toNat_natCast] at h
  exact ⟨_, by rw [size_madeCells, hsz], h⟩

set_option maxRecDepth 100000 in
set_option maxHeartbeats 1600000 in
theorem toNodeS_any (v : Value) (ns : List Nd) (w : World) (hv : NR w v ns) (h1 : ns.length ≤ 1000000000) (h2 : ∀ n, n ∈ ns → n.fl.length ≤ 1000000000) :
    Calls Tryd.prog 13 #[v] w fun e w' => (∃ fv, e = .returned (.slice (some ⟨w.heap.size, 0, none⟩) ns.length ns.length) ∧ NOwn w.heap.size w' (.slice (some ⟨w.heap.size, 0, none⟩) ns.length ns.length) ns fv) ∧ Below w.heap.size w w' := by
  obtain ⟨va, vc, rfl, _, hvc⟩ := hv
  obtain ⟨C, hC, hmk⟩ := make_nodesN ns.length h1 w
  have R0 := row_any w C 37
  rw [hC] at R0
  have HR : Hid ((w.alloc (.cells C 37)).rowIs w.heap.size 37 (ns.length * 3) (tnF ns (fun _ => .slice none 0 0) (fun i => C[i]?.getD undef) 0)) := R0.congr fun i _ => by unfold tnF; rw [if_neg (by omega)]
  have hb0 := bel_one w (.cells C 37)
  clear R0
  generalize hf : (fun i : Nat => C[i]?.getD undef) = f at *
  go_enter Tryd.func13, Tryd.ntmps13
  go_wp2
  go_loopw [4] (fun iv wr => ∃ (i : Nat) (fv : Nat → Value), i ≤ ns.length ∧ iv = .int .i64 i ∧ wr.rowIs w.heap.size 37 (ns.length * 3) (tnF ns fv f i) ∧ (∀ j, j < i → wr.ownsRow (w.heap.size + 1) 2 1 (fv j) (ns.getD j nd0).fl.length (icells (ns.getD j nd0).fl)) ∧ (∀ a b, a < i → b < i → a ≠ b → ∀ c, (fv a).ownBlock = some c → (fv b).ownBlock ≠ some c) ∧ Below w.heap.size w wr) (fun iv _ => ns.length - (intOf iv).toNat)
  case atStart => exact ⟨0, _, Nat.zero_le _, rfl, HR.out, fun j hj => absurd hj (by omega), fun a b ha => absurd ha (by omega), hb0⟩
  case round =>
    obtain ⟨i, fv, hi, rfl, hrow, hown, hap, hb⟩ := hrel
    by_cases hil : i < ns.length
    · obtain ⟨vb, vo, fa, fn, fc, rfl, c0, c1, c2, cr⟩ := hvc i hil
      have e0 := cell_later hb c0
      have e1 := cell_later hb c1
      have e2 := cell_later hb c2
      have hii : (i : Int) < ns.length := by omega
      have TN := toNode_any (ns.getD i nd0).cls (ns.getD i nd0).hash (.slice fa fn fc) (ns.getD i nd0).fl wr (cr.later hb) (h2 _ (by simp [hil]))
      have NX : Hid (∀ (w2 : World) ga gc, w2.ownsRow wr.heap.size 2 1 (.slice ga (ns.getD i nd0).fl.length gc) (ns.getD i nd0).fl.length (icells (ns.getD i nd0).fl) → Below wr.heap.size wr w2 → (w2.rowIs w.heap.size 37 (ns.length * 3) (tnF ns fv f i)) ∧
        (let W := ((w2.setCell ⟨w.heap.size, i * 3, none⟩ (.int .i64 (ns.getD i nd0).cls)).setCell ⟨w.heap.size, i * 3 + 1, none⟩ (.int .i64 (ns.getD i nd0).hash)).setCell ⟨w.heap.size, i * 3 + 2, none⟩ (.slice ga (ns.getD i nd0).fl.length gc)
         ∃ fv', W.rowIs w.heap.size 37 (ns.length * 3) (tnF ns fv' f (i + 1)) ∧ (∀ j, j < i + 1 → W.ownsRow (w.heap.size + 1) 2 1 (fv' j) (ns.getD j nd0).fl.length (icells (ns.getD j nd0).fl)) ∧ (∀ a b, a < i + 1 → b < i + 1 → a ≠ b → ∀ c, (fv' a).ownBlock = some c → (fv' b).ownBlock ≠ some c) ∧ Below w.heap.size w W)) := fun w2 ga gc ho2 hb2 => by
        have r2 := hrow.of_block (hb2.block _ hrow.lt)
        have glt := hrow.lt
        refine ⟨r2, fun j => if j = i then .slice ga (ns.getD i nd0).fl.length gc else fv j, tn_next r2 _, fun j hj => ?_, fun a b ha hb' ne c e => ?_, ?_⟩
        · have G : Grew w2 (((w2.setCell ⟨w.heap.size, i * 3, none⟩ (.int .i64 (ns.getD i nd0).cls)).setCell ⟨w.heap.size, i * 3 + 1, none⟩ (.int .i64 (ns.getD i nd0).hash)).setCell ⟨w.heap.size, i * 3 + 2, none⟩ (.slice ga (ns.getD i nd0).fl.length gc)) (fun k => k = w.heap.size) := ((Grew.set _ _ _ _).trans (Grew.set _ _ _ _)).trans (Grew.set _ _ _ _)
          dsimp only
          by_cases e : j = i
          · subst e
            rw [if_pos rfl]
            exact gown_mono (G.own ho2 (fun b e q => by have := (ho2.lt b e).1; omega)) (by omega)
          · rw [if_neg e]
            exact G.own (own_later (hown j (by omega)) hb2) (fun b e q => by have := ((hown j (by omega)).lt b e).1; omega)
        · dsimp only at e ⊢
          by_cases ea : a = i
          · rw [if_pos ea] at e
            rw [if_neg (by omega)]
            intro q
            have h1 := (ho2.lt c e).1
            have h2 := ((hown b (by omega)).lt c q).2
            omega
          · rw [if_neg ea] at e
            by_cases eb : b = i
            · rw [if_pos eb]
              intro q
              have h1 := (ho2.lt c q).1
              have h2 := ((hown a (by omega)).lt c e).2
              omega
            · rw [if_neg eb]
              exact hap a b (by omega) (by omega) ne c e
        · have G : Grew w2 (((w2.setCell ⟨w.heap.size, i * 3, none⟩ (.int .i64 (ns.getD i nd0).cls)).setCell ⟨w.heap.size, i * 3 + 1, none⟩ (.int .i64 (ns.getD i nd0).hash)).setCell ⟨w.heap.size, i * 3 + 2, none⟩ (.slice ga (ns.getD i nd0).fl.length gc)) (fun k => k = w.heap.size) := ((Grew.set _ _ _ _).trans (Grew.set _ _ _ _)).trans (Grew.set _ _ _ _)
          exact (hb.trans (hb2.mono hb.size)).trans (G.below (by have := hb2.size; omega) fun b _ e => by omega)
      clear c0 c1 c2 cr hvc h2 hrow hown hap hmk HR
      generalize (ns.getD i nd0).cls = x0 at *
      generalize (ns.getD i nd0).hash = x1 at *
      go_wp2_with fail
      refine TN.mono ?_
      rintro e w2 ⟨⟨ga, gc, rfl, ho2⟩, hb2⟩
      obtain ⟨r2, fv', q1, q2, q3, q4⟩ := NX.out w2 ga gc ho2 hb2
      have HF : Hid (∃ fv' : Nat → Value, (((w2.setCell ⟨w.heap.size, i * 3, none⟩ (.int .i64 x0)).setCell ⟨w.heap.size, i * 3 + 1, none⟩ (.int .i64 x1)).setCell ⟨w.heap.size, i * 3 + 2, none⟩ (.slice ga (ns.getD i nd0).fl.length gc)).rowIs w.heap.size 37 (ns.length * 3) (tnF ns fv' f (i + 1)) ∧ (∀ j, j < i + 1 → (((w2.setCell ⟨w.heap.size, i * 3, none⟩ (.int .i64 x0)).setCell ⟨w.heap.size, i * 3 + 1, none⟩ (.int .i64 x1)).setCell ⟨w.heap.size, i * 3 + 2, none⟩ (.slice ga (ns.getD i nd0).fl.length gc)).ownsRow (w.heap.size + 1) 2 1 (fv' j) (ns.getD j nd0).fl.length (icells (ns.getD j nd0).fl)) ∧ (∀ a b, a < i + 1 → b < i + 1 → a ≠ b → ∀ c, (fv' a).ownBlock = some c → (fv' b).ownBlock ≠ some c) ∧ Below w.heap.size w (((w2.setCell ⟨w.heap.size, i * 3, none⟩ (.int .i64 x0)).setCell ⟨w.heap.size, i * 3 + 1, none⟩ (.int .i64 x1)).setCell ⟨w.heap.size, i * 3 + 2, none⟩ (.slice ga (ns.getD i nd0).fl.length gc))) := ⟨fv', q1, q2, q3, q4⟩
      have z0 := r2.cell (i := i * 3) (by omega)
      have z1 := r2.cell (i := i * 3 + 1) (by omega)
      have z2 := r2.cell (i := i * 3 + 2) (by omega)
      have f0 := r2.frozen (i * 3)
      have f1 := r2.frozen (i * 3 + 1)
      have f2 := r2.frozen (i * 3 + 2)
      generalize tnF ns fv f i (i * 3) = v0 at *
      generalize tnF ns fv f i (i * 3 + 1) = v1 at *
      generalize tnF ns fv f i (i * 3 + 2) = v2 at *
      clear NX r2 q1 q2 q3 q4 ho2 TN
      generalize (ns.getD i nd0).fl.length = m at *
      go_wp2
      obtain ⟨fv'', s1, s2, s3, s4⟩ := HF.out
      exact ⟨⟨i + 1, fv'', by omega, by go_num, s1, s2, s3, s4⟩, by simp [intOf]; omega⟩
    · obtain rfl : i = ns.length := by omega
      have NW := tn_own (B := w.heap.size) rfl hrow h1 (Nat.le_refl _) (fun j hj => gown_mono (hown j hj) (by omega)) hap
      have HN : Hid (NOwn w.heap.size wr (.slice (some ⟨w.heap.size, 0, none⟩) ns.length ns.length) ns fv) := NW
      clear hvc h2 hil NW hrow hown hap hmk HR
      go_wp2
      go_ret
      exact ⟨⟨fv, rfl, HN.out⟩, hb⟩

set_option maxRecDepth 100000 in
set_option maxHeartbeats 1600000 in
theorem toGraph_any (v : Value) (g : Gr) (w : World) (hv : GR w v g) (h0 : g.roots.length ≤ 1000000000) (h1 : g.nodes.length ≤ 1000000000) (h2 : ∀ n, n ∈ g.nodes → n.fl.length ≤ 1000000000) :
    Calls Tryd.prog 6 #[v] w fun e w' => (∃ v', e = .returned v' ∧ GN w.heap.size w' v' g) ∧ Below w.heap.size w w' := by
  obtain ⟨ra, rc, na, nc, rfl, hr, hn⟩ := hv.out
  have b0 := bel_one w (.cells #[.slice ra g.roots.length rc, .slice na g.nodes.length nc, .int .i64 g.hash] 25)
  have b1 := bel_one (w.alloc (.cells #[.slice ra g.roots.length rc, .slice na g.nodes.length nc, .int .i64 g.hash] 25)) (.cells #[.slice none 0 0, .slice none 0 0, .int .i64 0] 30)
  have b2 := bel_one ((w.alloc (.cells #[.slice ra g.roots.length rc, .slice na g.nodes.length nc, .int .i64 g.hash] 25)).alloc (.cells #[.slice none 0 0, .slice none 0 0, .int .i64 0] 30)) (.cells #[.slice none 0 0, .slice none 0 0, .int .i64 0] 30)
  have A0 := ((nod_row w (.slice ra g.roots.length rc) (.slice na g.nodes.length nc) (.int .i64 g.hash) 25).of_block (b1.block _ (by simp))).of_block (b2.block _ (by simp; omega))
  have A1 := nod_row (w.alloc (.cells #[.slice ra g.roots.length rc, .slice na g.nodes.length nc, .int .i64 g.hash] 25)) (.slice none 0 0) (.slice none 0 0) (.int .i64 0) 30
  have A2 := nod_row ((w.alloc (.cells #[.slice ra g.roots.length rc, .slice na g.nodes.length nc, .int .i64 g.hash] 25)).alloc (.cells #[.slice none 0 0, .slice none 0 0, .int .i64 0] 30)) (.slice none 0 0) (.slice none 0 0) (.int .i64 0) 30
  have A1' := A1.of_block (b2.block _ A1.lt)
  rw [World.size_alloc] at A1'
  rw [World.size_alloc, World.size_alloc] at A2
  have bb := bel_after (bel_after b0 b1) b2
  have sz : (((w.alloc (.cells #[.slice ra g.roots.length rc, .slice na g.nodes.length nc, .int .i64 g.hash] 25)).alloc (.cells #[.slice none 0 0, .slice none 0 0, .int .i64 0] 30)).alloc (.cells #[.slice none 0 0, .slice none 0 0, .int .i64 0] 30)).heap.size = w.heap.size + 1 + 1 + 1 := by simp
  generalize hW : (((w.alloc (.cells #[.slice ra g.roots.length rc, .slice na g.nodes.length nc, .int .i64 g.hash] 25)).alloc (.cells #[.slice none 0 0, .slice none 0 0, .int .i64 0] 30)).alloc (.cells #[.slice none 0 0, .slice none 0 0, .int .i64 0] 30)) = W at *
  have T1 := gtoInts_any (.slice ra g.roots.length rc) g.roots W (hr.later bb) (by omega)
  have T2 := fun V (q : Below w.heap.size w V) => toNodeS_any (.slice na g.nodes.length nc) g.nodes V (hn.later q) h1 h2
  have x0 : W.cell? ⟨w.heap.size, 0, none⟩ = some (.slice ra g.roots.length rc) := A0.cell (i := 0) (by omega)
  clear hr hn hv
  go_enter Tryd.func6, Tryd.ntmps6
  go_wp2_with fail
  refine T1.mono ?_
  rintro e w1 ⟨⟨rv, rfl, ho⟩, hb1⟩
  obtain ⟨qa, qc, hrv⟩ := own_shape ho
  subst hrv
  have s1 := hb1.size
  have C0 := A0.of_block (hb1.block _ A0.lt)
  have C1 := A1'.of_block (hb1.block _ A1'.lt)
  have C2 := A2.of_block (hb1.block _ A2.lt)
  have y0 : w1.cell? ⟨w.heap.size + 1 + 1, 0, none⟩ = some (.slice none 0 0) := C2.cell (i := 0) (by omega)
  have f0 := C2.frozen 0
  have D2 := nod_set C2 0 (.slice qa g.roots.length qc) (by omega)
  have GA := Grew.set w1 (w.heap.size + 1 + 1) 0 (.slice qa g.roots.length qc)
  have D0 := GA.row C0 (by omega)
  have D1 := GA.row C1 (by omega)
  have hoA := GA.own ho (fun b e q => by have := (ho.lt b e).1; omega)
  have BA : Below w.heap.size w (w1.setCell ⟨w.heap.size + 1 + 1, 0, none⟩ (.slice qa g.roots.length qc)) := (bb.trans (hb1.mono (by omega))).trans (GA.below (by omega) fun b _ e => by omega)
  have x1 : (w1.setCell ⟨w.heap.size + 1 + 1, 0, none⟩ (.slice qa g.roots.length qc)).cell? ⟨w.heap.size, 1, none⟩ = some (.slice na g.nodes.length nc) := D0.cell (i := 1) (by omega)
  have zA : (w1.setCell ⟨w.heap.size + 1 + 1, 0, none⟩ (.slice qa g.roots.length qc)).heap.size = w1.heap.size := by simp [World.setCell]
  have T2' := T2 _ BA
  generalize hwA : w1.setCell ⟨w.heap.size + 1 + 1, 0, none⟩ (.slice qa g.roots.length qc) = wA at D2 D0 D1 hoA BA x1 zA T2'
  clear T2 A0 A1 A1' A2 C0 C1 C2 ho
  go_wp2_with fail
  refine T2'.mono ?_
  rintro e w2 ⟨⟨fv, rfl, hno⟩, hb2⟩
  have s2 := hb2.size
  have E0 := D0.of_block (hb2.block _ D0.lt)
  have E1 := D1.of_block (hb2.block _ D1.lt)
  have E2 := D2.of_block (hb2.block _ D2.lt)
  have ho2 := own_later hoA hb2
  have y1 : w2.cell? ⟨w.heap.size + 1 + 1, 1, none⟩ = some (.slice none 0 0) := E2.cell (i := 1) (by omega)
  have f1 := E2.frozen 1
  have F2 := nod_set E2 1 (.slice (some ⟨wA.heap.size, 0, none⟩) g.nodes.length g.nodes.length) (by omega)
  have GB := Grew.set w2 (w.heap.size + 1 + 1) 1 (.slice (some ⟨wA.heap.size, 0, none⟩) g.nodes.length g.nodes.length)
  have F0 := GB.row E0 (by omega)
  have F1 := GB.row E1 (by omega)
  have x2 : (w2.setCell ⟨w.heap.size + 1 + 1, 1, none⟩ (.slice (some ⟨wA.heap.size, 0, none⟩) g.nodes.length g.nodes.length)).cell? ⟨w.heap.size, 2, none⟩ = some (.int .i64 g.hash) := F0.cell (i := 2) (by omega)
  have y2 : (w2.setCell ⟨w.heap.size + 1 + 1, 1, none⟩ (.slice (some ⟨wA.heap.size, 0, none⟩) g.nodes.length g.nodes.length)).cell? ⟨w.heap.size + 1 + 1, 2, none⟩ = some (.int .i64 0) := F2.cell (i := 2) (by omega)
  have f2 := F2.frozen 2
  have H2 := nod_set F2 2 (.int .i64 g.hash) (by omega)
  have GC := Grew.set (w2.setCell ⟨w.heap.size + 1 + 1, 1, none⟩ (.slice (some ⟨wA.heap.size, 0, none⟩) g.nodes.length g.nodes.length)) (w.heap.size + 1 + 1) 2 (.int .i64 g.hash)
  have H1 := GC.row F1 (by omega)
  have GD : Grew w2 ((w2.setCell ⟨w.heap.size + 1 + 1, 1, none⟩ (.slice (some ⟨wA.heap.size, 0, none⟩) g.nodes.length g.nodes.length)).setCell ⟨w.heap.size + 1 + 1, 2, none⟩ (.int .i64 g.hash)) (fun k => k = w.heap.size + 1 + 1) := GB.trans GC
  generalize hwC : (w2.setCell ⟨w.heap.size + 1 + 1, 1, none⟩ (.slice (some ⟨wA.heap.size, 0, none⟩) g.nodes.length g.nodes.length)).setCell ⟨w.heap.size + 1 + 1, 2, none⟩ (.int .i64 g.hash) = wC at H2 H1 GD
  have r0 : wC.cell? ⟨w.heap.size + 1 + 1, 0, none⟩ = some (.slice qa g.roots.length qc) := H2.cell (i := 0) (by omega)
  have r1 : wC.cell? ⟨w.heap.size + 1 + 1, 1, none⟩ = some (.slice (some ⟨wA.heap.size, 0, none⟩) g.nodes.length g.nodes.length) := H2.cell (i := 1) (by omega)
  have r2 : wC.cell? ⟨w.heap.size + 1 + 1, 2, none⟩ = some (.int .i64 g.hash) := H2.cell (i := 2) (by omega)
  have t0 : wC.cell? ⟨w.heap.size + 1, 0, none⟩ = some (.slice none 0 0) := H1.cell (i := 0) (by omega)
  have t1 : wC.cell? ⟨w.heap.size + 1, 1, none⟩ = some (.slice none 0 0) := H1.cell (i := 1) (by omega)
  have t2 : wC.cell? ⟨w.heap.size + 1, 2, none⟩ = some (.int .i64 0) := H1.cell (i := 2) (by omega)
  have k0 := H1.frozen 0
  have k1 := H1.frozen 1
  have k2 := H1.frozen 2
  have GE : Grew wC (((wC.setCell ⟨w.heap.size + 1, 0, none⟩ (.slice qa g.roots.length qc)).setCell ⟨w.heap.size + 1, 1, none⟩ (.slice (some ⟨wA.heap.size, 0, none⟩) g.nodes.length g.nodes.length)).setCell ⟨w.heap.size + 1, 2, none⟩ (.int .i64 g.hash)) (fun k => k = w.heap.size + 1) := ((Grew.set _ _ _ _).trans (Grew.set _ _ _ _)).trans (Grew.set _ _ _ _)
  have GG : Grew w2 (((wC.setCell ⟨w.heap.size + 1, 0, none⟩ (.slice qa g.roots.length qc)).setCell ⟨w.heap.size + 1, 1, none⟩ (.slice (some ⟨wA.heap.size, 0, none⟩) g.nodes.length g.nodes.length)).setCell ⟨w.heap.size + 1, 2, none⟩ (.int .i64 g.hash)) (fun k => k = w.heap.size + 1 + 1 ∨ k = w.heap.size + 1) := (GD.mono fun b _ e => .inl e).trans (GE.mono fun b _ e => .inr e)
  have FIN : Hid (GN w.heap.size (((wC.setCell ⟨w.heap.size + 1, 0, none⟩ (.slice qa g.roots.length qc)).setCell ⟨w.heap.size + 1, 1, none⟩ (.slice (some ⟨wA.heap.size, 0, none⟩) g.nodes.length g.nodes.length)).setCell ⟨w.heap.size + 1, 2, none⟩ (.int .i64 g.hash)) (.agg #[.slice qa g.roots.length qc, .slice (some ⟨wA.heap.size, 0, none⟩) g.nodes.length g.nodes.length, .int .i64 g.hash]) g ∧ Below w.heap.size w (((wC.setCell ⟨w.heap.size + 1, 0, none⟩ (.slice qa g.roots.length qc)).setCell ⟨w.heap.size + 1, 1, none⟩ (.slice (some ⟨wA.heap.size, 0, none⟩) g.nodes.length g.nodes.length)).setCell ⟨w.heap.size + 1, 2, none⟩ (.int .i64 g.hash))) := by
    refine ⟨⟨_, _, fv, rfl, gown_mono (GG.own ho2 (fun b e q => by have := (ho2.lt b e).1; omega)) (by omega), ?_, fun i hi b e q => ?_⟩, (BA.trans (hb2.mono (by omega))).trans (GG.below (by omega) fun b _ e => by omega)⟩
    · have n2 := GG.nown hno (fun b e => by omega)
      obtain ⟨xs, no, nt, nf, nap⟩ := n2
      exact ⟨xs, gown_mono no (by omega), nt, fun i hi => gown_mono (nf i hi) (by omega), nap⟩
    · obtain ⟨xs, no, nt, nf, nap⟩ := hno
      have h1 := ((nf i hi).lt b q).1
      have h2 := (hoA.lt b e).2
      omega
  clear GD GE GG GB GC H1 H2 F0 F1 F2 E0 E1 E2 D0 D1 D2 hno ho2 hoA zA sz s1 s2
  go_wp2
  exact bodyPost_ret (v := .agg #[.slice qa g.roots.length qc, .slice (some ⟨wA.heap.size, 0, none⟩) g.nodes.length g.nodes.length, .int .i64 g.hash]) (by simp [results, Tryd.results6, go_sem, t0, t1, t2]) rfl ⟨⟨_, rfl, FIN.out.1⟩, FIN.out.2⟩

end Go.Proofs.YtabkiihlafhanaaDoor
