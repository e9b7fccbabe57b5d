
import Derived.Test.YtphkmgalgngjiaaGreatZP16
import Derived.Test.YtphkmgalgngjiaaGreatZGTourO
import Derived.Test.YtphkmgalgngjiaaGreatZP1
import Derived.Test.YtphkmgalgngjiaaGreatZP4
import Derived.Laws.MakeOwn
/- Reached of the model and of the program. -/
namespace Go.Proofs.YtphkmgalgngjiaaGreat
open Go.RowKit

def rsum (W : List Int) (l : List Nat) : Int := (l.map fun a => (nx W a : Int) - a).sum
theorem rsum_snoc (W : List Int) (l : List Nat) (k : Nat) (h : k < l.length) : rsum W (l.take (k + 1)) = rsum W (l.take k) + ((nx W (l.getD k 0) : Int) - (l.getD k 0 : Nat)) := by
  unfold rsum
  rw [ltake_snoc l k h, List.map_append, List.sum_append]
  simp
/-- What Reached needs of each object. -/
theorem reach_need {h : Hp} {l : List Nat} (r : RightAt h l) {k : Nat} (hk : k < (ordF h.words h.roots).length) :
    ∃ m : Nat, m ≤ 60 ∧ gw h.words ((ordF h.words h.roots).getD k 0) = (m : Int) ∧ (ordF h.words h.roots).getD k 0 + 4 + m ≤ 3200 ∧ nx h.words ((ordF h.words h.roots).getD k 0) = (ordF h.words h.roots).getD k 0 + 4 + m ∧
      rsum h.words ((ordF h.words h.roots).take (k + 1)) = rsum h.words ((ordF h.words h.roots).take k) + (4 + m) := by
  obtain ⟨q1, q2, q3⟩ := r.1.obj (ord_sub r (lget_mem _ _ hk))
  have q4 := size_of q3
  obtain ⟨m, hm⟩ := Int.eq_ofNat_of_zero_le q4.1
  have hn : nx h.words ((ordF h.words h.roots).getD k 0) = (ordF h.words h.roots).getD k 0 + 4 + m := by unfold nx; rw [hm]; rfl
  rw [hn] at q2
  refine ⟨m, by omega, hm, q2, hn, ?_⟩
  rw [rsum_snoc _ _ _ hk, hn]
  omega
end Go.Proofs.YtphkmgalgngjiaaGreat

/- Shape and Reached of the model. -/
namespace Go.Proofs.YtphkmgalgngjiaaGreat
open Go.RowKit

theorem shape_c (h : Hp) : shC h = if okC h = true then shP h else gr0 := rfl
/-- A result cell of a graph, two blocks above. -/
theorem gres (w : World) (C : Array Value) (t : TypeId) : ((w.alloc (.cells C t)).alloc (.cells #[.slice none 0 0, .slice none 0 0, .int .i64 0] 38)).rowIs (w.heap.size + 1) 38 3 (grF (.slice none 0 0) (.slice none 0 0) 0) := by
  have q := graphC (w.alloc (.cells C t)) (.slice none 0 0) (.slice none 0 0) 0 38
  rwa [World.size_alloc] at q
end Go.Proofs.YtphkmgalgngjiaaGreat

/- The walks of the laws on HeapOk, Young and Header. -/
namespace Go.Proofs.YtphkmgalgngjiaaGreat
open Go.RowKit

end Go.Proofs.YtphkmgalgngjiaaGreat

/- Graphs in the laws: eqGraph, markGraph, heldGraph; graphs that own their memory. -/
namespace Go.Proofs.YtphkmgalgngjiaaGreat
open Go.RowKit

def mkK (k : Int) (ns : List Nd) (i : Nat) : Int := k + (((ns.take i).map fun n => 2 + n.fl.length).sum : Nat)
end Go.Proofs.YtphkmgalgngjiaaGreat

/- Graphs that own their memory. -/
namespace Go.Proofs.YtphkmgalgngjiaaGreat
open Go.RowKit

/-- Nodes that own their memory, since B; no two lie in one row. -/
def NOwn (B : Nat) (w : World) (nv : Value) (ns : List Nd) (fv : Nat → Value) : Prop :=
  ∃ xs, w.ownsRow B 87 3 nv ns.length xs ∧ Trip xs ns fv ∧ (∀ i, i < ns.length → w.ownsRow B 2 1 (fv i) (ns.getD i nd0).fl.length (icells (ns.getD i nd0).fl)) ∧
    ∀ i j, i < ns.length → j < ns.length → i ≠ j → ∀ b, (fv i).ownBlock = some b → (fv j).ownBlock ≠ some b
/-- A graph that owns its memory. -/
def GN (B : Nat) (w : World) (v : Value) (g : Gr) : Prop :=
  ∃ vr vn fv, v = .agg #[vr, vn, .int .i64 g.hash] ∧ w.ownsRow B 2 1 vr g.roots.length (icells g.roots) ∧ NOwn B w vn g.nodes fv ∧ ∀ i, i < g.nodes.length → ∀ b, vr.ownBlock = some b → (fv i).ownBlock ≠ some b
theorem type_ne {w : World} {B B' e e' s s' n n' b : Nat} {v v' : Value} {xs xs' : List Value} (h : w.ownsRow B e s v n xs) (h' : w.ownsRow B' e' s' v' n' xs') (ne : e ≠ e') (hb : v.ownBlock = some b) : v'.ownBlock ≠ some b := by
  intro hb'
  rcases h.2 with ⟨rfl, _⟩ | ⟨g, cap, cur, rfl, _, hh, _⟩
  · simp [Value.ownBlock] at hb
  · rcases h'.2 with ⟨rfl, _⟩ | ⟨g', cap', cur', rfl, _, hh', _⟩
    · simp [Value.ownBlock] at hb'
    · simp [Value.ownBlock] at hb hb'
      subst hb hb'
      rw [hh] at hh'
      simp at hh'
      exact ne hh'.2
theorem NOwn.nk {B : Nat} {w : World} {nv : Value} {ns : List Nd} {fv : Nat → Value} (h : NOwn B w nv ns fv) : NK B w nv ns (fun b => B ≤ b ∧ b < w.heap.size) := by
  obtain ⟨xs, ho, ht, hf, _⟩ := h
  exact ⟨xs, fv, ho, ht, fun i hi => ⟨IR_of_owns (hf i hi), fun b k => (hf i hi).lt b (inB_own (hf i hi) k)⟩⟩
theorem GN.grn {B : Nat} {w : World} {v : Value} {g : Gr} (h : GN B w v g) : GRn B w v g := by
  obtain ⟨vr, vn, fv, e, hr, hn, _⟩ := h
  exact ⟨vr, vn, _, e, ⟨IR_of_owns hr, fun b k => hr.lt b (inB_own hr k)⟩, hn.nk, fun b k => k.1⟩
theorem Grew.nown {B : Nat} {w w' : World} {nv : Value} {ns : List Nd} {fv : Nat → Value} {S : Nat → Prop} (q : Grew w w' S) (h : NOwn B w nv ns fv) (hS : ∀ b, S b → b < B) : NOwn B w' nv ns fv := by
  obtain ⟨xs, ho, ht, hf, ha⟩ := h
  exact ⟨xs, q.own ho (fun b e s => by have := (ho.lt b e).1; have := hS b s; omega), ht, fun i hi => q.own (hf i hi) (fun b e s => by have := ((hf i hi).lt b e).1; have := hS b s; omega), ha⟩
theorem Grew.gn {B : Nat} {w w' : World} {v : Value} {g : Gr} {S : Nat → Prop} (q : Grew w w' S) (h : GN B w v g) (hS : ∀ b, S b → b < B) : GN B w' v g := by
  obtain ⟨vr, vn, fv, e, hr, hn, ha⟩ := h
  exact ⟨vr, vn, fv, e, q.own hr (fun b e s => by have := (hr.lt b e).1; have := hS b s; omega), q.nown hn hS, ha⟩
theorem GN.later {B : Nat} {w w' : World} {v : Value} {g : Gr} (h : GN B w v g) (hb : Below w.heap.size w w') : GN B w' v g := (Grew.new hb (fun _ => False)).gn h (fun _ q => q.elim)
theorem GN.base {B B' : Nat} {w : World} {v : Value} {g : Gr} (h : GN B w v g) (hB : B' ≤ B) : GN B' w v g := by
  obtain ⟨vr, vn, fv, e, hr, ⟨xs, ho, ht, hf, ha⟩, h2⟩ := h
  exact ⟨vr, vn, fv, e, gown_mono hr hB, ⟨xs, gown_mono ho hB, ht, fun i hi => gown_mono (hf i hi) hB, ha⟩, h2⟩
/-- One node more, whose fields were made since. -/
theorem NOwn.snoc {B : Nat} {w w1 w2 w3 : World} {nv nv1 f : Value} {ns : List Nd} {fv : Nat → Value} {c z : Int} {fl : List Int} (h : NOwn B w nv ns fv) (b1 : Below w.heap.size w w1) (hf : w1.ownsRow w.heap.size 2 1 f fl.length (icells fl)) (hB : B ≤ w.heap.size)
    (b2 : Below w1.heap.size w1 w2) {xs : List Value} (ht : Trip xs ns fv) (ho : w3.ownsRow B 87 3 nv1 (ns.length + 1) (xs ++ [.int .i64 c, .int .i64 z, f])) (g : w2.grownBy w3 nv.ownBlock) :
    NOwn B w3 nv1 (ns ++ [⟨c, z, fl⟩]) (fun i => if i = ns.length then f else fv i) := by
  obtain ⟨xs0, ho0, _, hf0, ha0⟩ := h
  have o1 : w1.ownsRow B _ 3 nv ns.length xs0 := own_later ho0 b1
  have G : Grew w1 w3 (fun k => nv.ownBlock = some k) := (Grew.new b2 _).trans (Grew.grown g)
  have oF : w3.ownsRow B 2 1 f fl.length (icells fl) := gown_mono (G.own hf (fun b e q => type_ne hf o1 (by decide) e q)) hB
  have oI : ∀ i, i < ns.length → w3.ownsRow B 2 1 (fv i) (ns.getD i nd0).fl.length (icells (ns.getD i nd0).fl) := fun i hi => G.own (own_later (hf0 i hi) b1) (fun b e q => type_ne (hf0 i hi) ho0 (by decide) e q)
  have eg : ∀ i, i < ns.length → (ns ++ [(⟨c, z, fl⟩ : Nd)]).getD i nd0 = ns.getD i nd0 := fun i hi => by simp [List.getD_eq_getElem?_getD, List.getElem?_append_left hi]
  have en : (ns ++ [(⟨c, z, fl⟩ : Nd)]).getD ns.length nd0 = ⟨c, z, fl⟩ := by simp
  have hl : (ns ++ [(⟨c, z, fl⟩ : Nd)]).length = ns.length + 1 := by simp
  refine ⟨_, by rw [hl]; exact ho, ht.snoc c z fl f, fun i hi => ?_, fun i j hi hj ne b e => ?_⟩
  · rw [hl] at hi
    dsimp only
    by_cases e : i = ns.length
    · subst e
      rw [if_pos rfl, en]
      exact oF
    · rw [if_neg e, eg i (by omega)]
      exact oI i (by omega)
  · rw [hl] at hi hj
    dsimp only at e ⊢
    by_cases e1 : i = ns.length
    · rw [if_pos e1] at e
      rw [if_neg (by omega)]
      intro q
      have h1 := (hf.lt b e).1
      have h2 := ((hf0 j (by omega)).lt b q).2
      omega
    · rw [if_neg e1] at e
      by_cases e2 : j = ns.length
      · rw [if_pos e2]
        intro q
        have h1 := (hf.lt b q).1
        have h2 := ((hf0 i (by omega)).lt b e).2
        omega
      · rw [if_neg e2]
        exact ha0 i j (by omega) (by omega) ne b e
theorem GN.out {B : Nat} {w : World} {v : Value} {g : Gr} (h : GN B w v g) : ∃ ra rc na nc fv, v = .agg #[.slice ra g.roots.length rc, .slice na g.nodes.length nc, .int .i64 g.hash] ∧ w.ownsRow B 2 1 (.slice ra g.roots.length rc) g.roots.length (icells g.roots) ∧ NOwn B w (.slice na g.nodes.length nc) g.nodes fv ∧ ∀ i, i < g.nodes.length → ∀ b, Value.ownBlock (.slice ra g.roots.length rc) = some b → (fv i).ownBlock ≠ some b := by
  obtain ⟨vr, vn, fv, rfl, hr, hn, ha⟩ := h
  obtain ⟨ra, rc, rfl⟩ := own_shape hr
  obtain ⟨na, nc, rfl⟩ : ∃ na nc, vn = .slice na g.nodes.length nc := by
    obtain ⟨xs, no, _⟩ := hn
    exact own_shape no
  exact ⟨ra, rc, na, nc, fv, rfl, hr, hn, ha⟩

end Go.Proofs.YtphkmgalgngjiaaGreat

/- Graphs that own their memory; markNodeS, markGraph, heldGraph. -/
namespace Go.Proofs.YtphkmgalgngjiaaGreat
open Go.RowKit


/-- The cells of a row of nodes of which i are marked. -/
def mkF (k : Int) (ns : List Nd) (f : Nat → Value) (i j : Nat) : Value := if j < i * 3 ∧ j % 3 = 0 then .int .i64 (mkK k ns (j / 3)) else if j < i * 3 ∧ j % 3 = 1 then .int .i64 (mkK k ns (j / 3) + 1) else f j
/-- The state of the marking. -/
structure MkSt (w wr : World) (g N : Nat) (k : Int) (ns : List Nd) (f fv : Nat → Value) (i B : Nat) : Prop where
  row : wr.rowIs g 87 N (mkF k ns f i)
  done : ∀ j, j < i → IR wr (fv j) (imarks (mkK k ns j + 2) (ns.getD j nd0).fl.length)
  left : ∀ j, i ≤ j → j < ns.length → wr.ownsRow B 2 1 (fv j) (ns.getD j nd0).fl.length (icells (ns.getD j nd0).fl)
  grew : Grew w wr (fun b => b = g ∨ ∃ j, j < ns.length ∧ (fv j).ownBlock = some b)
end Go.Proofs.YtphkmgalgngjiaaGreat

/- renamed of the program: words with each address changed for the one that it has in a map. -/
namespace Go.Proofs.YtphkmgalgngjiaaGreat
open Go.RowKit Go.Maps

/-- A word with its address changed. -/
def rnM (f : Int → Option Int) (x : Int) : Int := if isK 2 x = true then 2 * (f (x / 2)).getD 0 + 1 else x
theorem make_cap (n B : Nat) (hn : n ≤ 100000000000) (w : World) (hB : B ≤ w.heap.size) : ∃ w', (Instr.makeSlice 24 (.int .i64 0) (.int .i64 (n : Int))).run Tryz.prog w = .ok (.slice (some ⟨w.heap.size, 0, none⟩) 0 n) w' ∧ w'.ownsRow B 2 1 (.slice (some ⟨w.heap.size, 0, none⟩) 0 n) 0 [] ∧ Below w.heap.size w w' := by
  obtain ⟨i, hi, hzz⟩ := Option.map_eq_some_iff.1 Tryz.infoI
  simp only [Prod.mk.injEq] at hzz
  obtain ⟨hz, hsz, hby⟩ := hzz
  obtain ⟨w', h1, h2, h3⟩ := run_make_own (P := Tryz.prog) w B 24 2 i _ 1 Tryz.underlying24 hi hz hsz .i64 .i64 n (by rw [hby]; omega) (by unfold maxLen; omega) hB
  exact ⟨w', h1, h2, ⟨h3.os, h3.tape, h3.output, h3.size, fun k hk => h3.block k hk (by simp)⟩⟩

set_option maxRecDepth 100000 in
set_option maxHeartbeats 1600000 in
theorem renamed_any (v : Value) (ws : List Int) (M n : Nat) (f : Int → Option Int) (w : World) (hv : IR w v ws) (hm : MP w M n f) (hl : ws.length ≤ 100000000) (hf : ∀ x, x ∈ ws → isK 2 x = true → 0 ≤ (f (x / 2)).getD 0 ∧ (f (x / 2)).getD 0 ≤ 3199) :
    Calls Tryz.prog 50 #[v, .map (some M)] w fun e w' => (∃ v', e = .returned v' ∧ w'.ownsRow w.heap.size 2 1 v' ws.length (icells (ws.map (rnM f)))) ∧ Below w.heap.size w w' := by
  obtain ⟨va, vc, rfl, _, hvc⟩ := id hv
  obtain ⟨wm, hrun, hown, hbm⟩ := make_cap ws.length w.heap.size (by omega) w (Nat.le_refl _)
  have HOW : Hid (wm.ownsRow w.heap.size 2 1 (.slice (some ⟨w.heap.size, 0, none⟩) 0 ws.length) 0 []) := hown
  clear hown
  go_enter Tryz.func50, Tryz.ntmps50
  go_wp2
  go_loopw [5, 15] (fun ovv iv wr => ∃ (j : Nat) (ov : Value), j ≤ ws.length ∧ iv = .int .i64 j ∧ ov = ovv ∧ wr.ownsRow w.heap.size 2 1 ov j (icells ((ws.take j).map (rnM f))) ∧ Below w.heap.size w wr) (fun _ iv _ => ws.length - (intOf iv).toNat)
  case atStart => exact ⟨0, _, Nat.zero_le _, rfl, rfl, HOW.out, hbm⟩
  case round =>
    obtain ⟨j, ov, hj, rfl, rfl, ho, hb⟩ := hrel
    by_cases hjl : j < ws.length
    · obtain ⟨vb, vo, rfl, hcw⟩ := hvc j hjl
      have hcr := cell_later hb hcw
      have TS : Hid ((ws.take (j + 1)).map (rnM f) = (ws.take j).map (rnM f) ++ [rnM f (ws.getD j 0)]) := (by rw [itake_snoc _ _ hjl]; simp : (ws.take (j + 1)).map (rnM f) = (ws.take j).map (rnM f) ++ [rnM f (ws.getD j 0)])
      have hfx := hf (ws.getD j 0) (by simp [hjl])
      have RN : Hid (rnM f (ws.getD j 0) = if isK 2 (ws.getD j 0) = true then 2 * (f (ws.getD j 0 / 2)).getD 0 + 1 else ws.getD j 0) := rfl
      generalize rnM f (ws.getD j 0) = y at *
      generalize ws.getD j 0 = x at *
      have hji : (j : Int) < ws.length := by omega
      have hsz := hb.size
      clear hcw hvc hf hrun HOW
      have FIN : Hid (∀ (z : Int) (w3 : World) v3, y = z → w3.ownsRow w.heap.size 2 1 v3 (j + 1) (icells ((ws.take j).map (rnM f)) ++ [.int .i64 z]) → (wr.alloc (.cells #[.int .i64 z] 2)).grownBy w3 ov.ownBlock → w3.ownsRow w.heap.size 2 1 v3 (j + 1) (icells ((ws.take (j + 1)).map (rnM f))) ∧ Below w.heap.size w w3) := fun z w3 v3 e q1 q2 => by
        subst e
        refine ⟨by rw [TS.out]; simpa [icells] using q1, ?_⟩
        exact (hb.trans (bel_one wr _ |>.mono hb.size)).trans ((Grew.grown q2).below (by simp; omega) fun k _ e => (ho.lt k e).1)
      cases hx : isK 2 x
      · rw [hx] at RN
        have RN' : Hid (y = x) := RN
        clear RN hfx TS
        have al := bel_one wr (.cells #[.int .i64 x] 2)
        have ho2 := own_later ho al
        have hc : ∀ W : World, (W.alloc (.cells #[.int .i64 x] 2)).cell? ⟨W.heap.size, 0, none⟩ = some (.int .i64 x) := fun W => by simp
        go_wp2_with (first
          | (go_at_call 11; refine (implRefOf_any _ _).mono ?_; rintro e w' ⟨rfl, hw'⟩; obtain rfl := hw'.symm; rw [hx])
          | (at_builtin; refine app_at _ rfl _ _ rfl w.heap.size _ j (icells ((ws.take j).map (rnM f))) rfl ho2 _ 1 x rfl (hc _) (by omega) (Nat.le_trans hsz (by simp)) ?_; intro v4 w4 hown4 hg4 hloc; have SF := FIN.out x w4 v4 RN'.out hown4 hg4))
        exact ⟨⟨j + 1, v4, by omega, by go_num, rfl, SF.1, SF.2⟩, by simp [intOf]; omega⟩
      · rw [hx] at RN
        have RN' : Hid (y = 2 * (f (x / 2)).getD 0 + 1) := RN
        have hval := valK_yes hx
        obtain ⟨y1, y2⟩ := hfx hx
        obtain ⟨a, ha, hat, hva⟩ := refOf_fit hx
        have e2 : x / 2 = (a : Int) := by rw [← hva, hval]
        rw [e2] at RN' y1 y2 hval
        have a64 : In64 (a : Int) := ⟨by omega, by omega⟩
        have hmr := hm.later hb
        clear RN hfx TS e2 hat hva
        have adr : ∀ z, (f (a : Int)).getD 0 = z → adrB z = true := fun z e => by subst e; exact decide_eq_true ⟨y1, y2⟩
        generalize hz : (f (a : Int)).getD 0 = z at *
        have HZ : Hid ((f (a : Int)).getD 0 = z) := hz
        have had := adr z rfl
        clear adr hz
        have al := bel_one wr (.cells #[.int .i64 (2 * z + 1)] 2)
        have ho2 := own_later ho al
        have hc : ∀ W : World, (W.alloc (.cells #[.int .i64 (2 * z + 1)] 2)).cell? ⟨W.heap.size, 0, none⟩ = some (.int .i64 (2 * z + 1)) := fun W => by simp
        go_wp2_with (first
          | (go_at_call 11; refine (implRefOf_any _ _).mono ?_; rintro e w' ⟨rfl, hw'⟩; obtain rfl := hw'.symm; rw [hx, hval])
          | (at_lookup; refine look_up _ rfl _ _ rfl M n f rfl hmr _ rfl a64 ?_; rw [HZ.out])
          | (go_at_call 42; refine (refWord_any _ _ had).mono ?_; rintro e w' ⟨rfl, hw'⟩; obtain rfl := hw'.symm)
          | (at_builtin; refine app_at _ rfl _ _ rfl w.heap.size _ j (icells ((ws.take j).map (rnM f))) rfl ho2 _ 1 (2 * z + 1) rfl (hc _) (by omega) (Nat.le_trans hsz (by simp)) ?_; intro v4 w4 hown4 hg4 hloc; have SF := FIN.out (2 * z + 1) w4 v4 RN'.out hown4 hg4))
        exact ⟨⟨j + 1, v4, by omega, by go_num, rfl, SF.1, SF.2⟩, by simp [intOf]; omega⟩
    · obtain rfl : j = ws.length := by omega
      rw [List.take_length] at ho
      clear hvc hf hjl hrun HOW
      go_wp2
      go_ret
      exact ⟨⟨_, rfl, ho⟩, hb⟩

/-- In a tour that is done, a word that leads to one of its objects gets the object's number. -/
theorem rn_num {F : List Nat} {x : Int} (h : isK 2 x = true → (x / 2).toNat ∈ F) : rnM (numF F) x = ren F x := by
  unfold rnM ren
  split
  · rename_i hk
    obtain ⟨a, ha, e, ev⟩ := refOf_fit hk
    rw [valK_yes hk] at ev
    have hm := h hk
    rw [e] at hm ⊢
    rw [ev, numF_at, if_pos hm]
    rfl
  · rfl
theorem rn_range {F : List Nat} (h3 : F.length ≤ 3200) {x : Int} (_ : isK 2 x = true) : 0 ≤ (numF F (x / 2)).getD 0 ∧ (numF F (x / 2)).getD 0 ≤ 3199 := by
  unfold numF
  split
  · rename_i q
    have := List.idxOf_lt_length_of_mem q.2
    show 0 ≤ ((F.idxOf (x / 2).toNat : Nat) : Int) ∧ ((F.idxOf (x / 2).toNat : Nat) : Int) ≤ 3199
    omega
  · exact ⟨by simp, by simp⟩

end Go.Proofs.YtphkmgalgngjiaaGreat
