
import Derived.Test.YthdffigckohpoaaGreatZV19
import Derived.Test.YthdffigckohpoaaGreatZGTourO
import Derived.Test.YthdffigckohpoaaGreatZV6
import Derived.Test.YthdffigckohpoaaGreatZV1
import Derived.Test.YthdffigckohpoaaGreatZV4
/- Reached of the model and of the program. -/
namespace Go.Proofs.YthdffigckohpoaaGreat
open Go.RowKit
def rsum (W : List Int) (l : List Nat) : Int := (l.map fun a => (nx W a : Int) - a).sum
theorem rsum_snoc (W : List Int) (l : List Nat) (k : Nat) (h : k < l.length) : rsum W (l.take (k + 1)) = rsum W (l.take k) + ((nx W (l.getD k 0) : Int) - (l.getD k 0 : Nat)) := by
 unfold rsum
 rw [ltake_snoc l k h, List.map_append, List.sum_append]
 simp
theorem rsum_range {W : List Int} {l : List Nat} (h : ∀ a, a ∈ l -> nx W a <= a + 64) : 0 <= rsum W l /\ rsum W l <= 64 * l.length := by
 induction l with
 | nil => simp [rsum]
 | cons a l ih =>
  obtain ⟨h1, h2⟩ := ih fun b hb => h b (by simp [hb])
  have h3 := h a (by simp)
  have h4 : a <= nx W a := by unfold nx; omega
  have e : rsum W (a :: l) = ((nx W a : Int) - a) + rsum W l := by simp [rsum]
  rw [e, List.length_cons]
  omega
theorem reach_c (h : Hp) : reC h = if okC h = true then rsum h.words (ordF h.words h.roots) else -1 := rfl
/-- What Reached needs of each object. -/
theorem reach_need {h : Hp} {l : List Nat} (r : RightAt h l) {k : Nat} (hk : k < (ordF h.words h.roots).length) :
  ∃ m : Nat, m <= 60 /\ gw h.words ((ordF h.words h.roots).getD k 0) = (m : Int) /\ (ordF h.words h.roots).getD k 0 + 4 + m <= 3200 /\ nx h.words ((ordF h.words h.roots).getD k 0) = (ordF h.words h.roots).getD k 0 + 4 + m ∧
   rsum h.words ((ordF h.words h.roots).take (k + 1)) = rsum h.words ((ordF h.words h.roots).take k) + (4 + m) := by
 obtain ⟨q1, q2, q3⟩ := r.1.obj (ord_sub r (lget_mem _ _ hk))
 have q4 := size_of q3
 obtain ⟨m, hm⟩ := Int.eq_ofNat_of_zero_le q4.1
 have hn : nx h.words ((ordF h.words h.roots).getD k 0) = (ordF h.words h.roots).getD k 0 + 4 + m := by unfold nx; rw [hm]; rfl
 rw [hn] at q2
 refine ⟨m, by omega, hm, q2, hn, ?_⟩
 rw [rsum_snoc _ _ _ hk, hn]
 omega
set_option maxRecDepth 100000 in
set_option maxHeartbeats 1600000 in
theorem wordsTakenR_any (b o cap : Nat) (W : List Int) (lv : Value) (l : List Nat) (w : World) (hW : WS w b o W) (hl : W.length = 3200) (il : IR w lv (ints l)) (ls : l.length <= 3200) (hob : ∀ a, a ∈ l -> a + 4 <= 3200 /\ 0 <= gw W a /\ gw W a <= 60) :
  Calls Tryz.prog 38 #[.slice (some ⟨b, o, none⟩) 3200 cap, lv] w fun x w' => x = .returned (.int .i64 (rsum W l)) /\ w' = w := by
 obtain ⟨oa, oc, rfl, hoc⟩ := intsI il
 have HLN : Hid (W.length = 3200) := hl
 clear hl il
 go_enter Tryz.func38, Tryz.ntmps38
 go_wp2
 go_loopw [5, 10] (fun yv kv wr => ∃ k : Nat, k <= l.length /\ kv = .int .i64 k /\ yv = .int .i64 (rsum W (l.take k)) /\ wr = w) (fun _ kv _ => l.length - (intOf kv).toNat)
 case atStart => exact ⟨0, Nat.zero_le _, rfl, rfl, rfl⟩
 case round =>
  obtain ⟨k, hk, rfl, rfl, hwr⟩ := hrel
  obtain rfl := hwr.symm
  clear hwr
  by_cases hkl : k < l.length
  ·obtain ⟨ob, oo, rfl, ci⟩ := hoc k hkl
   obtain ⟨q1, q2⟩ := hob _ (lget_mem _ _ hkl)
   obtain ⟨m, hm⟩ := Int.eq_ofNat_of_zero_le q2.1
   have m60 : m <= 60 := by omega
   have hx : nx W (l.getD k 0) = l.getD k 0 + 4 + m := by unfold nx; rw [hm]; rfl
   have HS : Hid (rsum W (l.take (k + 1)) = rsum W (l.take k) + (4 + m)) := (by rw [rsum_snoc _ _ _ hkl, hx]; omega : rsum W (l.take (k + 1)) = rsum W (l.take k) + (4 + m))
   obtain ⟨r1, r2⟩ := rsum_range (W := W) (l := l.take k) fun a ha => by have := (hob a (List.mem_of_mem_take ha)).2; unfold nx; omega
   rw [List.length_take] at r2
   have r3 : rsum W (l.take k) <= 204800 := by omega
   have BH := behind_any b o cap W (l.getD k 0) w hW HLN.out q1 q2
   rw [hx] at BH
   clear hm hx hoc q2 r2
   generalize l.getD k 0 = a at *
   generalize rsum W (l.take k) = s at *
   have hki : (k : Int) < l.length := by omega
   go_wp2_with (go_at_call 61; refine BH.mono ?_; rintro e wq ⟨rfl, hq⟩; obtain rfl := hq.symm)
   exact ⟨⟨k + 1, by omega, by go_num, by rw [HS.out]; congr 1; omega, trivial⟩, by simp [intOf]; omega⟩
  ·obtain rfl : k = l.length := by omega
   rw [List.take_length]
   go_wp2
   go_ret
   exact ⟨rfl, rfl⟩
set_option maxRecDepth 100000 in
set_option maxHeartbeats 1600000 in
theorem implReached_c (v : Value) (h : Hp) (w : World) (hv : HR w v h) (hro : h.roots.length <= 1000000000000) (hke : h.kept.length <= 1000000000000) :
  Calls Tryz.prog 22 #[v] w fun x w' => x = .returned (.int .i64 (reC h)) /\ Below w.heap.size w w' := by
 obtain ⟨v1, v2, v3, rfl, i1, i2, i3⟩ := id hv
 have hb0 := bel_one w (.cells #[v1, v2, .int .i64 h.old, .int .i64 h.eden, .int .i64 h.surv, .bool h.flip, .int .i64 h.hash, v3] 26)
 have X0 := Bx.new w v1 v2 v3 h 26
 have C := implHeapOk_c _ h _ (hv.later hb0) hro hke
 have E := reach_c h
 obtain ⟨c0, c1, c2, c3, c4, c5, c6, c7⟩ := id X0
 cases hk : okC h
 ·rw [hk] at C E
  have E' : Hid (reC h = -1) := E
  clear E i1 i2 i3
  go_enter Tryz.func22, Tryz.ntmps22
  go_wp2_with fail
  refine C.mono ?_
  rintro x w1 ⟨rfl, hb1⟩
  go_wp2
  go_ret
  exact ⟨wret_int E'.out.symm, bel_after hb0 hb1⟩
 ·rw [hk] at C E
  have E' : Hid (reC h = rsum h.words (ordF h.words h.roots)) := E
  have r := c_right hk
  have TF := fun W (hb : Below w.heap.size w W) => tourOf_any _ h (obC h) W (hv.later hb) r
  have hlen := r.1.1
  obtain ⟨b, o, cap, hv1, hcap, hW⟩ := i1.ws (by omega)
  subst hv1
  rw [hlen] at c0 X0 C hcap TF hb0 c1 c2 c3 c4 c5 c6 c7 ⊢
  have HLN : Hid (h.words.length = 3200) := hlen
  have hmx : Tryz.prog.follows .mixedOrders = true := by kernel_rfl
  have h3 := ord_len r
  have OO : ∀ a, a ∈ ordF h.words h.roots -> a + 4 <= 3200 /\ 0 <= gw h.words a /\ gw h.words a <= 60 := fun a ha => by have q := r.1.obj (ord_sub r ha); exact ⟨q.1, size_of q.2.2⟩
  clear E hk i1 i2 i3 hv hlen
  go_enter Tryz.func22, Tryz.ntmps22
  go_wp2_with fail
  refine C.mono ?_
  rintro x w1 ⟨rfl, hb1⟩
  have X1 := X0.later hb1
  have hbw1 := bel_after hb0 hb1
  clear c0 c1 c2 c3 c4 c5 c6 c7
  have hs0 : Below w1.heap.size w1 w1.drew := (Below.refl _ _).drew
  go_wp2_with fail
  refine Disk.z_plain 99 (fun W' => Below w1.heap.size w1 W') hmx hs0 (fun hs => ?_)
  clear hs0
  generalize w1.drew = wd at hs ⊢
  refine Disk.zt 0 6 (v := .pointer (some ⟨w.heap.size, 0, none⟩)) rfl rfl hs (fun W' hSw => (by
   obtain ⟨s0, s1, s2, s3, s4, s5, s6, s7⟩ := X1.later hSw
   go_simp; first | done | with_reducible rfl)) ?_
  simp only [zA, zB, zC]
  refine Disk.zt 1 7 (v := .slice (some ⟨b, o, none⟩) 3200 cap) rfl rfl hs (fun W' hSw => (by
   obtain ⟨s0, s1, s2, s3, s4, s5, s6, s7⟩ := X1.later hSw
   go_simp; first | done | with_reducible rfl)) ?_
  simp only [zA, zB, zC]
  refine Disk.zt 2 8 (v := .agg #[.slice (some ⟨b, o, none⟩) 3200 cap, v2, .int .i64 h.old, .int .i64 h.eden, .int .i64 h.surv, .bool h.flip, .int .i64 h.hash, v3]) rfl rfl hs (fun W' hSw => (by
   obtain ⟨s0, s1, s2, s3, s4, s5, s6, s7⟩ := X1.later hSw
   go_simp; first | done | with_reducible rfl)) ?_
  simp only [zA, zB, zC]
  refine Disk.zc 3 9 rfl rfl (f := 39) (args := #[.agg #[.slice (some ⟨b, o, none⟩) 3200 cap, v2, .int .i64 h.old, .int .i64 h.eden, .int .i64 h.surv, .bool h.flip, .int .i64 h.hash, v3]]) (w0 := wd) ?_
  refine (TF wd (bel_after hbw1 hs)).mono ?_
  rintro e wt ⟨ov, M, n, rfl, hot, -, -, -, hbt⟩
  have hst := bel_after hs hbt
  refine ⟨_, rfl, .inr hst, ?_⟩
  simp only [zA, zB, zC]
  have IT := IR_of_owns' hot
  obtain ⟨ta, tc, rfl⟩ := own_shape hot
  clear hot
  refine Disk.z_run 4 10 (v := .slice ta (ordF h.words h.roots).length tc) rfl rfl (by kernel_rfl) (by rfl) (w' := wt) (by kernel_rfl) (.inr hst) ?_
  simp only [zA, zB, zC]
  refine Disk.zc 5 11 rfl rfl (f := 38) (args := #[.slice (some ⟨b, o, none⟩) 3200 cap, .slice ta (ordF h.words h.roots).length tc]) (w0 := wt) ?_
  refine (wordsTakenR_any b o cap h.words _ _ wt ((hW.later hbw1).later hst) HLN.out IT h3 OO).mono ?_
  rintro e wq ⟨rfl, eq⟩
  obtain rfl := eq.symm
  clear eq
  refine ⟨_, rfl, .inr hst, ?_⟩
  simp only [zA, zB, zC]
  have hbe := bel_after hbw1 hst
  clear IT hbt hs
  generalize rsum h.words (ordF h.words h.roots) = s at *
  refine Disk.zr 6 2 (v := .int .i64 s) rfl rfl (w' := wt) (.inr hst) ?_
  simp only [zA, zB, zC]
  refine Disk.z_done (by kernel_rfl) ?_ _
  clear hst
  go_wp2
  go_ret
  exact ⟨wret_int E'.out.symm, hbe⟩
end Go.Proofs.YthdffigckohpoaaGreat
/- Shape and Reached of the model. -/
namespace Go.Proofs.YthdffigckohpoaaGreat
open Go.RowKit
theorem shape_c (h : Hp) : shC h = if okC h = true then shP h else gr0 := rfl
/-- A result cell of a graph, two blocks above. -/
theorem gres (w : World) (C : Array Value) (t : TypeId) : ((w.alloc (.cells C t)).alloc (.cells #[.slice none 0 0, .slice none 0 0, .int .i64 0] 40)).rowIs (w.heap.size + 1) 40 3 (grF (.slice none 0 0) (.slice none 0 0) 0) := by
 have q := graphC (w.alloc (.cells C t)) (.slice none 0 0) (.slice none 0 0) 0 40
 rwa [World.size_alloc] at q
end Go.Proofs.YthdffigckohpoaaGreat
/- The walks of the laws on HeapOk, Young and Header. -/
namespace Go.Proofs.YthdffigckohpoaaGreat
open Go.RowKit
end Go.Proofs.YthdffigckohpoaaGreat
/- Graphs in the laws: eqGraph, markGraph, heldGraph; graphs that own their memory. -/
namespace Go.Proofs.YthdffigckohpoaaGreat
open Go.RowKit
def mkK (k : Int) (ns : List Nd) (i : Nat) : Int := k + (((ns.take i).map fun n => 2 + n.fl.length).sum : Nat)
end Go.Proofs.YthdffigckohpoaaGreat
/- Graphs that own their memory. -/
namespace Go.Proofs.YthdffigckohpoaaGreat
open Go.RowKit
/-- Nodes that own their memory, since B; no two lie in one row. -/
def NOwn (B : Nat) (w : World) (nv : Value) (ns : List Nd) (fv : Nat -> Value) : Prop :=
 ∃ xs, w.ownsRow B 72 3 nv ns.length xs /\ Trip xs ns fv /\ (∀ i, i < ns.length -> w.ownsRow B 2 1 (fv i) (ns.getD i nd0).fl.length (icells (ns.getD i nd0).fl)) ∧
  ∀ i j, i < ns.length -> j < ns.length -> i ≠ j -> ∀ b, (fv i).ownBlock = some b -> (fv j).ownBlock ≠ some b
/-- A graph that owns its memory. -/
def GN (B : Nat) (w : World) (v : Value) (g : Gr) : Prop :=
 ∃ vr vn fv, v = .agg #[vr, vn, .int .i64 g.hash] /\ w.ownsRow B 2 1 vr g.roots.length (icells g.roots) /\ NOwn B w vn g.nodes fv /\ ∀ i, i < g.nodes.length -> ∀ b, vr.ownBlock = some b -> (fv i).ownBlock ≠ some b
theorem type_ne {w : World} {B B' e e' s s' n n' b : Nat} {v v' : Value} {xs xs' : List Value} (h : w.ownsRow B e s v n xs) (h' : w.ownsRow B' e' s' v' n' xs') (ne : e ≠ e') (hb : v.ownBlock = some b) : v'.ownBlock ≠ some b := by
 intro hb'
 rcases h.2 with ⟨rfl, _⟩ | ⟨g, cap, cur, rfl, _, hh, _⟩
 ·simp [Value.ownBlock] at hb
 ·rcases h'.2 with ⟨rfl, _⟩ | ⟨g', cap', cur', rfl, _, hh', _⟩
  ·simp [Value.ownBlock] at hb'
  ·simp [Value.ownBlock] at hb hb'
   subst hb hb'
   rw [hh] at hh'
   simp at hh'
   exact ne hh'.2
theorem NOwn.nk {B : Nat} {w : World} {nv : Value} {ns : List Nd} {fv : Nat -> Value} (h : NOwn B w nv ns fv) : NK B w nv ns (fun b => B <= b /\ b < w.heap.size) := by
 obtain ⟨xs, ho, ht, hf, _⟩ := h
 exact ⟨xs, fv, ho, ht, fun i hi => ⟨IR_of_owns (hf i hi), fun b k => (hf i hi).lt b (inB_own (hf i hi) k)⟩⟩
theorem GN.grn {B : Nat} {w : World} {v : Value} {g : Gr} (h : GN B w v g) : GRn B w v g := by
 obtain ⟨vr, vn, fv, e, hr, hn, _⟩ := h
 exact ⟨vr, vn, _, e, ⟨IR_of_owns hr, fun b k => hr.lt b (inB_own hr k)⟩, hn.nk, fun b k => k.1⟩
theorem Grew.nown {B : Nat} {w w' : World} {nv : Value} {ns : List Nd} {fv : Nat -> Value} {S : Nat -> Prop} (q : Grew w w' S) (h : NOwn B w nv ns fv) (hS : ∀ b, S b -> b < B) : NOwn B w' nv ns fv := by
 obtain ⟨xs, ho, ht, hf, ha⟩ := h
 exact ⟨xs, q.own ho (fun b e s => by have := (ho.lt b e).1; have := hS b s; omega), ht, fun i hi => q.own (hf i hi) (fun b e s => by have := ((hf i hi).lt b e).1; have := hS b s; omega), ha⟩
theorem GN.base {B B' : Nat} {w : World} {v : Value} {g : Gr} (h : GN B w v g) (hB : B' <= B) : GN B' w v g := by
 obtain ⟨vr, vn, fv, e, hr, ⟨xs, ho, ht, hf, ha⟩, h2⟩ := h
 exact ⟨vr, vn, fv, e, gown_mono hr hB, ⟨xs, gown_mono ho hB, ht, fun i hi => gown_mono (hf i hi) hB, ha⟩, h2⟩
/-- One node more, whose fields were made since. -/
theorem NOwn.snoc {B : Nat} {w w1 w2 w3 : World} {nv nv1 f : Value} {ns : List Nd} {fv : Nat -> Value} {c z : Int} {fl : List Int} (h : NOwn B w nv ns fv) (b1 : Below w.heap.size w w1) (hf : w1.ownsRow w.heap.size 2 1 f fl.length (icells fl)) (hB : B <= w.heap.size)
  (b2 : Below w1.heap.size w1 w2) {xs : List Value} (ht : Trip xs ns fv) (ho : w3.ownsRow B 72 3 nv1 (ns.length + 1) (xs ++ [.int .i64 c, .int .i64 z, f])) (g : w2.grownBy w3 nv.ownBlock) :
  NOwn B w3 nv1 (ns ++ [⟨c, z, fl⟩]) (fun i => if i = ns.length then f else fv i) := by
 obtain ⟨xs0, ho0, _, hf0, ha0⟩ := h
 have o1 : w1.ownsRow B _ 3 nv ns.length xs0 := own_later ho0 b1
 have G : Grew w1 w3 (fun k => nv.ownBlock = some k) := (Grew.new b2 _).trans (Grew.grown g)
 have oF : w3.ownsRow B 2 1 f fl.length (icells fl) := gown_mono (G.own hf (fun b e q => type_ne hf o1 (by decide) e q)) hB
 have oI : ∀ i, i < ns.length -> w3.ownsRow B 2 1 (fv i) (ns.getD i nd0).fl.length (icells (ns.getD i nd0).fl) := fun i hi => G.own (own_later (hf0 i hi) b1) (fun b e q => type_ne (hf0 i hi) ho0 (by decide) e q)
 have eg : ∀ i, i < ns.length -> (ns ++ [(⟨c, z, fl⟩ : Nd)]).getD i nd0 = ns.getD i nd0 := fun i hi => by simp [List.getD_eq_getElem?_getD, List.getElem?_append_left hi]
 have en : (ns ++ [(⟨c, z, fl⟩ : Nd)]).getD ns.length nd0 = ⟨c, z, fl⟩ := by simp
 have hl : (ns ++ [(⟨c, z, fl⟩ : Nd)]).length = ns.length + 1 := by simp
 refine ⟨_, by rw [hl]; exact ho, ht.snoc c z fl f, fun i hi => ?_, fun i j hi hj ne b e => ?_⟩
 ·rw [hl] at hi
  dsimp only
  by_cases e : i = ns.length
  ·subst e
   rw [if_pos rfl, en]
   exact oF
  ·rw [if_neg e, eg i (by omega)]
   exact oI i (by omega)
 ·rw [hl] at hi hj
  dsimp only at e ⊢
  by_cases e1 : i = ns.length
  ·rw [if_pos e1] at e
   rw [if_neg (by omega)]
   intro q
   have h1 := (hf.lt b e).1
   have h2 := ((hf0 j (by omega)).lt b q).2
   omega
  ·rw [if_neg e1] at e
   by_cases e2 : j = ns.length
   ·rw [if_pos e2]
    intro q
    have h1 := (hf.lt b q).1
    have h2 := ((hf0 i (by omega)).lt b e).2
    omega
   ·rw [if_neg e2]
    exact ha0 i j (by omega) (by omega) ne b e
theorem GN.out {B : Nat} {w : World} {v : Value} {g : Gr} (h : GN B w v g) : ∃ ra rc na nc fv, v = .agg #[.slice ra g.roots.length rc, .slice na g.nodes.length nc, .int .i64 g.hash] /\ w.ownsRow B 2 1 (.slice ra g.roots.length rc) g.roots.length (icells g.roots) /\ NOwn B w (.slice na g.nodes.length nc) g.nodes fv /\ ∀ i, i < g.nodes.length -> ∀ b, Value.ownBlock (.slice ra g.roots.length rc) = some b -> (fv i).ownBlock ≠ some b := by
 obtain ⟨vr, vn, fv, rfl, hr, hn, ha⟩ := h
 obtain ⟨ra, rc, rfl⟩ := own_shape hr
 obtain ⟨na, nc, rfl⟩ : ∃ na nc, vn = .slice na g.nodes.length nc := by
  obtain ⟨xs, no, _⟩ := hn
  exact own_shape no
 exact ⟨ra, rc, na, nc, fv, rfl, hr, hn, ha⟩
end Go.Proofs.YthdffigckohpoaaGreat
/- Graphs that own their memory; markNodeS, markGraph, heldGraph. -/
namespace Go.Proofs.YthdffigckohpoaaGreat
open Go.RowKit
/-- The cells of a row of nodes of which i are marked. -/
def mkF (k : Int) (ns : List Nd) (f : Nat -> Value) (i j : Nat) : Value := if j < i * 3 /\ j % 3 = 0 then .int .i64 (mkK k ns (j / 3)) else if j < i * 3 /\ j % 3 = 1 then .int .i64 (mkK k ns (j / 3) + 1) else f j
/-- The state of the marking. -/
structure MkSt (w wr : World) (g N : Nat) (k : Int) (ns : List Nd) (f fv : Nat -> Value) (i B : Nat) : Prop where
 row : wr.rowIs g 72 N (mkF k ns f i)
 done : ∀ j, j < i -> IR wr (fv j) (imarks (mkK k ns j + 2) (ns.getD j nd0).fl.length)
 left : ∀ j, i <= j -> j < ns.length -> wr.ownsRow B 2 1 (fv j) (ns.getD j nd0).fl.length (icells (ns.getD j nd0).fl)
 grew : Grew w wr (fun b => b = g ∨ ∃ j, j < ns.length /\ (fv j).ownBlock = some b)
end Go.Proofs.YthdffigckohpoaaGreat
