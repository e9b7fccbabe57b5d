
import Derived.Test.YtboiknllmnfipaaDoorZU3
import Derived.Test.YtboiknllmnfipaaDoorZHSpecO
import Derived.Test.YtboiknllmnfipaaDoorZU0
import Derived.Maps.OwnSet
import Derived.Maps.OwnOps
import Derived.Maps.AppendAt
/- HeapOk, Objects, Young and Header of the model and of the program, in one plain word each. -/
namespace Go.Proofs.YtboiknllmnfipaaDoor
open Go.RowKit

noncomputable def okC (h : Hp) : Bool := @decide (∃ l, RightAt h l) (Classical.propDecidable _)
noncomputable def obC (h : Hp) : List Nat := @dite _ (∃ l, RightAt h l) (Classical.propDecidable _) (fun k => Classical.choose k) (fun _ => [])
noncomputable def isC (h : Hp) (x : Int) : Bool := (ints (obC h)).contains x
theorem c_yes {h : Hp} {l : List Nat} (k : RightAt h l) : okC h = true ∧ obC h = l := by
  have hk : ∃ l, RightAt h l := ⟨l, k⟩
  refine ⟨@decide_eq_true _ (Classical.propDecidable _) hk, ?_⟩
  unfold obC
  rw [dif_pos hk]
  exact (Classical.choose_spec hk).eq k
theorem c_no {h : Hp} (k : ∀ l, ¬ RightAt h l) : okC h = false ∧ obC h = [] := by
  have hk : ¬ ∃ l, RightAt h l := fun ⟨l, q⟩ => k l q
  refine ⟨@decide_eq_false _ (Classical.propDecidable _) hk, ?_⟩
  unfold obC
  rw [dif_neg hk]
theorem c_right {h : Hp} (k : okC h = true) : RightAt h (obC h) := by
  have hk : ∃ l, RightAt h l := @of_decide_eq_true _ (Classical.propDecidable _) k
  obtain ⟨l, q⟩ := hk
  rw [(c_yes q).2]
  exact q
theorem c_wrong {h : Hp} (k : okC h = false) : obC h = [] := (c_no (fun l q => by rw [(c_yes q).1] at k; cases k)).2
theorem ob_short (h : Hp) : (obC h).length ≤ 3200 := by
  cases k : okC h
  · rw [c_wrong k]; simp
  · exact (c_right k).1.short
theorem okOut_eq {h : Hp} {x : Ending} (k : OkOut h x) : x = .returned (.bool (okC h)) := by
  obtain ⟨ok, rfl, hk⟩ := k
  cases ok
  · rw [(c_no (fun l q => by have := hk.2 ⟨l, q⟩; cases this)).1]
  · obtain ⟨l, q⟩ := hk.1 rfl
    rw [(c_yes q).1]

theorem specHeapOk_c (v : Value) (h : Hp) (w : World) (hv : HR w v h) (hro : h.roots.length ≤ 1000000000000) (hke : h.kept.length ≤ 1000000000000) :
    Calls Tryd.prog 22 #[v] w fun x w' => x = .returned (.bool (okC h)) ∧ Below w.heap.size w w' :=
  (specHeapOk_any v h w hv hro hke).mono fun _ _ ⟨a, b⟩ => ⟨okOut_eq a, b⟩


theorem all_c (v : Value) (h : Hp) (w : World) (hv : HR w v h) (hk : okC h = true) :
    Calls Tryd.prog 25 #[v] w fun x w' => (∃ v', x = .returned v' ∧ IR w' v' (ints (obC h))) ∧ Below w.heap.size w w' :=
  (l5All_any v h w hv).mono fun x w' ⟨⟨l, v', _, e, ho, hp⟩, b⟩ => by
    have q := (c_right hk).1
    have : l = obC h := (hp _ q).eq q
    subst this
    exact ⟨⟨v', e, IR_of_owns' ho⟩, b⟩




end Go.Proofs.YtboiknllmnfipaaDoor

/- Graphs as they are read, and held against each other by the laws. -/
namespace Go.Proofs.YtboiknllmnfipaaDoor
open Go.RowKit

structure Nd where
  cls : Int
  hash : Int
  fl : List Int
structure Gr where
  roots : List Int
  nodes : List Nd
  hash : Int
def nd0 : Nd := ⟨0, 0, []⟩
/-- The nodes that a slice reads as. -/
def NR (w : World) (v : Value) (ns : List Nd) : Prop :=
  ∃ ao cap, v = .slice ao ns.length cap ∧ ns.length ≤ cap ∧ ∀ i, i < ns.length → ∃ b o fa fn fc, ao = some ⟨b, o, none⟩ ∧ w.cell? ⟨b, o + i * 3, none⟩ = some (.int .i64 (ns.getD i nd0).cls) ∧
    w.cell? ⟨b, o + i * 3 + 1, none⟩ = some (.int .i64 (ns.getD i nd0).hash) ∧ w.cell? ⟨b, o + i * 3 + 2, none⟩ = some (.slice fa fn fc) ∧ IR w (.slice fa fn fc) (ns.getD i nd0).fl
/-- The graph that a value reads as. -/
def GR (w : World) (v : Value) (g : Gr) : Prop := ∃ vr vn, v = .agg #[vr, vn, .int .i64 g.hash] ∧ IR w vr g.roots ∧ NR w vn g.nodes
theorem NR.later {w w' : World} {v : Value} {ns : List Nd} (h : NR w v ns) (hb : Below w.heap.size w w') : NR w' v ns := by
  obtain ⟨ao, cap, rfl, hle, h⟩ := h
  refine ⟨ao, cap, rfl, hle, fun i hi => ?_⟩
  obtain ⟨b, o, fa, fn, fc, e, c0, c1, c2, r⟩ := h i hi
  exact ⟨b, o, fa, fn, fc, e, cell_later hb c0, cell_later hb c1, cell_later hb c2, r.later hb⟩
theorem GR.later {w w' : World} {v : Value} {g : Gr} (h : GR w v g) (hb : Below w.heap.size w w') : GR w' v g := by
  obtain ⟨vr, vn, e, a, b⟩ := h
  exact ⟨vr, vn, e, a.later hb, b.later hb⟩
theorem NR.shape {w : World} {v : Value} {ns : List Nd} (h : NR w v ns) : ∃ ao cap, v = .slice ao ns.length cap := by
  obtain ⟨ao, cap, e, _⟩ := h
  exact ⟨ao, cap, e⟩
theorem GR.out {w : World} {v : Value} {g : Gr} (h : GR w v g) : ∃ ra rc na nc, v = .agg #[.slice ra g.roots.length rc, .slice na g.nodes.length nc, .int .i64 g.hash] ∧ IR w (.slice ra g.roots.length rc) g.roots ∧ NR w (.slice na g.nodes.length nc) g.nodes := by
  obtain ⟨vr, vn, rfl, hr, hn⟩ := h
  obtain ⟨ra, rc, rfl, _⟩ := id hr
  obtain ⟨na, nc, rfl⟩ := NR.shape hn
  exact ⟨ra, rc, na, nc, rfl, hr, hn⟩
def grF (rv nv : Value) (hh : Int) (i : Nat) : Value := if i = 0 then rv else if i = 1 then nv else .int .i64 hh
theorem graphC (w : World) (rv nv : Value) (hh : Int) (t : TypeId) : (w.alloc (.cells #[rv, nv, .int .i64 hh] t)).rowIs w.heap.size t 3 (grF rv nv hh) :=
  World.rowIs_alloc w #[rv, nv, .int .i64 hh] t _ (fun i hi => by
    match i, hi with
    | 0, _ => rfl
    | 1, _ => rfl
    | 2, _ => rfl)
theorem gr_cells {w : World} {b t : Nat} {rv nv : Value} {hh : Int} (h : w.rowIs b t 3 (grF rv nv hh)) : w.cell? ⟨b, 0, none⟩ = some rv ∧ w.cell? ⟨b, 1, none⟩ = some nv ∧ w.cell? ⟨b, 2, none⟩ = some (.int .i64 hh) :=
  ⟨h.cell (i := 0) (by omega), h.cell (i := 1) (by omega), h.cell (i := 2) (by omega)⟩

end Go.Proofs.YtboiknllmnfipaaDoor

/- Graphs in plain words: the objects in the order in which they are come to, the graph of a right heap, the heap of a graph, and that both ways to ask whether there is one say the same. -/
namespace Go.Proofs.YtboiknllmnfipaaDoor
open Go.RowKit

/-- One word followed: its object comes behind those that were found, if it is none of them. -/
def fol1 (o : List Nat) (x : Int) : List Nat := if isK 2 x = true then (if (x / 2).toNat ∈ o then o else o ++ [(x / 2).toNat]) else o
def fol (o : List Nat) (ws : List Int) : List Nat := ws.foldl fol1 o
/-- The objects that are come to by the roots and the fields of the first k. -/
def tr (W R : List Int) : Nat → List Nat
  | 0 => fol [] R
  | k + 1 => if k < (tr W R k).length then fol (tr W R k) (flds W ((tr W R k).getD k 0)) else tr W R k
/-- 3200, in a form that no one unfolds by mistake. -/
def lim (R : List Int) : Nat := 3200 + 0 * R.length
theorem lim_eq (R : List Int) : lim R = 3200 := by simp [lim]
def ordF (W R : List Int) : List Nat := tr W R (lim R)
theorem ord_tr (W R : List Int) : ordF W R = tr W R 3200 := by unfold ordF; rw [lim_eq]
/-- A word with its object's number. -/
def ren (F : List Nat) (x : Int) : Int := if isK 2 x = true then 2 * ((F.idxOf (x / 2).toNat : Nat) : Int) + 1 else x

theorem fol1_pre (o : List Nat) (x : Int) : o <+: fol1 o x := by
  unfold fol1
  split
  · split
    · exact List.prefix_refl _
    · exact List.prefix_append _ _
  · exact List.prefix_refl _
theorem fol_pre (ws : List Int) : ∀ o, o <+: fol o ws := by
  induction ws with
  | nil => intro o; exact List.prefix_refl _
  | cons x ws ih => intro o; exact (fol1_pre o x).trans (ih (fol1 o x))
theorem fol_append (o : List Nat) (a b : List Int) : fol o (a ++ b) = fol (fol o a) b := List.foldl_append
theorem fol_take_pre (o : List Nat) (ws : List Int) (j : Nat) : fol o (ws.take j) <+: fol o ws := by
  have := fol_pre (ws.drop j) (fol o (ws.take j))
  rwa [← fol_append, List.take_append_drop] at this
theorem itake_snoc (l : List Int) (k : Nat) (h : k < l.length) : l.take (k + 1) = l.take k ++ [l.getD k 0] := by
  rw [List.take_succ_eq_append_getElem h]
  simp [h]
theorem fol_snoc (o : List Nat) (ws : List Int) (j : Nat) (h : j < ws.length) : fol o (ws.take (j + 1)) = fol1 (fol o (ws.take j)) (ws.getD j 0) := by
  rw [itake_snoc ws j h, fol_append]
  rfl
theorem tr_next (W R : List Int) (k : Nat) (h : k < (tr W R k).length) : tr W R (k + 1) = fol (tr W R k) (flds W ((tr W R k).getD k 0)) := by
  rw [tr, if_pos h]
theorem tr_pre1 (W R : List Int) (k : Nat) : tr W R k <+: tr W R (k + 1) := by
  rw [tr]
  split
  · exact fol_pre _ _
  · exact List.prefix_refl _
theorem tr_pre (W R : List Int) (k d : Nat) : tr W R k <+: tr W R (k + d) := by
  induction d with
  | zero => exact List.prefix_refl _
  | succ d ih => exact ih.trans (tr_pre1 W R (k + d))
theorem tr_stay (W R : List Int) (k d : Nat) (h : (tr W R k).length ≤ k) : tr W R (k + d) = tr W R k := by
  induction d with
  | zero => rfl
  | succ d ih =>
    show tr W R ((k + d) + 1) = _
    rw [tr, if_neg (by rw [ih]; omega), ih]
theorem tr_end {W R : List Int} {k : Nat} (hk : k ≤ 3200) (h : (tr W R k).length ≤ k) : ordF W R = tr W R k := by
  have := tr_stay W R k (3200 - k) h
  rwa [show k + (3200 - k) = 3200 from by omega, ← ord_tr] at this
theorem tr_ord {W R : List Int} {k : Nat} (hk : k ≤ 3200) : tr W R k <+: ordF W R := by
  have := tr_pre W R k (3200 - k)
  rwa [show k + (3200 - k) = 3200 from by omega, ← ord_tr] at this
theorem fol1_nodup {o : List Nat} (h : o.Nodup) (x : Int) : (fol1 o x).Nodup := by
  unfold fol1
  split
  · split
    · exact h
    · rename_i hn
      rw [List.nodup_append]
      refine ⟨h, by simp, fun a ha b hb => ?_⟩
      rw [List.mem_singleton] at hb
      rintro rfl
      exact hn (hb ▸ ha)
  · exact h
theorem fol_nodup (ws : List Int) : ∀ {o : List Nat}, o.Nodup → (fol o ws).Nodup := by
  induction ws with
  | nil => intro o h; exact h
  | cons x ws ih => intro o h; exact ih (fol1_nodup h x)
theorem tr_nodup (W R : List Int) (k : Nat) : (tr W R k).Nodup := by
  induction k with
  | zero => exact fol_nodup R List.nodup_nil
  | succ k ih =>
    rw [tr]
    split
    · exact fol_nodup _ ih
    · exact ih
theorem fit_mem {l : List Nat} {x : Int} (h : fitB l x = true) (k : isK 2 x = true) : (x / 2).toNat ∈ l ∧ ((x / 2).toNat : Int) = x / 2 := by
  unfold isK at k
  have k' := of_decide_eq_true k
  unfold fitB at h
  rw [k'] at h
  simp at h
  unfold ints at h
  rw [List.mem_map] at h
  obtain ⟨a, ha, e⟩ := h
  rw [← e]
  exact ⟨by simpa using ha, by simp⟩
theorem fol1_sub {l o : List Nat} {x : Int} (ho : o ⊆ l) (hx : isK 2 x = true → (x / 2).toNat ∈ l) : fol1 o x ⊆ l := by
  unfold fol1
  split
  · rename_i hk
    split
    · exact ho
    · intro a ha
      rw [List.mem_append, List.mem_singleton] at ha
      rcases ha with ha | rfl
      · exact ho ha
      · exact hx hk
  · exact ho
theorem fol_sub {l : List Nat} (ws : List Int) : ∀ {o : List Nat}, o ⊆ l → (∀ x, x ∈ ws → fitB l x = true) → fol o ws ⊆ l := by
  induction ws with
  | nil => intro o h _; exact h
  | cons x ws ih => intro o h k; exact ih (fol1_sub h (fun q => (fit_mem (k x (by simp)) q).1)) (fun y hy => k y (by simp [hy]))
theorem fol1_has {o : List Nat} {x : Int} (k : isK 2 x = true) : (x / 2).toNat ∈ fol1 o x := by
  unfold fol1
  rw [if_pos k]
  split
  · assumption
  · simp
theorem right_fields {h : Hp} {l : List Nat} (k : RightAt h l) {a : Nat} (ha : a ∈ l) : ∀ x, x ∈ flds h.words a → fitB l x = true := by
  obtain ⟨_, _, _, _, _, _, _, q, _⟩ := k
  exact fld_mem.2 (q a ha)
theorem right_roots {h : Hp} {l : List Nat} (k : RightAt h l) : ∀ x, x ∈ h.roots → fitB l x = true := by
  obtain ⟨_, _, _, _, _, _, q, _, _⟩ := k
  exact q
theorem tr_sub {h : Hp} {l : List Nat} (r : RightAt h l) (k : Nat) : tr h.words h.roots k ⊆ l := by
  induction k with
  | zero => exact fol_sub _ (by simp) (right_roots r)
  | succ k ih =>
    rw [tr]
    split
    · rename_i hk
      exact fol_sub _ ih (right_fields r (ih (by simp [hk])))
    · exact ih
theorem tr_len {h : Hp} {l : List Nat} (r : RightAt h l) (k : Nat) : (tr h.words h.roots k).length ≤ 3200 :=
  Nat.le_trans ((tr_nodup _ _ k).length_le_of_subset (tr_sub r k)) r.1.short
theorem pre_get {a b : List Nat} (h : a <+: b) {i : Nat} (hi : i < a.length) : a.getD i 0 = b.getD i 0 := by
  obtain ⟨t, rfl⟩ := h
  simp [List.getD_eq_getElem?_getD, List.getElem?_append_left hi]
theorem ord_sub {h : Hp} {l : List Nat} (r : RightAt h l) : ordF h.words h.roots ⊆ l := tr_sub r _
theorem ord_len {h : Hp} {l : List Nat} (r : RightAt h l) : (ordF h.words h.roots).length ≤ 3200 := tr_len r _
theorem ren_pre {o F : List Nat} {x : Int} (h : o <+: F) (k : isK 2 x = true → (x / 2).toNat ∈ o) : ren o x = ren F x := by
  obtain ⟨t, rfl⟩ := h
  unfold ren
  split
  · rename_i hk
    rw [List.idxOf_append, if_pos (k hk)]
  · rfl

def ndOf (W : List Int) (F : List Nat) (a : Nat) : Nd := ⟨gw W (a + 1), gw W (a + 2), (flds W a).map (ren F)⟩
/-- The graph of a right heap. -/
def shG (W R : List Int) (F : List Nat) (H : Int) : Gr := ⟨R.map (ren F), F.map (ndOf W F), H⟩
def shP (h : Hp) : Gr := shG h.words h.roots (ordF h.words h.roots) h.hash
def gr0 : Gr := ⟨[], [], 0⟩
noncomputable def shC (h : Hp) : Gr := if okC h = true then shP h else gr0
theorem gd_in {l : List Int} {i : Nat} (h : i < l.length) : l.getD i 0 = l[i] := by simp [List.getD_eq_getElem?_getD, h]
end Go.Proofs.YtboiknllmnfipaaDoor

/- Worlds that have grown outside of some blocks. -/
namespace Go.Proofs.YtboiknllmnfipaaDoor
open Go.RowKit

/-- w' is w with new blocks, and with writes to blocks of S alone. -/
structure Grew (w w' : World) (S : Nat → Prop) : Prop where
  os : w'.os = w.os
  tape : w'.tape = w.tape
  output : w'.output = w.output
  size : w.heap.size ≤ w'.heap.size
  block : ∀ k, k < w.heap.size → ¬ S k → w'.heap[k]? = w.heap[k]?
theorem Grew.refl (w : World) (S : Nat → Prop) : Grew w w S := ⟨rfl, rfl, rfl, Nat.le_refl _, fun _ _ _ => rfl⟩
theorem Grew.mono {w w' : World} {S T : Nat → Prop} (h : Grew w w' S) (k : ∀ b, b < w.heap.size → S b → T b) : Grew w w' T :=
  ⟨h.os, h.tape, h.output, h.size, fun b hb hn => h.block b hb (fun s => hn (k b hb s))⟩
theorem Grew.trans {a b c : World} {S : Nat → Prop} (h : Grew a b S) (k : Grew b c S) : Grew a c S :=
  ⟨k.os.trans h.os, k.tape.trans h.tape, k.output.trans h.output, Nat.le_trans h.size k.size, fun i hi hn => (k.block i (Nat.lt_of_lt_of_le hi h.size) hn).trans (h.block i hi hn)⟩
theorem Grew.trans' {a b c : World} {S T : Nat → Prop} (h : Grew a b S) (k : Grew b c T) (hT : ∀ x, T x → S x ∨ a.heap.size ≤ x) : Grew a c S :=
  ⟨k.os.trans h.os, k.tape.trans h.tape, k.output.trans h.output, Nat.le_trans h.size k.size, fun i hi hn => (k.block i (Nat.lt_of_lt_of_le hi h.size) (fun q => (hT i q).elim hn (fun z => by omega))).trans (h.block i hi hn)⟩
theorem Grew.new {w w' : World} (h : Below w.heap.size w w') (S : Nat → Prop) : Grew w w' S := ⟨h.os, h.tape, h.output, h.size, fun k hk _ => h.block k hk⟩
theorem Grew.above {w w' : World} {B : Nat} (h : Below B w w') : Grew w w' (fun k => B ≤ k) := ⟨h.os, h.tape, h.output, h.size, fun k _ hn => h.block k (Nat.lt_of_not_le hn)⟩
theorem Grew.grown {w w' : World} {row : Option Nat} (h : w.grownBy w' row) : Grew w w' (fun k => row = some k) := ⟨h.os, h.tape, h.output, h.size, fun k hk hn => h.block k hk (fun e => hn e.symm)⟩
theorem Grew.set (w : World) (b i : Nat) (v : Value) : Grew w (w.setCell ⟨b, i, none⟩ v) (fun k => k = b) :=
  ⟨rfl, rfl, rfl, by simp [World.setCell], fun k _ hn => Below.heap_setCell _ _ _ _ hn⟩
theorem Grew.below {w w' : World} {S : Nat → Prop} {B : Nat} (h : Grew w w' S) (hB : B ≤ w.heap.size) (k : ∀ b, b < w.heap.size → S b → B ≤ b) : Below B w w' :=
  ⟨h.os, h.tape, h.output, h.size, fun b hb => h.block b (by omega) (fun s => by have := k b (by omega) s; omega)⟩
theorem Grew.drew {w w' : World} {S : Nat → Prop} (h : Grew w w' S) : Grew w w'.drew S := ⟨h.os, h.tape, h.output, h.size, h.block⟩
theorem Grew.cell {w w' : World} {S : Nat → Prop} {b o : Nat} {v : Value} (h : Grew w w' S) (hc : w.cell? ⟨b, o, none⟩ = some v) (hn : ¬ S b) : w'.cell? ⟨b, o, none⟩ = some v :=
  (World.cell?_of_block (w := w) (h.block b (World.block_lt_of_cell? _ _ hc) hn)).trans hc
theorem Grew.row {w w' : World} {S : Nat → Prop} {b t n : Nat} {f : Nat → Value} (h : Grew w w' S) (hr : w.rowIs b t n f) (hn : ¬ S b) : w'.rowIs b t n f := hr.of_block (h.block b hr.lt hn)
theorem Grew.own {w w' : World} {S : Nat → Prop} {B e size n : Nat} {v : Value} {xs : List Value} (h : Grew w w' S) (ho : w.ownsRow B e size v n xs) (hn : ∀ b, v.ownBlock = some b → ¬ S b) : w'.ownsRow B e size v n xs := by
  have hlt := ho.lt
  obtain ⟨hl, ho⟩ := ho
  refine ⟨hl, ?_⟩
  rcases ho with ho | ⟨g, cap, cur, rfl, hB, hh, h1⟩
  · exact .inl ho
  · exact .inr ⟨g, cap, cur, rfl, hB, (h.block g (hlt g rfl).2 (hn g rfl)).trans hh, h1⟩
/-- The cells of a slice that has some lie in this block. -/
def inB (v : Value) (b : Nat) : Prop := ∃ o n c, v = .slice (some ⟨b, o, none⟩) n c ∧ 0 < n
theorem IR.inlt {w : World} {v : Value} {l : List Int} (h : IR w v l) {b : Nat} (k : inB v b) : b < w.heap.size := by
  obtain ⟨o, n, c, e, hn⟩ := k
  exact h.lt _ _ _ e hn
theorem Grew.ir {w w' : World} {S : Nat → Prop} {v : Value} {l : List Int} (h : Grew w w' S) (hv : IR w v l) (hn : ∀ b, inB v b → ¬ S b) : IR w' v l := by
  obtain ⟨ao, cap, rfl, hle, hc⟩ := hv
  refine ⟨ao, cap, rfl, hle, fun i hi => ?_⟩
  obtain ⟨b, o, rfl, q⟩ := hc i hi
  exact ⟨b, o, rfl, h.cell q (hn b ⟨o, _, _, rfl, by omega⟩)⟩
theorem inB_own {w : World} {B e size n b : Nat} {v : Value} {xs : List Value} (h : w.ownsRow B e size v n xs) (k : inB v b) : v.ownBlock = some b := by
  obtain ⟨o, m, c, rfl, hm⟩ := k
  rcases h.2 with ⟨e0, _⟩ | ⟨g, cap, cur, e0, _⟩
  · cases e0
  · injection e0 with e1
    injection e1 with e1
    injection e1 with e1
    subst e1
    rfl
theorem own_shape {w : World} {B e size n : Nat} {v : Value} {xs : List Value} (h : w.ownsRow B e size v n xs) : ∃ ao cap, v = .slice ao n cap := by
  rcases h.2 with ⟨rfl, rfl⟩ | ⟨g, cap, cur, rfl, _⟩
  · exact ⟨none, 0, rfl⟩
  · exact ⟨_, cap, rfl⟩

/-! Maps -/
theorem gown_mono {w : World} {B B' e size n : Nat} {v : Value} {xs : List Value} (h : w.ownsRow B e size v n xs) (hB : B' ≤ B) : w.ownsRow B' e size v n xs := by
  obtain ⟨hl, h⟩ := h
  refine ⟨hl, ?_⟩
  rcases h with h | ⟨g, cap, cur, hv, hb, hh⟩
  · exact .inl h
  · exact .inr ⟨g, cap, cur, hv, Nat.le_trans hB hb, hh⟩

end Go.Proofs.YtboiknllmnfipaaDoor

/- Worlds that have grown outside of some blocks; maps from numbers to numbers; appending, with where the new row lies. -/
namespace Go.Proofs.YtboiknllmnfipaaDoor
open Go.RowKit Go.Maps

/-- Block b is a map of at most n entries that gives f. -/
def MP (w : World) (b n : Nat) (f : Int → Option Int) : Prop :=
  ∃ D : DataW Unit, w.ownsMap Tryd.prog 2 (plainElem Tryd.prog 2) b n D ∧ ∀ k, In64 k → Maps.has D (.int .i64 k) = (f k).isSome ∧ D.atKey (.int .i64 k) (.lit (.int .i64 0)) = .lit (.int .i64 ((f k).getD 0))
theorem MP.lt {w : World} {b n : Nat} {f : Int → Option Int} (h : MP w b n f) : b < w.heap.size := by
  obtain ⟨D, h, _⟩ := h
  exact h.lt
theorem MP.made (w : World) : MP (w.alloc (.map #[] 0)) w.heap.size 0 (fun _ => none) :=
  ⟨.map [], World.ownsMap_made _ _ _ _, fun _ _ => ⟨rfl, rfl⟩⟩
theorem Grew.mp {w w' : World} {S : Nat → Prop} {b n : Nat} {f : Int → Option Int} (h : Grew w w' S) (hm : MP w b n f) (hn : ¬ S b) : MP w' b n f := by
  have hlt := hm.lt
  obtain ⟨D, ⟨es, clock, hb, r⟩, q⟩ := hm
  exact ⟨D, ⟨es, clock, (h.block b hlt hn).trans hb, r⟩, q⟩
theorem MP.later {w w' : World} {b n : Nat} {f : Int → Option Int} (hm : MP w b n f) (h : Below w.heap.size w w') : MP w' b n f := (Grew.new h (fun _ => False)).mp hm (fun x => x)
def putF (f : Int → Option Int) (k v : Int) : Int → Option Int := fun j => if j = k then some v else f j

section
variable {ops : Array Oper} {rest : List Oper} {o : Oper} {a : Act} {Q : Exit → Act → World → Prop}

end
theorem app_at {ops : Array Oper} {rest : List Oper} {o : Oper} {a : Act} {Q : Exit → Act → World → Prop} (w : World) (hgd : o.guard = none) (s x : Operand)
    (ho : o.op = .call { callee := .builtin .append, args := #[s, x], argTypes := #[24, 24] }) (B : Nat) (v : Value) (n : Nat) (xs : List Value) (hs : a.eval s = v) (hown : w.ownsRow B 2 1 v n xs)
    (g c : Nat) (z : Int) (hx : a.eval x = .slice (some ⟨g, 0, none⟩) 1 c) (hc : w.cell? ⟨g, 0, none⟩ = some (.int .i64 z)) (hn : n ≤ 1000000000000) (hB : B ≤ w.heap.size)
    (h : ∀ v' w', w'.ownsRow B 2 1 v' (n + 1) (xs ++ [.int .i64 z]) → w.grownBy w' v.ownBlock → (v'.ownBlock = v.ownBlock ∨ v'.ownBlock = some w.heap.size) → wpList Tryd.prog ops Q rest (a.put o.dst v') w') : wpList Tryd.prog ops Q (o :: rest) a w := by
  obtain ⟨i, hi, hzz⟩ := Option.map_eq_some_iff.1 Tryd.infoI
  simp only [Prod.mk.injEq] at hzz
  obtain ⟨hz, hsz, hby⟩ := hzz
  refine wpList_append_own_at w hgd s x 24 ho B 2 i _ 1 8 Tryd.underlying24 hi hz hsz hby rfl (by omega) v n xs hs hown ⟨g, 0, none⟩ 1 c [.int .i64 z] hx rfl (fun j u hj => ?_) (fun u hu => ?_) (by unfold maxLen; omega) (by omega) hB (fun v' w' h1 h2 _ h4 => h v' w' h1 h2 h4)
  · match j, hj with
    | 0, hj => simp at hj; subst hj; simpa [Addr.add] using hc
  · simp at hu; subst hu; rfl

theorem Tryd.infoN : (Tryd.prog.info? 37).map (fun i => (i.zero, i.size, i.bytes)) = some (some (.agg #[.int .i64 0, .int .i64 0, .slice none 0 0]), 3, 40) := by kernel_rfl
/-- Appending one node, and where the new row lies. -/
theorem app_node {ops : Array Oper} {rest : List Oper} {o : Oper} {a : Act} {Q : Exit → Act → World → Prop} (w : World) (hgd : o.guard = none) (s x : Operand)
    (ho : o.op = .call { callee := .builtin .append, args := #[s, x], argTypes := #[25, 25] }) (B : Nat) (v : Value) (n : Nat) (xs : List Value) (hs : a.eval s = v) (hown : w.ownsRow B 37 3 v n xs)
    (g c : Nat) (z y : Int) (fa : Option Addr) (fn fc : Nat) (hx : a.eval x = .slice (some ⟨g, 0, none⟩) 1 c) (hc : w.cell? ⟨g, 0, none⟩ = some (.int .i64 z) ∧ w.cell? ⟨g, 1, none⟩ = some (.int .i64 y) ∧ w.cell? ⟨g, 2, none⟩ = some (.slice fa fn fc)) (hn : n ≤ 1000000000) (hB : B ≤ w.heap.size)
    (h : ∀ v' w', w'.ownsRow B 37 3 v' (n + 1) (xs ++ [.int .i64 z, .int .i64 y, .slice fa fn fc]) → w.grownBy w' v.ownBlock → (v'.ownBlock = v.ownBlock ∨ v'.ownBlock = some w.heap.size) → wpList Tryd.prog ops Q rest (a.put o.dst v') w') : wpList Tryd.prog ops Q (o :: rest) a w := by
  obtain ⟨i, hi, hzz⟩ := Option.map_eq_some_iff.1 Tryd.infoN
  simp only [Prod.mk.injEq] at hzz
  obtain ⟨hz, hsz, hby⟩ := hzz
  refine wpList_append_own_at w hgd s x 25 ho B 37 i _ 3 40 Tryd.underlying25 hi hz hsz hby rfl (by omega) v n xs hs hown ⟨g, 0, none⟩ 1 c [.int .i64 z, .int .i64 y, .slice fa fn fc] hx rfl (fun j u hj => ?_) (fun u hu => ?_) (by unfold maxLen; omega) (by omega) hB (fun v' w' h1 h2 _ h4 => h v' w' h1 h2 h4)
  · match j, hj with
    | 0, hj => simp at hj; subst hj; simpa [Addr.add] using hc.1
    | 1, hj => simp at hj; subst hj; simpa [Addr.add] using hc.2.1
    | 2, hj => simp at hj; subst hj; simpa [Addr.add] using hc.2.2
  · simp at hu; rcases hu with rfl | rfl | rfl <;> rfl

end Go.Proofs.YtboiknllmnfipaaDoor

/- l6Told of the model: a word with its object's number. -/
namespace Go.Proofs.YtboiknllmnfipaaDoor
open Go.RowKit

/-- The numbers of the objects that were found, one more each, nought for none. -/
def nmF (o : List Nat) (i : Nat) : Value := .int .i64 (if i ∈ o then ((o.idxOf i : Nat) : Int) + 1 else 0)
def ToldOut (b3 B : Nat) (ov : Value) (o : List Nat) (x : Int) (w : World) (e : Ending) (w' : World) : Prop :=
  ∃ ov', e = .returned (.tuple #[.int .i64 (ren (fol1 o x) x), ov']) ∧ w'.rowIs b3 2 3200 (nmF (fol1 o x)) ∧ w'.ownsRow B 2 1 ov' (fol1 o x).length (icells (ints (fol1 o x))) ∧ ov'.ownBlock ≠ some b3 ∧
    (ov'.ownBlock = ov.ownBlock ∨ ∃ b, ov'.ownBlock = some b ∧ w.heap.size ≤ b) ∧ Grew w w' (fun k => k = b3 ∨ ov.ownBlock = some k)

theorem odd_parts {x : Int} (h : isK 2 x = true) : ∃ a : Nat, a < 3200 ∧ (x / 2).toNat = a ∧ (x.tmod 2 == 0) = false ∧ x.tdiv 2 = (a : Int) := by
  unfold isK kindW at h
  have h' := of_decide_eq_true h
  split at h'
  · rename_i h1
    split at h'
    · rename_i h2
      unfold adrB at h2
      have h3 := of_decide_eq_true h2
      refine ⟨(x / 2).toNat, by omega, rfl, by rw [tmod_two]; exact decide_eq_false (by omega), ?_⟩
      rw [Int.tdiv_eq_ediv_of_nonneg (by omega)]
      omega
    · omega
  · split at h' <;> omega
theorem even_not {x : Int} (h : x % 2 = 0) : isK 2 x = false := by
  unfold isK kindW
  rw [if_neg (by omega)]
  split <;> rfl
theorem nm_new {w : World} {b : Nat} {o : List Nat} {a : Nat} (h : w.rowIs b 2 3200 (nmF o)) (ha : a ∉ o) : (w.setCell ⟨b, a, none⟩ (.int .i64 ((o.length : Int) + 1))).rowIs b 2 3200 (nmF (o ++ [a])) := by
  refine (h.set a _).congr fun i _ => ?_
  unfold nmF
  by_cases e : i = a
  · subst e
    rw [if_pos rfl, if_pos (by simp), List.idxOf_append, if_neg ha]
    simp
  · rw [if_neg e]
    by_cases m : i ∈ o
    · rw [if_pos m, if_pos (by simp [m]), List.idxOf_append, if_pos m]
    · rw [if_neg m, if_neg (by simp [m, e])]

set_option maxHeartbeats 1600000 in
theorem l6Told_any (b3 c3 B : Nat) (ov : Value) (o : List Nat) (x : Int) (w : World) (hrow : w.rowIs b3 2 3200 (nmF o)) (hov : w.ownsRow B 2 1 ov o.length (icells (ints o))) (hap : ov.ownBlock ≠ some b3) (hB : B ≤ w.heap.size) (hx : x % 2 = 0 ∨ isK 2 x = true) (hl : o.length ≤ 3200) :
    Calls Tryd.prog 39 #[.slice (some ⟨b3, 0, none⟩) 3200 c3, ov, .int .i64 x] w fun e w' => ToldOut b3 B ov o x w e w' := by
  rcases hx with hx | hx
  · have t : (x.tmod 2 == 0) = true := by rw [tmod_two]; exact decide_eq_true hx
    have f : fol1 o x = o := by unfold fol1; rw [even_not hx]; rfl
    have r : ren o x = x := by unfold ren; rw [even_not hx]; rfl
    have G : Hid (ToldOut b3 B ov o x w (.returned (.tuple #[.int .i64 x, ov])) w) := ⟨ov, by rw [f, r], by rw [f]; exact hrow, by rw [f]; exact hov, hap, .inl rfl, Grew.refl _ _⟩
    clear f r hx hrow hov
    go_enter Tryd.func39, Tryd.ntmps39
    go_wp2
    exact bodyPost_ret (v := .tuple #[.int .i64 x, ov]) (by simp [results, Tryd.results39, go_sem]) rfl G.out
  · obtain ⟨a, ha, hat, t, hd⟩ := odd_parts hx
    have hai : (a : Int) < 3200 := by omega
    have c0 := hrow.cell (i := a) ha
    by_cases hm : a ∈ o
    · have f : fol1 o x = o := by unfold fol1; rw [if_pos hx, hat, if_pos hm]
      have r : ren o x = 2 * ((o.idxOf a : Nat) : Int) + 1 := by unfold ren; rw [if_pos hx, hat]
      have G : Hid (ToldOut b3 B ov o x w (.returned (.tuple #[.int .i64 (2 * ((o.idxOf a : Nat) : Int) + 1), ov])) w) := ⟨ov, by rw [f, r], by rw [f]; exact hrow, by rw [f]; exact hov, hap, .inl rfl, Grew.refl _ _⟩
      have hi : o.idxOf a < 3200 := Nat.lt_of_lt_of_le (List.idxOf_lt_length_of_mem hm) hl
      unfold nmF at c0
      rw [if_pos hm] at c0
      clear f r hx hrow hov hat hm
      generalize o.idxOf a = m at *
      have ne : ((m : Int) + 1 == 0) = false := by simp; omega
      go_enter Tryd.func39, Tryd.ntmps39
      go_wp2
      exact bodyPost_ret (v := .tuple #[.int .i64 (2 * (m : Int) + 1), ov]) (by simp [results, Tryd.results39, go_sem]) rfl G.out
    · have f : fol1 o x = o ++ [a] := by unfold fol1; rw [if_pos hx, hat, if_neg hm]
      have r : ren (o ++ [a]) x = 2 * ((o.length : Nat) : Int) + 1 := by
        unfold ren
        rw [if_pos hx, hat, List.idxOf_append, if_neg hm]
        simp
      unfold nmF at c0
      rw [if_neg hm] at c0
      have FR : Hid (fol1 o x = o ++ [a] ∧ ren (fol1 o x) x = 2 * ((o.length : Nat) : Int) + 1) := ⟨f, by rw [f, r]⟩
      have NM : Hid (∀ W : World, W.rowIs b3 2 3200 (nmF o) → (W.setCell ⟨b3, a, none⟩ (.int .i64 ((o.length : Int) + 1))).rowIs b3 2 3200 (nmF (o ++ [a]))) := fun W hW => nm_new hW hm
      have hs3 := hrow.lt
      have N0 : Hid (nmF o a = .int .i64 0 ∧ nmF (o ++ [a]) a = .int .i64 ((o.length : Int) + 1)) := ⟨by unfold nmF; rw [if_neg hm], by unfold nmF; rw [if_pos (by simp), List.idxOf_append, if_neg hm]; simp⟩
      clear f r hx hat hm
      have al := bel_one w (.cells #[.int .i64 a] 2)
      have hov2 := own_later hov al
      have hrow2 : (w.alloc (.cells #[.int .i64 a] 2)).rowIs b3 2 3200 (nmF o) := (Grew.new al (fun _ => False)).row hrow (fun q => q)
      have hc : ∀ W : World, (W.alloc (.cells #[.int .i64 a] 2)).cell? ⟨W.heap.size, 0, none⟩ = some (.int .i64 (a : Int)) := fun W => by simp
      have HR : Hid ((w.alloc (.cells #[.int .i64 a] 2)).rowIs b3 2 3200 (nmF o)) := hrow2
      clear hrow hrow2
      go_enter Tryd.func39, Tryd.ntmps39
      go_wp2_with (at_builtin; refine app_at _ rfl _ _ rfl B _ o.length (icells (ints o)) rfl hov2 _ 1 a rfl (hc _) (by omega) (Nat.le_trans hB (by simp)) ?_; intro v4 w4 hown4 hg4 hloc; (obtain ⟨fo, fc, hv4⟩ : ∃ fo fc, v4 = .slice fo (o.length + 1) fc := own_shape hown4); subst hv4; have R4 := (Grew.grown hg4).row HR.out (fun q => hap q); have R5 := NM.out _ R4; have hf4 := R4.frozen a; have c4 := R4.cell (i := a) ha; have c5 := R5.cell (i := a) ha; rw [N0.out.1] at c4; rw [N0.out.2] at c5)
      have hloc2 : Value.ownBlock (.slice fo (o.length + 1) fc) = ov.ownBlock ∨ Value.ownBlock (.slice fo (o.length + 1) fc) = some (w.heap.size + 1) := by
        rcases hloc with e | e
        · exact .inl e
        · exact .inr (by rw [e]; simp)
      have hg5 : (w.alloc (.cells #[.int .i64 a] 2)).grownBy w4 ov.ownBlock := hg4
      have lv : Value.ownBlock (.slice fo (o.length + 1) fc) ≠ some b3 := by
        rcases hloc2 with e | e
        · rw [e]; exact hap
        · rw [e]; simp; omega
      have P : ToldOut b3 B ov o x w (.returned (.tuple #[.int .i64 (2 * (o.length : Int) + 1), .slice fo (o.length + 1) fc])) (w4.setCell ⟨b3, a, none⟩ (.int .i64 ((o.length : Int) + 1))) := by
        refine ⟨_, by rw [FR.out.2], by rw [FR.out.1]; exact R5, ?_, lv, ?_, ?_⟩
        · rw [FR.out.1]
          have o5 := (Grew.set w4 b3 a (.int .i64 ((o.length : Int) + 1))).own hown4 (fun b e q => lv (by rw [e, q]))
          simpa [icells, ints] using o5
        · rcases hloc2 with e | e
          · exact .inl e
          · exact .inr ⟨_, e, by omega⟩
        · exact ((Grew.new al _).trans ((Grew.grown hg5).mono fun k _ e => .inr e)).trans ((Grew.set w4 b3 a (.int .i64 ((o.length : Int) + 1))).mono fun k _ e => .inl e)
      exact bodyPost_ret (v := .tuple #[.int .i64 (2 * (o.length : Int) + 1), .slice fo (o.length + 1) fc]) (by simp [results, Tryd.results39, go_sem]) rfl P

end Go.Proofs.YtboiknllmnfipaaDoor
