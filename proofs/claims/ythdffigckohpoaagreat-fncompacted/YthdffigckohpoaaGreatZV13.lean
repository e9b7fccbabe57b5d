
import Derived.Test.YthdffigckohpoaaGreatZV4
import Derived.Test.YthdffigckohpoaaGreatZV0
import Derived.Test.YthdffigckohpoaaGreatZV5
import Derived.Test.YthdffigckohpoaaGreatZV12
import Derived.Test.YthdffigckohpoaaGreatZV7
import Derived.Maps.OwnSet
import Derived.Maps.OwnOps
import Derived.Maps.AppendAt
/- Theory of FnRooted and FnSet: a heap with another root is right; what is set is got, set back it is the heap of before. -/
namespace Go.Proofs.YthdffigckohpoaaGreat
open Go.RowKit
end Go.Proofs.YthdffigckohpoaaGreat
/- Graphs as they are read, and held against each other by the laws. -/
namespace Go.Proofs.YthdffigckohpoaaGreat
open Go.RowKit
structure Nd where
 cls : Int
 hash : Int
 fl : List Int
structure Gr where
 roots : List Int
 nodes : List Nd
 hash : Int
def nd0 : Nd := ⟨0, 0, []⟩
/-- The nodes that a slice reads as. -/
def NR (w : World) (v : Value) (ns : List Nd) : Prop :=
 ∃ ao cap, v = .slice ao ns.length cap /\ ns.length <= cap /\ ∀ i, i < ns.length -> ∃ b o fa fn fc, ao = some ⟨b, o, none⟩ /\ w.cell? ⟨b, o + i * 3, none⟩ = some (.int .i64 (ns.getD i nd0).cls) ∧
  w.cell? ⟨b, o + i * 3 + 1, none⟩ = some (.int .i64 (ns.getD i nd0).hash) /\ w.cell? ⟨b, o + i * 3 + 2, none⟩ = some (.slice fa fn fc) /\ IR w (.slice fa fn fc) (ns.getD i nd0).fl
/-- The graph that a value reads as. -/
def GR (w : World) (v : Value) (g : Gr) : Prop := ∃ vr vn, v = .agg #[vr, vn, .int .i64 g.hash] /\ IR w vr g.roots /\ NR w vn g.nodes
theorem NR.later {w w' : World} {v : Value} {ns : List Nd} (h : NR w v ns) (hb : Below w.heap.size w w') : NR w' v ns := by
 obtain ⟨ao, cap, rfl, hle, h⟩ := h
 refine ⟨ao, cap, rfl, hle, fun i hi => ?_⟩
 obtain ⟨b, o, fa, fn, fc, e, c0, c1, c2, r⟩ := h i hi
 exact ⟨b, o, fa, fn, fc, e, cell_later hb c0, cell_later hb c1, cell_later hb c2, r.later hb⟩
theorem GR.later {w w' : World} {v : Value} {g : Gr} (h : GR w v g) (hb : Below w.heap.size w w') : GR w' v g := by
 obtain ⟨vr, vn, e, a, b⟩ := h
 exact ⟨vr, vn, e, a.later hb, b.later hb⟩
theorem NR.shape {w : World} {v : Value} {ns : List Nd} (h : NR w v ns) : ∃ ao cap, v = .slice ao ns.length cap := by
 obtain ⟨ao, cap, e, _⟩ := h
 exact ⟨ao, cap, e⟩
theorem GR.out {w : World} {v : Value} {g : Gr} (h : GR w v g) : ∃ ra rc na nc, v = .agg #[.slice ra g.roots.length rc, .slice na g.nodes.length nc, .int .i64 g.hash] /\ IR w (.slice ra g.roots.length rc) g.roots /\ NR w (.slice na g.nodes.length nc) g.nodes := by
 obtain ⟨vr, vn, rfl, hr, hn⟩ := h
 obtain ⟨ra, rc, rfl, _⟩ := id hr
 obtain ⟨na, nc, rfl⟩ := NR.shape hn
 exact ⟨ra, rc, na, nc, rfl, hr, hn⟩
def grF (rv nv : Value) (hh : Int) (i : Nat) : Value := if i = 0 then rv else if i = 1 then nv else .int .i64 hh
theorem graphC (w : World) (rv nv : Value) (hh : Int) (t : TypeId) : (w.alloc (.cells #[rv, nv, .int .i64 hh] t)).rowIs w.heap.size t 3 (grF rv nv hh) :=
 World.rowIs_alloc w #[rv, nv, .int .i64 hh] t _ (fun i hi => by
  match i, hi with
  | 0, _ => rfl
  | 1, _ => rfl
  | 2, _ => rfl)
end Go.Proofs.YthdffigckohpoaaGreat
/- Graphs in plain words: the objects in the order in which they are come to, the graph of a right heap, the heap of a graph, and that both ways to ask whether there is one say the same. -/
namespace Go.Proofs.YthdffigckohpoaaGreat
open Go.RowKit
/-- One word followed: its object comes behind those that were found, if it is none of them. -/
def fol1 (o : List Nat) (x : Int) : List Nat := if isK 2 x = true then (if (x / 2).toNat ∈ o then o else o ++ [(x / 2).toNat]) else o
def fol (o : List Nat) (ws : List Int) : List Nat := ws.foldl fol1 o
/-- The objects that are come to by the roots and the fields of the first k. -/
def tr (W R : List Int) : Nat -> List Nat
 | 0 => fol [] R
 | k + 1 => if k < (tr W R k).length then fol (tr W R k) (flds W ((tr W R k).getD k 0)) else tr W R k
/-- 3200, in a form that no one unfolds by mistake. -/
def lim (R : List Int) : Nat := 3200 + 0 * R.length
theorem lim_eq (R : List Int) : lim R = 3200 := by simp [lim]
def ordF (W R : List Int) : List Nat := tr W R (lim R)
theorem ord_tr (W R : List Int) : ordF W R = tr W R 3200 := by unfold ordF; rw [lim_eq]
/-- A word with its object's number. -/
def ren (F : List Nat) (x : Int) : Int := if isK 2 x = true then 2 * ((F.idxOf (x / 2).toNat : Nat) : Int) + 1 else x
theorem fol1_pre (o : List Nat) (x : Int) : o <+: fol1 o x := by
 unfold fol1
 split
 ·split
  ·exact List.prefix_refl _
  ·exact List.prefix_append _ _
 ·exact List.prefix_refl _
theorem fol_pre (ws : List Int) : ∀ o, o <+: fol o ws := by
 induction ws with
 | nil => intro o; exact List.prefix_refl _
 | cons x ws ih => intro o; exact (fol1_pre o x).trans (ih (fol1 o x))
theorem fol_append (o : List Nat) (a b : List Int) : fol o (a ++ b) = fol (fol o a) b := List.foldl_append
theorem fol_take_pre (o : List Nat) (ws : List Int) (j : Nat) : fol o (ws.take j) <+: fol o ws := by
 have := fol_pre (ws.drop j) (fol o (ws.take j))
 rwa [<- fol_append, List.take_append_drop] at this
theorem itake_snoc (l : List Int) (k : Nat) (h : k < l.length) : l.take (k + 1) = l.take k ++ [l.getD k 0] := by
 rw [List.take_succ_eq_append_getElem h]
 simp [h]
theorem fol_snoc (o : List Nat) (ws : List Int) (j : Nat) (h : j < ws.length) : fol o (ws.take (j + 1)) = fol1 (fol o (ws.take j)) (ws.getD j 0) := by
 rw [itake_snoc ws j h, fol_append]
 rfl
theorem tr_next (W R : List Int) (k : Nat) (h : k < (tr W R k).length) : tr W R (k + 1) = fol (tr W R k) (flds W ((tr W R k).getD k 0)) := by
 rw [tr, if_pos h]
theorem tr_pre1 (W R : List Int) (k : Nat) : tr W R k <+: tr W R (k + 1) := by
 rw [tr]
 split
 ·exact fol_pre _ _
 ·exact List.prefix_refl _
theorem tr_pre (W R : List Int) (k d : Nat) : tr W R k <+: tr W R (k + d) := by
 induction d with
 | zero => exact List.prefix_refl _
 | succ d ih => exact ih.trans (tr_pre1 W R (k + d))
theorem tr_stay (W R : List Int) (k d : Nat) (h : (tr W R k).length <= k) : tr W R (k + d) = tr W R k := by
 induction d with
 | zero => rfl
 | succ d ih =>
  show tr W R ((k + d) + 1) = _
  rw [tr, if_neg (by rw [ih]; omega), ih]
theorem tr_end {W R : List Int} {k : Nat} (hk : k <= 3200) (h : (tr W R k).length <= k) : ordF W R = tr W R k := by
 have := tr_stay W R k (3200 - k) h
 rwa [show k + (3200 - k) = 3200 from by omega, ← ord_tr] at this
theorem tr_ord {W R : List Int} {k : Nat} (hk : k <= 3200) : tr W R k <+: ordF W R := by
 have := tr_pre W R k (3200 - k)
 rwa [show k + (3200 - k) = 3200 from by omega, ← ord_tr] at this
theorem fol1_nodup {o : List Nat} (h : o.Nodup) (x : Int) : (fol1 o x).Nodup := by
 unfold fol1
 split
 ·split
  ·exact h
  ·rename_i hn
   rw [List.nodup_append]
   refine ⟨h, by simp, fun a ha b hb => ?_⟩
   rw [List.mem_singleton] at hb
   rintro rfl
   exact hn (hb ▸ ha)
 ·exact h
theorem fol_nodup (ws : List Int) : ∀ {o : List Nat}, o.Nodup -> (fol o ws).Nodup := by
 induction ws with
 | nil => intro o h; exact h
 | cons x ws ih => intro o h; exact ih (fol1_nodup h x)
theorem tr_nodup (W R : List Int) (k : Nat) : (tr W R k).Nodup := by
 induction k with
 | zero => exact fol_nodup R List.nodup_nil
 | succ k ih =>
  rw [tr]
  split
  ·exact fol_nodup _ ih
  ·exact ih
theorem fit_mem {l : List Nat} {x : Int} (h : fitB l x = true) (k : isK 2 x = true) : (x / 2).toNat ∈ l /\ ((x / 2).toNat : Int) = x / 2 := by
 unfold isK at k
 have k' := of_decide_eq_true k
 unfold fitB at h
 rw [k'] at h
 simp at h
 unfold ints at h
 rw [List.mem_map] at h
 obtain ⟨a, ha, e⟩ := h
 rw [<- e]
 exact ⟨by simpa using ha, by simp⟩
theorem fol1_sub {l o : List Nat} {x : Int} (ho : o ⊆ l) (hx : isK 2 x = true -> (x / 2).toNat ∈ l) : fol1 o x ⊆ l := by
 unfold fol1
 split
 ·rename_i hk
  split
  ·exact ho
  ·intro a ha
   rw [List.mem_append, List.mem_singleton] at ha
   rcases ha with ha | rfl
   ·exact ho ha
   ·exact hx hk
 ·exact ho
theorem fol_sub {l : List Nat} (ws : List Int) : ∀ {o : List Nat}, o ⊆ l -> (∀ x, x ∈ ws -> fitB l x = true) -> fol o ws ⊆ l := by
 induction ws with
 | nil => intro o h _; exact h
 | cons x ws ih => intro o h k; exact ih (fol1_sub h (fun q => (fit_mem (k x (by simp)) q).1)) (fun y hy => k y (by simp [hy]))
theorem fol1_has {o : List Nat} {x : Int} (k : isK 2 x = true) : (x / 2).toNat ∈ fol1 o x := by
 unfold fol1
 rw [if_pos k]
 split
 ·assumption
 ·simp
theorem fol_has (ws : List Int) : ∀ {o : List Nat} {x : Int}, x ∈ ws -> isK 2 x = true -> (x / 2).toNat ∈ fol o ws := by
 induction ws with
 | nil => intro o x h; simp at h
 | cons y ws ih =>
  intro o x h k
  rw [List.mem_cons] at h
  rcases h with rfl | h
  ·exact (fol_pre ws (fol1 o x)).subset (fol1_has k)
  ·exact ih h k
theorem right_fields {h : Hp} {l : List Nat} (k : RightAt h l) {a : Nat} (ha : a ∈ l) : ∀ x, x ∈ flds h.words a -> fitB l x = true := by
 obtain ⟨_, _, _, _, _, _, _, q, _⟩ := k
 exact fld_mem.2 (q a ha)
theorem right_roots {h : Hp} {l : List Nat} (k : RightAt h l) : ∀ x, x ∈ h.roots -> fitB l x = true := by
 obtain ⟨_, _, _, _, _, _, q, _, _⟩ := k
 exact q
theorem tr_sub {h : Hp} {l : List Nat} (r : RightAt h l) (k : Nat) : tr h.words h.roots k ⊆ l := by
 induction k with
 | zero => exact fol_sub _ (by simp) (right_roots r)
 | succ k ih =>
  rw [tr]
  split
  ·rename_i hk
   exact fol_sub _ ih (right_fields r (ih (by simp [hk])))
  ·exact ih
theorem tr_len {h : Hp} {l : List Nat} (r : RightAt h l) (k : Nat) : (tr h.words h.roots k).length <= 3200 :=
 Nat.le_trans ((tr_nodup _ _ k).length_le_of_subset (tr_sub r k)) r.1.short
theorem tr_far {W R : List Int} {i : Nat} (hi : i < (ordF W R).length) (h3 : (ordF W R).length <= 3200) : i < (tr W R i).length := by
 rcases Nat.lt_or_ge i (tr W R i).length with q | q
 ·exact q
 ·rw [tr_end (by omega) q] at hi
  omega
theorem pre_get {a b : List Nat} (h : a <+: b) {i : Nat} (hi : i < a.length) : a.getD i 0 = b.getD i 0 := by
 obtain ⟨t, rfl⟩ := h
 simp [List.getD_eq_getElem?_getD, List.getElem?_append_left hi]
theorem ord_sub {h : Hp} {l : List Nat} (r : RightAt h l) : ordF h.words h.roots ⊆ l := tr_sub r _
theorem ord_len {h : Hp} {l : List Nat} (r : RightAt h l) : (ordF h.words h.roots).length <= 3200 := tr_len r _
theorem ord_nodup (W R : List Int) : (ordF W R).Nodup := tr_nodup W R _
theorem ord_roots {W R : List Int} {x : Int} (hx : x ∈ R) (k : isK 2 x = true) : (x / 2).toNat ∈ ordF W R :=
 (tr_ord (k := 0) (by omega)).subset (fol_has R hx k)
theorem ord_fields {h : Hp} {l : List Nat} (r : RightAt h l) {a : Nat} (ha : a ∈ ordF h.words h.roots) {x : Int} (hx : x ∈ flds h.words a) (k : isK 2 x = true) : (x / 2).toNat ∈ ordF h.words h.roots := by
 obtain ⟨i, hi, e⟩ := List.getElem_of_mem ha
 have h3 := ord_len r
 have hf := tr_far hi h3
 have hp := tr_ord (W := h.words) (R := h.roots) (k := i) (by omega)
 have e2 : (tr h.words h.roots i).getD i 0 = a := by rw [pre_get hp hf]; simp [hi, e]
 refine (tr_ord (k := i + 1) (by omega)).subset ?_
 rw [tr_next _ _ _ hf, e2]
 exact fol_has _ hx k
def ndOf (W : List Int) (F : List Nat) (a : Nat) : Nd := ⟨gw W (a + 1), gw W (a + 2), (flds W a).map (ren F)⟩
/-- The graph of a right heap. -/
def shG (W R : List Int) (F : List Nat) (H : Int) : Gr := ⟨R.map (ren F), F.map (ndOf W F), H⟩
def shP (h : Hp) : Gr := shG h.words h.roots (ordF h.words h.roots) h.hash
def gr0 : Gr := ⟨[], [], 0⟩
noncomputable def shC (h : Hp) : Gr := if okC h = true then shP h else gr0
def reP (h : Hp) : Int := ((ordF h.words h.roots).map fun a => (nx h.words a : Int) - a).sum
noncomputable def reC (h : Hp) : Int := if okC h = true then reP h else -1
/-! Building -/
theorem gd_left {l m : List Int} {i : Nat} (h : i < l.length) : (l ++ m).getD i 0 = l.getD i 0 := by
 simp [List.getD_eq_getElem?_getD, List.getElem?_append_left h]
theorem gd_right {l m : List Int} {i : Nat} (h : l.length <= i) : (l ++ m).getD i 0 = m.getD (i - l.length) 0 := by
 simp [List.getD_eq_getElem?_getD, List.getElem?_append_right h]
theorem gd_in {l : List Int} {i : Nat} (h : i < l.length) : l.getD i 0 = l[i] := by simp [List.getD_eq_getElem?_getD, h]
end Go.Proofs.YthdffigckohpoaaGreat
/- What is reached: the marks of the model's compacting collector and the tour of the graph are of the same objects; garbage in plain words. -/
namespace Go.Proofs.YthdffigckohpoaaGreat
open Go.RowKit
theorem fol_in {P : Nat -> Prop} (ws : List Int) : ∀ {o : List Nat}, (∀ a, a ∈ o -> P a) -> (∀ x, x ∈ ws -> isK 2 x = true -> P (x / 2).toNat) -> ∀ a, a ∈ fol o ws -> P a := by
 induction ws with
 | nil => intro o h _ a ha; exact h a ha
 | cons x ws ih =>
  intro o h hx a ha
  refine ih (o := fol1 o x) (fun b hb => ?_) (fun y hy => hx y (by simp [hy])) a ha
  unfold fol1 at hb
  split at hb
  ·split at hb
   ·exact h b hb
   ·rename_i k _
    rw [List.mem_append, List.mem_singleton] at hb
    rcases hb with hb | rfl
    ·exact h b hb
    ·exact hx x (by simp) k
  ·exact h b hb
theorem isK_odd {x : Int} (k : isK 2 x = true) : ¬ x % 2 = 0 := by
 unfold isK kindW at k
 rw [decide_eq_true_eq] at k
 intro e
 rw [if_neg (by omega)] at k
 split at k <;> omega
theorem odd_isK {l : List Nat} {x : Int} (hf : fitB l x = true) (ho : ¬ x % 2 = 0) : isK 2 x = true := by
 have k := fit_kind hf
 unfold isK
 rw [decide_eq_true_eq]
 rw [kind_odd ho] at k ⊢
 split at k
 ·rename_i q; rw [if_pos q]
 ·exact absurd rfl k
theorem getD_set_bool (s : List Bool) (a b : Nat) (h : a < s.length) : (s.set a true).getD b false = if a = b then true else s.getD b false := by
 simp only [List.getD_eq_getElem?_getD, List.getElem?_set]
 by_cases e : a = b
 ·subst e
  rw [if_pos rfl, if_pos h, if_pos rfl]
  rfl
 ·rw [if_neg e, if_neg e]
/-- What the marks are, behind i words. -/
structure RM (h : Hp) (l : List Nat) (i : Nat) (s : List Int × List Bool) : Prop where
 rc : RC h l s
 inn : ∀ x, x ∈ s.1 -> x ∈ h.roots ∨ ∃ a, a ∈ ordF h.words h.roots /\ x ∈ flds h.words a
 sub : ∀ a, s.2.getD a false = true -> a ∈ ordF h.words h.roots
 rts : ∀ x, x ∈ h.roots -> x ∈ s.1
 don : ∀ j, j < i -> j < s.1.length -> isK 2 (s.1.getD j 0) = true -> s.2.getD (s.1.getD j 0 / 2).toNat false = true
 fld : ∀ a, s.2.getD a false = true -> ∀ x, x ∈ flds h.words a -> x ∈ s.1
theorem rm_start {h : Hp} {l : List Nat} (R : RightAt h l) : RM h l 0 (rcS h 0) := by
 have z : ∀ a, (rcS h 0).2.getD a false = true -> False := fun a q => by
  have e : seen0.getD a false = false := by
   simp only [seen0, List.getD_eq_getElem?_getD, List.getElem?_replicate]
   split <;> rfl
  have q' : seen0.getD a false = true := q
  rw [e] at q'
  cases q'
 exact ⟨rc_start R, fun x hx => .inl hx, fun a q => (z a q).elim, fun x hx => hx, fun j hj => absurd hj (Nat.not_lt_zero j), fun a q => (z a q).elim⟩
theorem rm_step {h : Hp} {l : List Nat} (R : RightAt h l) {s : List Int × List Bool} {i : Nat} (k : RM h l i s) (hi : i < s.1.length) : RM h l (i + 1) (rc1 h.words s i) := by
 have rc' := rc_step R k.rc hi
 have hx : s.1.getD i 0 ∈ s.1 := by simp [hi]
 unfold rc1 at rc' ⊢
 split
 ·rename_i h1
  refine ⟨k.rc, k.inn, k.sub, k.rts, fun j hj hl q => ?_, k.fld⟩
  by_cases e : j = i
  ·subst e; exact absurd h1 (isK_odd q)
  ·exact k.don j (by omega) hl q
 split
 ·rename_i h1 h2
  refine ⟨k.rc, k.inn, k.sub, k.rts, fun j hj hl q => ?_, k.fld⟩
  by_cases e : j = i
  ·subst e; exact h2
  ·exact k.don j (by omega) hl q
 ·rename_i h1 h2
  rw [if_neg h1, if_neg h2] at rc'
  have ik := odd_isK (k.rc.fit _ hx) h1
  have am : (s.1.getD i 0 / 2).toNat ∈ ordF h.words h.roots := by
   rcases k.inn _ hx with q | ⟨a, ha, q⟩
   ·exact ord_roots q ik
   ·exact ord_fields R ha q ik
  have al : (s.1.getD i 0 / 2).toNat < s.2.length := by
   have := (R.1.obj (ord_sub R am)).1
   have := k.rc.len
   omega
  have S := fun b => getD_set_bool s.2 _ b al
  generalize ea : (s.1.getD i 0 / 2).toNat = a at *
  refine ⟨rc', fun x q => ?_, fun b q => ?_, fun x q => List.mem_append_left _ (k.rts x q), fun j hj hl q => ?_, fun b q x hb => ?_⟩
  ·have q' : x ∈ s.1 ++ flds h.words a := q
   rw [List.mem_append] at q'
   rcases q' with q' | q'
   ·exact k.inn x q'
   ·exact .inr ⟨a, am, q'⟩
  ·have q' : (s.2.set a true).getD b false = true := q
   rw [S] at q'
   by_cases e : a = b
   ·subst e; exact am
   ·rw [if_neg e] at q'; exact k.sub b q'
  ·have hjl : j < s.1.length := by omega
   have eg : (s.1 ++ flds h.words a).getD j 0 = s.1.getD j 0 := gd_left hjl
   have q' : isK 2 ((s.1 ++ flds h.words a).getD j 0) = true := q
   show (s.2.set a true).getD ((s.1 ++ flds h.words a).getD j 0 / 2).toNat false = true
   rw [eg] at q' ⊢
   rw [S]
   by_cases e : j = i
   ·subst e
    rw [if_pos ea.symm]
   ·split
    ·rfl
    ·exact k.don j (by omega) hjl q'
  ·have q' : (s.2.set a true).getD b false = true := q
   rw [S] at q'
   show x ∈ s.1 ++ flds h.words a
   by_cases e : a = b
   ·subst e; exact List.mem_append_right _ hb
   ·rw [if_neg e] at q'
    exact List.mem_append_left _ (k.fld b q' x hb)
theorem rm_all {h : Hp} {l : List Nat} (R : RightAt h l) : ∀ i, i <= (rcS h i).1.length -> RM h l i (rcS h i)
 | 0, _ => rm_start R
 | i + 1, hle => by
  by_cases hi : i < (rcS h i).1.length
  ·have e : rcS h (i + 1) = rc1 h.words (rcS h i) i := by rw [rcS, if_pos hi]
   rw [e]
   exact rm_step R (rm_all R i (by omega)) hi
  ·have e : rcS h (i + 1) = rcS h i := by rw [rcS, if_neg hi]
   rw [e] at hle
   omega
/-- What the model has marked is what the tour comes to. -/
theorem seen_iff {h : Hp} {l : List Nat} (R : RightAt h l) {i : Nat} (e : i = (rcS h i).1.length) (a : Nat) : (rcS h i).2.getD a false = true ↔ a ∈ ordF h.words h.roots := by
 have k := rm_all R i (by omega)
 refine ⟨k.sub a, fun ha => ?_⟩
 have inS : ∀ x, x ∈ (rcS h i).1 -> isK 2 x = true -> (rcS h i).2.getD (x / 2).toNat false = true := fun x hx q => by
  obtain ⟨j, hj, rfl⟩ := List.mem_iff_getElem.1 hx
  have eg : (rcS h i).1.getD j 0 = (rcS h i).1[j] := gd_in hj
  have := k.don j (by omega) hj (by rw [eg]; exact q)
  rwa [eg] at this
 have T : ∀ m, ∀ b, b ∈ tr h.words h.roots m -> (rcS h i).2.getD b false = true := by
  intro m
  induction m with
  | zero => exact fol_in _ (fun b hb => absurd hb (by simp)) (fun x hx q => inS x (k.rts x hx) q)
  | succ m ih =>
   by_cases hm : m < (tr h.words h.roots m).length
   ·rw [tr_next _ _ _ hm]
    have hb : (tr h.words h.roots m).getD m 0 ∈ tr h.words h.roots m := by simp [hm]
    exact fol_in _ ih (fun x hx q => inS x (k.fld _ (ih _ hb) x hx) q)
   ·have e : tr h.words h.roots (m + 1) = tr h.words h.roots m := by rw [tr, if_neg hm]
    rw [e]
    exact ih
 rw [ord_tr] at ha
 exact T _ a ha
/-- The objects that are reached, by rising address. -/
noncomputable def rchL (h : Hp) : List Nat := (obC h).filter fun a => decide (a ∈ ordF h.words h.roots)
theorem rch_perm {h : Hp} (k : okC h = true) : (ordF h.words h.roots).Perm (rchL h) := by
 have R := c_right k
 have so := ok_sorted k
 have nd : (obC h).Nodup := so.imp (fun q => by omega)
 refine (List.perm_ext_iff_of_nodup (ord_nodup _ _) (nd.filter _)).2 fun a => ?_
 rw [List.mem_filter, decide_eq_true_eq]
 exact ⟨fun q => ⟨ord_sub R q, q⟩, fun q => q.2⟩
theorem rch_sorted {h : Hp} (k : okC h = true) : (rchL h).Pairwise (· < ·) := (ok_sorted k).filter _
theorem szS_perm {W : List Int} {l m : List Nat} (p : l.Perm m) : szS W l = szS W m := by
 induction p with
 | nil => rfl
 | cons x _ ih => simp only [szS, ih]
 | swap x y l => simp only [szS]; omega
 | trans _ _ h1 h2 => exact h1.trans h2
theorem szS_part (W : List Int) (p : Nat -> Bool) : ∀ l : List Nat, szS W l = szS W (l.filter p) + szS W (l.filter fun a => !p a)
 | [] => by simp [szS]
 | a :: l => by
  have ih := szS_part W p l
  rw [List.filter_cons, List.filter_cons]
  cases h : p a
  ·simp only [Bool.false_eq_true, if_false, Bool.not_false, if_true, szS]; omega
  ·simp only [if_true, Bool.not_true, Bool.false_eq_true, if_false, szS]; omega
/-- What Garbage answers. -/
noncomputable def gaC (h : Hp) : Int := if okC h = true then szS h.words (obC h) - szS h.words (ordF h.words h.roots) else -1
theorem ga_spec {h : Hp} (k : okC h = true) {i : Nat} (e : i = (rcS h i).1.length) : szS h.words ((obC h).filter fun a => !(rcS h i).2.getD a false) = gaC h := by
 have R := c_right k
 unfold gaC
 rw [if_pos k, szS_perm (rch_perm k), szS_part h.words (fun a => decide (a ∈ ordF h.words h.roots)) (obC h)]
 have q : ((obC h).filter fun a => !(rcS h i).2.getD a false) = (obC h).filter fun a => !decide (a ∈ ordF h.words h.roots) := by
  refine List.filter_congr fun a _ => ?_
  have := seen_iff R e a
  cases hs : (rcS h i).2.getD a false
  ·rw [hs] at this
   have n : ¬ a ∈ ordF h.words h.roots := fun q => by have := this.2 q; cases this
   simp [n]
  ·have y : a ∈ ordF h.words h.roots := this.1 hs
   simp [y]
 rw [q]
 unfold rchL
 omega
end Go.Proofs.YthdffigckohpoaaGreat
/- Worlds that have grown outside of some blocks; maps from numbers to numbers; appending, with where the new row lies. -/
namespace Go.Proofs.YthdffigckohpoaaGreat
open Go.RowKit Go.Maps
theorem keyL : Keyed Tryz.prog 2 := int_keyed Tryz.underlying2
theorem zeroI (w : World) : (zeroValue 2).run Tryz.prog w = .ok (.int .i64 0) w := by kernel_rfl
theorem wf64 {k : Int} (h : In64 k) : (Lit.int .i64 k).wf = true := WalkArith.wf_i64 (by unfold In64 at h; omega)
/-- Block b is a map of at most n entries that gives f. -/
def MP (w : World) (b n : Nat) (f : Int -> Option Int) : Prop :=
 ∃ D : DataW Unit, w.ownsMap Tryz.prog 2 (plainElem Tryz.prog 2) b n D /\ ∀ k, In64 k -> Maps.has D (.int .i64 k) = (f k).isSome /\ D.atKey (.int .i64 k) (.lit (.int .i64 0)) = .lit (.int .i64 ((f k).getD 0))
theorem MP.lt {w : World} {b n : Nat} {f : Int -> Option Int} (h : MP w b n f) : b < w.heap.size := by
 obtain ⟨D, h, _⟩ := h
 exact h.lt
theorem MP.made (w : World) : MP (w.alloc (.map #[] 0)) w.heap.size 0 (fun _ => none) :=
 ⟨.map [], World.ownsMap_made _ _ _ _, fun _ _ => ⟨rfl, rfl⟩⟩
theorem Grew.mp {w w' : World} {S : Nat -> Prop} {b n : Nat} {f : Int -> Option Int} (h : Grew w w' S) (hm : MP w b n f) (hn : ¬ S b) : MP w' b n f := by
 have hlt := hm.lt
 obtain ⟨D, ⟨es, clock, hb, r⟩, q⟩ := hm
 exact ⟨D, ⟨es, clock, (h.block b hlt hn).trans hb, r⟩, q⟩
theorem MP.later {w w' : World} {b n : Nat} {f : Int -> Option Int} (hm : MP w b n f) (h : Below w.heap.size w w') : MP w' b n f := (Grew.new h (fun _ => False)).mp hm (fun x => x)
def putF (f : Int -> Option Int) (k v : Int) : Int -> Option Int := fun j => if j = k then some v else f j
section
variable {ops : Array Oper} {rest : List Oper} {o : Oper} {a : Act} {Q : Exit -> Act -> World -> Prop}
theorem look_ok (w : World) (hg : o.guard = none) (m x : Operand) (hop : o.op = Op.lookup 50 m x true) (b n : Nat) (f : Int -> Option Int) (hm : a.eval m = .map (some b)) (hM : MP w b n f)
  (k : Int) (hx : a.eval x = .int .i64 k) (hk : In64 k) (h : wpList Tryz.prog ops Q rest (a.put o.dst (.tuple #[.int .i64 ((f k).getD 0), .bool (f k).isSome])) w) : wpList Tryz.prog ops Q (o :: rest) a w := by
 obtain ⟨D, hown, hD⟩ := hM
 refine wpList_lookup_own_ok_int w hg m x 50 hop 2 2 .i64 keyL Tryz.underlying50 Tryz.underlying2 (zeroI _) b n D hm hown _ _ hx (keyOf_int_mk Tryz.underlying2 (wf64 hk)) (fun c hc _ => ?_)
 obtain ⟨h1, h2⟩ := hD k hk
 rw [h2] at hc
 simp only [DataW.lit.injEq, Lit.int.injEq, true_and] at hc
 rw [h1, ← hc]
 exact h
theorem look_up (w : World) (hg : o.guard = none) (m x : Operand) (hop : o.op = Op.lookup 50 m x false) (b n : Nat) (f : Int -> Option Int) (hm : a.eval m = .map (some b)) (hM : MP w b n f)
  (k : Int) (hx : a.eval x = .int .i64 k) (hk : In64 k) (h : wpList Tryz.prog ops Q rest (a.put o.dst (.int .i64 ((f k).getD 0))) w) : wpList Tryz.prog ops Q (o :: rest) a w := by
 obtain ⟨D, hown, hD⟩ := hM
 refine wpList_lookup_own_int w hg m x 50 hop 2 2 .i64 keyL Tryz.underlying50 Tryz.underlying2 (zeroI _) b n D hm hown _ _ hx (keyOf_int_mk Tryz.underlying2 (wf64 hk)) (fun c hc _ => ?_)
 obtain ⟨h1, h2⟩ := hD k hk
 rw [h2] at hc
 simp only [DataW.lit.injEq, Lit.int.injEq, true_and] at hc
 rw [<- hc]
 exact h
end
theorem MP.update {w : World} {b n : Nat} {f : Int -> Option Int} (hM : MP w b n f) (hn : n <= 1000000000000) (k v : Int) (hk : In64 k) (hv : In64 v) :
  ∃ w', (Instr.mapUpdate 50 (.map (some b)) (.int .i64 k) (.int .i64 v)).run Tryz.prog w = .ok () w' /\ MP w' b (n + 1) (putF f k v) /\ w.grownBy w' (some b) := by
 obtain ⟨D, hown, hD⟩ := hM
 have hI : IsMap D := hown.isMap
 obtain ⟨w', hr, ho, hg⟩ := hown.update keyL Tryz.underlying50 (by unfold maxLen; omega) (keyOf_int_mk Tryz.underlying2 (wf64 hk)) (plainElem_int Tryz.underlying2 (wf64 hv))
 refine ⟨w', hr, ⟨_, ho, fun j hj => ?_⟩, hg⟩
 unfold putF
 by_cases e : j = k
 ·subst e
  rw [if_pos rfl, has_put_same (k := .int .i64 j) hI trivial, atKey_put_same (k := .int .i64 j) hI trivial]
  exact ⟨rfl, rfl⟩
 ·have ne : (Lit.int .i64 j) ≠ .int .i64 k := fun q => e (by simpa using q)
  rw [if_neg e, has_put_other ne, atKey_put_other ne]
  exact hD j hj
/-! Appending one number, and where the new row lies. -/
theorem app_at {ops : Array Oper} {rest : List Oper} {o : Oper} {a : Act} {Q : Exit -> Act -> World -> Prop} (w : World) (hgd : o.guard = none) (s x : Operand)
  (ho : o.op = .call { callee := .builtin .append, args := #[s, x], argTypes := #[24, 24] }) (B : Nat) (v : Value) (n : Nat) (xs : List Value) (hs : a.eval s = v) (hown : w.ownsRow B 2 1 v n xs)
  (g c : Nat) (z : Int) (hx : a.eval x = .slice (some ⟨g, 0, none⟩) 1 c) (hc : w.cell? ⟨g, 0, none⟩ = some (.int .i64 z)) (hn : n <= 1000000000000) (hB : B <= w.heap.size)
  (h : ∀ v' w', w'.ownsRow B 2 1 v' (n + 1) (xs ++ [.int .i64 z]) -> w.grownBy w' v.ownBlock -> (v'.ownBlock = v.ownBlock ∨ v'.ownBlock = some w.heap.size) -> wpList Tryz.prog ops Q rest (a.put o.dst v') w') : wpList Tryz.prog ops Q (o :: rest) a w := by
 obtain ⟨i, hi, hzz⟩ := Option.map_eq_some_iff.1 Tryz.infoI
 simp only [Prod.mk.injEq] at hzz
 obtain ⟨hz, hsz, hby⟩ := hzz
 refine wpList_append_own_at w hgd s x 24 ho B 2 i _ 1 8 Tryz.underlying24 hi hz hsz hby rfl (by omega) v n xs hs hown ⟨g, 0, none⟩ 1 c [.int .i64 z] hx rfl (fun j u hj => ?_) (fun u hu => ?_) (by unfold maxLen; omega) (by omega) hB (fun v' w' h1 h2 _ h4 => h v' w' h1 h2 h4)
 ·match j, hj with
  | 0, hj => simp at hj; subst hj; simpa [Addr.add] using hc
 ·simp at hu; subst hu; rfl
theorem Tryz.infoN : (Tryz.prog.info? 72).map (fun i => (i.zero, i.size, i.bytes)) = some (some (.agg #[.int .i64 0, .int .i64 0, .slice none 0 0]), 3, 40) := by kernel_rfl
/-- Appending one node, and where the new row lies. -/
theorem app_node {ops : Array Oper} {rest : List Oper} {o : Oper} {a : Act} {Q : Exit -> Act -> World -> Prop} (w : World) (hgd : o.guard = none) (s x : Operand)
  (ho : o.op = .call { callee := .builtin .append, args := #[s, x], argTypes := #[38, 38] }) (B : Nat) (v : Value) (n : Nat) (xs : List Value) (hs : a.eval s = v) (hown : w.ownsRow B 72 3 v n xs)
  (g c : Nat) (z y : Int) (fa : Option Addr) (fn fc : Nat) (hx : a.eval x = .slice (some ⟨g, 0, none⟩) 1 c) (hc : w.cell? ⟨g, 0, none⟩ = some (.int .i64 z) /\ w.cell? ⟨g, 1, none⟩ = some (.int .i64 y) /\ w.cell? ⟨g, 2, none⟩ = some (.slice fa fn fc)) (hn : n <= 1000000000) (hB : B <= w.heap.size)
  (h : ∀ v' w', w'.ownsRow B 72 3 v' (n + 1) (xs ++ [.int .i64 z, .int .i64 y, .slice fa fn fc]) -> w.grownBy w' v.ownBlock -> (v'.ownBlock = v.ownBlock ∨ v'.ownBlock = some w.heap.size) -> wpList Tryz.prog ops Q rest (a.put o.dst v') w') : wpList Tryz.prog ops Q (o :: rest) a w := by
 obtain ⟨i, hi, hzz⟩ := Option.map_eq_some_iff.1 Tryz.infoN
 simp only [Prod.mk.injEq] at hzz
 obtain ⟨hz, hsz, hby⟩ := hzz
 refine wpList_append_own_at w hgd s x 38 ho B 72 i _ 3 40 Tryz.underlying38 hi hz hsz hby rfl (by omega) v n xs hs hown ⟨g, 0, none⟩ 1 c [.int .i64 z, .int .i64 y, .slice fa fn fc] hx rfl (fun j u hj => ?_) (fun u hu => ?_) (by unfold maxLen; omega) (by omega) hB (fun v' w' h1 h2 _ h4 => h v' w' h1 h2 h4)
 ·match j, hj with
  | 0, hj => simp at hj; subst hj; simpa [Addr.add] using hc.1
  | 1, hj => simp at hj; subst hj; simpa [Addr.add] using hc.2.1
  | 2, hj => simp at hj; subst hj; simpa [Addr.add] using hc.2.2
 ·simp at hu; rcases hu with rfl | rfl | rfl <;> rfl
end Go.Proofs.YthdffigckohpoaaGreat
