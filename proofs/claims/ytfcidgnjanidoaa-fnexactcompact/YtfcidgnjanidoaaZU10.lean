import Derived.Test.YtfcidgnjanidoaaZHBase
import Derived.Test.YtfcidgnjanidoaaZU0
/- Graphs as they are read, and held against each other by the laws. -/
namespace Go.Proofs.Ytfcidgnjanidoaa
open Go.RowKit

structure Nd where
  cls : Int
  hash : Int
  fl : List Int
structure Gr where
  roots : List Int
  nodes : List Nd
  hash : Int
def nd0 : Nd := ⟨0, 0, []⟩
/-- The nodes that a slice reads as. -/
def NR (w : World) (v : Value) (ns : List Nd) : Prop :=
  ∃ ao cap, v = .slice ao ns.length cap ∧ ns.length ≤ cap ∧ ∀ i, i < ns.length → ∃ b o fa fn fc, ao = some ⟨b, o, none⟩ ∧ w.cell? ⟨b, o + i * 3, none⟩ = some (.int .i64 (ns.getD i nd0).cls) ∧
    w.cell? ⟨b, o + i * 3 + 1, none⟩ = some (.int .i64 (ns.getD i nd0).hash) ∧ w.cell? ⟨b, o + i * 3 + 2, none⟩ = some (.slice fa fn fc) ∧ IR w (.slice fa fn fc) (ns.getD i nd0).fl
/-- The graph that a value reads as. -/
def GR (w : World) (v : Value) (g : Gr) : Prop := ∃ vr vn, v = .agg #[vr, vn, .int .i64 g.hash] ∧ IR w vr g.roots ∧ NR w vn g.nodes
theorem NR.later {w w' : World} {v : Value} {ns : List Nd} (h : NR w v ns) (hb : Below w.heap.size w w') : NR w' v ns := by
  obtain ⟨ao, cap, rfl, hle, h⟩ := h
  refine ⟨ao, cap, rfl, hle, fun i hi => ?_⟩
  obtain ⟨b, o, fa, fn, fc, e, c0, c1, c2, r⟩ := h i hi
  exact ⟨b, o, fa, fn, fc, e, cell_later hb c0, cell_later hb c1, cell_later hb c2, r.later hb⟩
theorem GR.later {w w' : World} {v : Value} {g : Gr} (h : GR w v g) (hb : Below w.heap.size w w') : GR w' v g := by
  obtain ⟨vr, vn, e, a, b⟩ := h
  exact ⟨vr, vn, e, a.later hb, b.later hb⟩
theorem NR.shape {w : World} {v : Value} {ns : List Nd} (h : NR w v ns) : ∃ ao cap, v = .slice ao ns.length cap := by
  obtain ⟨ao, cap, e, _⟩ := h
  exact ⟨ao, cap, e⟩
theorem GR.out {w : World} {v : Value} {g : Gr} (h : GR w v g) : ∃ ra rc na nc, v = .agg #[.slice ra g.roots.length rc, .slice na g.nodes.length nc, .int .i64 g.hash] ∧ IR w (.slice ra g.roots.length rc) g.roots ∧ NR w (.slice na g.nodes.length nc) g.nodes := by
  obtain ⟨vr, vn, rfl, hr, hn⟩ := h
  obtain ⟨ra, rc, rfl, _⟩ := id hr
  obtain ⟨na, nc, rfl⟩ := NR.shape hn
  exact ⟨ra, rc, na, nc, rfl, hr, hn⟩
def grF (rv nv : Value) (hh : Int) (i : Nat) : Value := if i = 0 then rv else if i = 1 then nv else .int .i64 hh
theorem graphC (w : World) (rv nv : Value) (hh : Int) (t : TypeId) : (w.alloc (.cells #[rv, nv, .int .i64 hh] t)).rowIs w.heap.size t 3 (grF rv nv hh) :=
  World.rowIs_alloc w #[rv, nv, .int .i64 hh] t _ (fun i hi => by
    match i, hi with
    | 0, _ => rfl
    | 1, _ => rfl
    | 2, _ => rfl)
theorem gr_cells {w : World} {b t : Nat} {rv nv : Value} {hh : Int} (h : w.rowIs b t 3 (grF rv nv hh)) : w.cell? ⟨b, 0, none⟩ = some rv ∧ w.cell? ⟨b, 1, none⟩ = some nv ∧ w.cell? ⟨b, 2, none⟩ = some (.int .i64 hh) :=
  ⟨h.cell (i := 0) (by omega), h.cell (i := 1) (by omega), h.cell (i := 2) (by omega)⟩

theorem keep6 {W a b : World} {N M o p : Nat} {u0 u1 u2 x0 x1 x2 : Value} (k : Below a.heap.size a b) (h : Below W.heap.size W a ∧ (a.cell? ⟨N, o, none⟩ = some u0 ∧ a.cell? ⟨N, o + 1, none⟩ = some u1 ∧ a.cell? ⟨N, o + 2, none⟩ = some u2) ∧ (a.cell? ⟨M, p, none⟩ = some x0 ∧ a.cell? ⟨M, p + 1, none⟩ = some x1 ∧ a.cell? ⟨M, p + 2, none⟩ = some x2)) :
    Below W.heap.size W b ∧ (b.cell? ⟨N, o, none⟩ = some u0 ∧ b.cell? ⟨N, o + 1, none⟩ = some u1 ∧ b.cell? ⟨N, o + 2, none⟩ = some u2) ∧ (b.cell? ⟨M, p, none⟩ = some x0 ∧ b.cell? ⟨M, p + 1, none⟩ = some x1 ∧ b.cell? ⟨M, p + 2, none⟩ = some x2) :=
  ⟨bel_after h.1 k, ⟨cell_later k h.2.1.1, cell_later k h.2.1.2.1, cell_later k h.2.1.2.2⟩, cell_later k h.2.2.1, cell_later k h.2.2.2.1, cell_later k h.2.2.2.2⟩


end Go.Proofs.Ytfcidgnjanidoaa

/- Graphs in plain words: the objects in the order in which they are come to, the graph of a right heap, the heap of a graph, and that both ways to ask whether there is one say the same. -/
namespace Go.Proofs.Ytfcidgnjanidoaa
open Go.RowKit

/-- One word followed: its object comes behind those that were found, if it is none of them. -/
def fol1 (o : List Nat) (x : Int) : List Nat := if isK 2 x = true then (if (x / 2).toNat ∈ o then o else o ++ [(x / 2).toNat]) else o
def fol (o : List Nat) (ws : List Int) : List Nat := ws.foldl fol1 o
/-- The objects that are come to by the roots and the fields of the first k. -/
def tr (W R : List Int) : Nat → List Nat
  | 0 => fol [] R
  | k + 1 => if k < (tr W R k).length then fol (tr W R k) (flds W ((tr W R k).getD k 0)) else tr W R k
/-- 3200, in a form that no one unfolds by mistake. -/
def lim (R : List Int) : Nat := 3200 + 0 * R.length
theorem lim_eq (R : List Int) : lim R = 3200 := by simp [lim]
def ordF (W R : List Int) : List Nat := tr W R (lim R)
theorem ord_tr (W R : List Int) : ordF W R = tr W R 3200 := by unfold ordF; rw [lim_eq]
/-- A word with its object's number. -/
def ren (F : List Nat) (x : Int) : Int := if isK 2 x = true then 2 * ((F.idxOf (x / 2).toNat : Nat) : Int) + 1 else x

theorem fol1_pre (o : List Nat) (x : Int) : o <+: fol1 o x := by
  unfold fol1
  split
  · split
    · exact List.prefix_refl _
    · exact List.prefix_append _ _
  · exact List.prefix_refl _
theorem fol_pre (ws : List Int) : ∀ o, o <+: fol o ws := by
  induction ws with
  | nil => intro o; exact List.prefix_refl _
  | cons x ws ih => intro o; exact (fol1_pre o x).trans (ih (fol1 o x))
theorem fol_append (o : List Nat) (a b : List Int) : fol o (a ++ b) = fol (fol o a) b := List.foldl_append
theorem fol_take_pre (o : List Nat) (ws : List Int) (j : Nat) : fol o (ws.take j) <+: fol o ws := by
  have := fol_pre (ws.drop j) (fol o (ws.take j))
  rwa [← fol_append, List.take_append_drop] at this
theorem itake_snoc (l : List Int) (k : Nat) (h : k < l.length) : l.take (k + 1) = l.take k ++ [l.getD k 0] := by
  rw [List.take_succ_eq_append_getElem h]
  simp [h]
theorem fol_snoc (o : List Nat) (ws : List Int) (j : Nat) (h : j < ws.length) : fol o (ws.take (j + 1)) = fol1 (fol o (ws.take j)) (ws.getD j 0) := by
  rw [itake_snoc ws j h, fol_append]
  rfl
theorem tr_next (W R : List Int) (k : Nat) (h : k < (tr W R k).length) : tr W R (k + 1) = fol (tr W R k) (flds W ((tr W R k).getD k 0)) := by
  rw [tr, if_pos h]
theorem tr_pre1 (W R : List Int) (k : Nat) : tr W R k <+: tr W R (k + 1) := by
  rw [tr]
  split
  · exact fol_pre _ _
  · exact List.prefix_refl _
theorem tr_pre (W R : List Int) (k d : Nat) : tr W R k <+: tr W R (k + d) := by
  induction d with
  | zero => exact List.prefix_refl _
  | succ d ih => exact ih.trans (tr_pre1 W R (k + d))
theorem tr_stay (W R : List Int) (k d : Nat) (h : (tr W R k).length ≤ k) : tr W R (k + d) = tr W R k := by
  induction d with
  | zero => rfl
  | succ d ih =>
    show tr W R ((k + d) + 1) = _
    rw [tr, if_neg (by rw [ih]; omega), ih]
theorem tr_end {W R : List Int} {k : Nat} (hk : k ≤ 3200) (h : (tr W R k).length ≤ k) : ordF W R = tr W R k := by
  have := tr_stay W R k (3200 - k) h
  rwa [show k + (3200 - k) = 3200 from by omega, ← ord_tr] at this
theorem tr_ord {W R : List Int} {k : Nat} (hk : k ≤ 3200) : tr W R k <+: ordF W R := by
  have := tr_pre W R k (3200 - k)
  rwa [show k + (3200 - k) = 3200 from by omega, ← ord_tr] at this
theorem fol1_nodup {o : List Nat} (h : o.Nodup) (x : Int) : (fol1 o x).Nodup := by
  unfold fol1
  split
  · split
    · exact h
    · rename_i hn
      rw [List.nodup_append]
      refine ⟨h, by simp, fun a ha b hb => ?_⟩
      rw [List.mem_singleton] at hb
      rintro rfl
      exact hn (hb ▸ ha)
  · exact h
theorem fol_nodup (ws : List Int) : ∀ {o : List Nat}, o.Nodup → (fol o ws).Nodup := by
  induction ws with
  | nil => intro o h; exact h
  | cons x ws ih => intro o h; exact ih (fol1_nodup h x)
theorem tr_nodup (W R : List Int) (k : Nat) : (tr W R k).Nodup := by
  induction k with
  | zero => exact fol_nodup R List.nodup_nil
  | succ k ih =>
    rw [tr]
    split
    · exact fol_nodup _ ih
    · exact ih
theorem fit_mem {l : List Nat} {x : Int} (h : fitB l x = true) (k : isK 2 x = true) : (x / 2).toNat ∈ l ∧ ((x / 2).toNat : Int) = x / 2 := by
  unfold isK at k
  have k' := of_decide_eq_true k
  unfold fitB at h
  rw [k'] at h
  simp at h
  unfold ints at h
  rw [List.mem_map] at h
  obtain ⟨a, ha, e⟩ := h
  rw [← e]
  exact ⟨by simpa using ha, by simp⟩
theorem fol1_sub {l o : List Nat} {x : Int} (ho : o ⊆ l) (hx : isK 2 x = true → (x / 2).toNat ∈ l) : fol1 o x ⊆ l := by
  unfold fol1
  split
  · rename_i hk
    split
    · exact ho
    · intro a ha
      rw [List.mem_append, List.mem_singleton] at ha
      rcases ha with ha | rfl
      · exact ho ha
      · exact hx hk
  · exact ho
theorem fol_sub {l : List Nat} (ws : List Int) : ∀ {o : List Nat}, o ⊆ l → (∀ x, x ∈ ws → fitB l x = true) → fol o ws ⊆ l := by
  induction ws with
  | nil => intro o h _; exact h
  | cons x ws ih => intro o h k; exact ih (fol1_sub h (fun q => (fit_mem (k x (by simp)) q).1)) (fun y hy => k y (by simp [hy]))
theorem fol1_has {o : List Nat} {x : Int} (k : isK 2 x = true) : (x / 2).toNat ∈ fol1 o x := by
  unfold fol1
  rw [if_pos k]
  split
  · assumption
  · simp
theorem fol_has (ws : List Int) : ∀ {o : List Nat} {x : Int}, x ∈ ws → isK 2 x = true → (x / 2).toNat ∈ fol o ws := by
  induction ws with
  | nil => intro o x h; simp at h
  | cons y ws ih =>
    intro o x h k
    rw [List.mem_cons] at h
    rcases h with rfl | h
    · exact (fol_pre ws (fol1 o x)).subset (fol1_has k)
    · exact ih h k

theorem right_fields {h : Hp} {l : List Nat} (k : RightAt h l) {a : Nat} (ha : a ∈ l) : ∀ x, x ∈ flds h.words a → fitB l x = true := by
  obtain ⟨_, _, _, _, _, _, _, q, _⟩ := k
  exact fld_mem.2 (q a ha)
theorem right_roots {h : Hp} {l : List Nat} (k : RightAt h l) : ∀ x, x ∈ h.roots → fitB l x = true := by
  obtain ⟨_, _, _, _, _, _, q, _, _⟩ := k
  exact q
theorem tr_sub {h : Hp} {l : List Nat} (r : RightAt h l) (k : Nat) : tr h.words h.roots k ⊆ l := by
  induction k with
  | zero => exact fol_sub _ (by simp) (right_roots r)
  | succ k ih =>
    rw [tr]
    split
    · rename_i hk
      exact fol_sub _ ih (right_fields r (ih (by simp [hk])))
    · exact ih
theorem tr_len {h : Hp} {l : List Nat} (r : RightAt h l) (k : Nat) : (tr h.words h.roots k).length ≤ 3200 :=
  Nat.le_trans ((tr_nodup _ _ k).length_le_of_subset (tr_sub r k)) r.1.short
theorem tr_far {W R : List Int} {i : Nat} (hi : i < (ordF W R).length) (h3 : (ordF W R).length ≤ 3200) : i < (tr W R i).length := by
  rcases Nat.lt_or_ge i (tr W R i).length with q | q
  · exact q
  · rw [tr_end (by omega) q] at hi
    omega
theorem pre_get {a b : List Nat} (h : a <+: b) {i : Nat} (hi : i < a.length) : a.getD i 0 = b.getD i 0 := by
  obtain ⟨t, rfl⟩ := h
  simp [List.getD_eq_getElem?_getD, List.getElem?_append_left hi]
theorem ord_sub {h : Hp} {l : List Nat} (r : RightAt h l) : ordF h.words h.roots ⊆ l := tr_sub r _
theorem ord_len {h : Hp} {l : List Nat} (r : RightAt h l) : (ordF h.words h.roots).length ≤ 3200 := tr_len r _
theorem ord_nodup (W R : List Int) : (ordF W R).Nodup := tr_nodup W R _
theorem ord_roots {W R : List Int} {x : Int} (hx : x ∈ R) (k : isK 2 x = true) : (x / 2).toNat ∈ ordF W R :=
  (tr_ord (k := 0) (by omega)).subset (fol_has R hx k)
theorem ord_fields {h : Hp} {l : List Nat} (r : RightAt h l) {a : Nat} (ha : a ∈ ordF h.words h.roots) {x : Int} (hx : x ∈ flds h.words a) (k : isK 2 x = true) : (x / 2).toNat ∈ ordF h.words h.roots := by
  obtain ⟨i, hi, e⟩ := List.getElem_of_mem ha
  have h3 := ord_len r
  have hf := tr_far hi h3
  have hp := tr_ord (W := h.words) (R := h.roots) (k := i) (by omega)
  have e2 : (tr h.words h.roots i).getD i 0 = a := by rw [pre_get hp hf]; simp [hi, e]
  refine (tr_ord (k := i + 1) (by omega)).subset ?_
  rw [tr_next _ _ _ hf, e2]
  exact fol_has _ hx k
theorem ren_pre {o F : List Nat} {x : Int} (h : o <+: F) (k : isK 2 x = true → (x / 2).toNat ∈ o) : ren o x = ren F x := by
  obtain ⟨t, rfl⟩ := h
  unfold ren
  split
  · rename_i hk
    rw [List.idxOf_append, if_pos (k hk)]
  · rfl

def ndOf (W : List Int) (F : List Nat) (a : Nat) : Nd := ⟨gw W (a + 1), gw W (a + 2), (flds W a).map (ren F)⟩
/-- The graph of a right heap. -/
def shG (W R : List Int) (F : List Nat) (H : Int) : Gr := ⟨R.map (ren F), F.map (ndOf W F), H⟩
def shP (h : Hp) : Gr := shG h.words h.roots (ordF h.words h.roots) h.hash
def gr0 : Gr := ⟨[], [], 0⟩
noncomputable def shC (h : Hp) : Gr := if okC h = true then shP h else gr0
def reP (h : Hp) : Int := ((ordF h.words h.roots).map fun a => (nx h.words a : Int) - a).sum
noncomputable def reC (h : Hp) : Int := if okC h = true then reP h else -1

/-! Building -/
def plc (ns : List Nd) (i : Nat) : Nat := ((ns.take i).map fun n => 4 + n.fl.length).sum
def rnI (ns : List Nd) (x : Int) : Int := if isK 2 x = true then 2 * ((if (x / 2).toNat < ns.length then plc ns (x / 2).toNat else 0 : Nat) : Int) + 1 else x
def nodeW (ns : List Nd) (n : Nd) : List Int := [(n.fl.length : Int), n.cls, n.hash, 0] ++ n.fl.map (rnI ns)
def laidU (ns : List Nd) : List Int := ns.flatMap (nodeW ns)
def laidW (ns : List Nd) : List Int := laidU ns ++ List.replicate (3200 - (laidU ns).length) 0
def laidH (g : Gr) : Hp := ⟨laidW g.nodes, g.roots.map (rnI g.nodes), (plc g.nodes g.nodes.length : Nat), 2000, 2600, false, g.hash, []⟩
def wordG (n : Nat) (x : Int) : Bool := if x % 2 = 0 then wokB x else decide (0 < x ∧ x / 2 < n)
def preOk (g : Gr) : Prop :=
  g.nodes.length ≤ 500 ∧ g.roots.length ≤ 20 ∧ (1 ≤ g.hash ∧ g.hash ≤ 1000000000) ∧
  (∀ n, n ∈ g.nodes → (0 ≤ n.cls ∧ n.cls ≤ 99) ∧ 1 ≤ n.hash ∧ n.hash < g.hash ∧ n.fl.length ≤ 60 ∧ ∀ x, x ∈ n.fl → wordG g.nodes.length x = true) ∧
  (g.nodes.map Nd.hash).Nodup ∧ (∀ x, x ∈ g.roots → wordG g.nodes.length x = true) ∧ plc g.nodes g.nodes.length ≤ 2000

theorem gd_left {l m : List Int} {i : Nat} (h : i < l.length) : (l ++ m).getD i 0 = l.getD i 0 := by
  simp [List.getD_eq_getElem?_getD, List.getElem?_append_left h]
theorem gd_right {l m : List Int} {i : Nat} (h : l.length ≤ i) : (l ++ m).getD i 0 = m.getD (i - l.length) 0 := by
  simp [List.getD_eq_getElem?_getD, List.getElem?_append_right h]
theorem gd_in {l : List Int} {i : Nat} (h : i < l.length) : l.getD i 0 = l[i] := by simp [List.getD_eq_getElem?_getD, h]
theorem plc_succ (ns : List Nd) (i : Nat) (h : i < ns.length) : plc ns (i + 1) = plc ns i + (4 + (ns.getD i nd0).fl.length) := by
  unfold plc
  rw [List.take_succ_eq_append_getElem h, List.map_append, List.sum_append]
  simp only [List.map_cons, List.map_nil, List.sum_cons, List.sum_nil]
  rw [show ns.getD i nd0 = ns[i] from by simp [List.getD_eq_getElem?_getD, h]]
  rfl
theorem plc_le (ns : List Nd) (i d : Nat) (h : i + d ≤ ns.length) : plc ns i + 4 * d ≤ plc ns (i + d) := by
  induction d with
  | zero => simp
  | succ d ih =>
    have := ih (by omega)
    have := plc_succ ns (i + d) (by omega)
    rw [show i + (d + 1) = (i + d) + 1 from rfl]
    omega
theorem plc_lt {ns : List Nd} {i : Nat} (h : i < ns.length) : plc ns i + 4 ≤ plc ns ns.length := by
  have := plc_le ns i (ns.length - i) (by omega)
  rw [show i + (ns.length - i) = ns.length from by omega] at this
  omega
theorem plc_count (ns : List Nd) : 4 * ns.length ≤ plc ns ns.length := by
  have := plc_le ns 0 ns.length (by omega)
  rw [Nat.zero_add] at this
  unfold plc at *
  simp at *
  omega
theorem nodeW_length (ns : List Nd) (n : Nd) : (nodeW ns n).length = 4 + n.fl.length := by simp [nodeW]; omega
theorem laidU_length (ns : List Nd) : (laidU ns).length = plc ns ns.length := by
  unfold laidU plc
  rw [List.length_flatMap, List.take_length]
  congr 1
  exact List.map_congr_left fun n _ => nodeW_length ns n
theorem laidU_at (ms ns : List Nd) {i j : Nat} (hi : i < ns.length) (hj : j < 4 + (ns.getD i nd0).fl.length) : (ns.flatMap (nodeW ms)).getD (plc ns i + j) 0 = (nodeW ms (ns.getD i nd0)).getD j 0 := by
  induction ns generalizing i with
  | nil => simp at hi
  | cons n ns ih =>
    rw [List.flatMap_cons]
    cases i with
    | zero =>
      have e : plc (n :: ns) 0 = 0 := rfl
      simp only [List.getD_cons_zero] at hj ⊢
      rw [e, Nat.zero_add, gd_left (by rw [nodeW_length]; exact hj)]
    | succ i =>
      simp only [List.getD_cons_succ] at hj ⊢
      have e : plc (n :: ns) (i + 1) = (4 + n.fl.length) + plc ns i := by simp [plc]
      rw [e, gd_right (by rw [nodeW_length]; omega), nodeW_length]
      rw [show 4 + n.fl.length + plc ns i + j - (4 + n.fl.length) = plc ns i + j from by omega]
      exact ih (by simpa using hi) hj
theorem laidW_length {ns : List Nd} (h : plc ns ns.length ≤ 3200) : (laidW ns).length = 3200 := by
  unfold laidW
  rw [List.length_append, List.length_replicate, laidU_length]
  omega
theorem laidW_at {ns : List Nd} {i j : Nat} (hi : i < ns.length) (hj : j < 4 + (ns.getD i nd0).fl.length) : gw (laidW ns) (plc ns i + j) = (nodeW ns (ns.getD i nd0)).getD j 0 := by
  unfold gw laidW
  have h1 := plc_succ ns i hi
  have h2 := plc_le ns (i + 1) (ns.length - (i + 1)) (by omega)
  rw [show i + 1 + (ns.length - (i + 1)) = ns.length from by omega] at h2
  rw [gd_left (by rw [laidU_length]; omega)]
  exact laidU_at ns ns hi hj
theorem laidW_zero {ns : List Nd} {i : Nat} (h : plc ns ns.length ≤ i) : gw (laidW ns) i = 0 := by
  unfold gw laidW
  rw [gd_right (by rw [laidU_length]; exact h)]
  rw [List.getD_eq_getElem?_getD, List.getElem?_replicate]
  split <;> rfl
theorem laid_size {ns : List Nd} {i : Nat} (hi : i < ns.length) : gw (laidW ns) (plc ns i) = ((ns.getD i nd0).fl.length : Int) := by
  have := laidW_at (j := 0) hi (by omega)
  simpa [nodeW] using this
theorem laid_cls {ns : List Nd} {i : Nat} (hi : i < ns.length) : gw (laidW ns) (plc ns i + 1) = (ns.getD i nd0).cls := by
  have := laidW_at (j := 1) hi (by omega)
  simpa [nodeW] using this
theorem laid_hash {ns : List Nd} {i : Nat} (hi : i < ns.length) : gw (laidW ns) (plc ns i + 2) = (ns.getD i nd0).hash := by
  have := laidW_at (j := 2) hi (by omega)
  simpa [nodeW] using this
theorem laid_age {ns : List Nd} {i : Nat} (hi : i < ns.length) : gw (laidW ns) (plc ns i + 3) = 0 := by
  have := laidW_at (j := 3) hi (by omega)
  simpa [nodeW] using this
theorem laid_field {ns : List Nd} {i j : Nat} (hi : i < ns.length) (hj : j < (ns.getD i nd0).fl.length) : gw (laidW ns) (plc ns i + 4 + j) = rnI ns ((ns.getD i nd0).fl.getD j 0) := by
  have := laidW_at (j := 4 + j) hi (by omega)
  rw [← Nat.add_assoc] at this
  rw [this]
  unfold nodeW
  rw [gd_right (by simp)]
  rw [show 4 + j - [((ns.getD i nd0).fl.length : Int), (ns.getD i nd0).cls, (ns.getD i nd0).hash, 0].length = j from by simp, gd_in (by rw [List.length_map]; exact hj), List.getElem_map, gd_in hj]
theorem laid_flds {ns : List Nd} {i : Nat} (hi : i < ns.length) : flds (laidW ns) (plc ns i) = (ns.getD i nd0).fl.map (rnI ns) := by
  unfold flds
  rw [laid_size hi, Int.toNat_natCast]
  refine List.ext_getElem (by simp) fun j h1 h2 => ?_
  have hj : j < (ns.getD i nd0).fl.length := by simpa using h1
  rw [List.getElem_map, List.getElem_map, List.getElem_range, laid_field hi hj]
  rw [gd_in hj]
theorem laid_it {ns : List Nd} : ∀ i, i ≤ ns.length → it (laidW ns) 0 i = plc ns i
  | 0, _ => rfl
  | i + 1, h => by
    show nx (laidW ns) (it (laidW ns) 0 i) = _
    rw [laid_it i (by omega)]
    unfold nx
    rw [laid_size (by omega), Int.toNat_natCast, plc_succ ns i (by omega)]
    omega
def plcs (ns : List Nd) : List Nat := (List.range ns.length).map (plc ns)
theorem laid_its (ns : List Nd) : its (laidW ns) 0 ns.length = plcs ns := by
  unfold its plcs
  exact List.map_congr_left fun i hi => laid_it i (by rw [List.mem_range] at hi; omega)
theorem mem_plcs {ns : List Nd} {a : Nat} : a ∈ plcs ns ↔ ∃ i, i < ns.length ∧ plc ns i = a := by simp [plcs]

theorem word_fit {ns : List Nd} {x : Int} (hn : ns.length ≤ 500) (hp : plc ns ns.length ≤ 2000) (h : wordG ns.length x = true) : fitB (plcs ns) (rnI ns x) = true ∧ youngB (rnI ns x) = false := by
  unfold wordG at h
  by_cases e : x % 2 = 0
  · rw [if_pos e] at h
    have e1 : ¬ x % 2 = 1 := by omega
    unfold wokB kindW at h
    rw [if_neg e1] at h
    have hk : kindW x = 1 := by
      unfold kindW
      rw [if_neg e1]
      split
      · rfl
      · rename_i q
        rw [if_neg q] at h
        simp at h
    have hr : rnI ns x = x := by
      unfold rnI isK
      rw [hk]
      rfl
    rw [hr]
    unfold fitB youngB
    rw [hk]
    simp
  · rw [if_neg e] at h
    have h' := of_decide_eq_true h
    have e1 : x % 2 = 1 := by omega
    have hk : kindW x = 2 := by
      unfold kindW adrB
      rw [if_pos e1, if_pos (decide_eq_true (by omega))]
    have hi : (x / 2).toNat < ns.length := by omega
    have hr : rnI ns x = 2 * (plc ns (x / 2).toNat : Int) + 1 := by
      unfold rnI isK
      rw [hk, if_pos hi]
      rfl
    have h4 := plc_lt hi
    have hk2 : kindW (2 * (plc ns (x / 2).toNat : Int) + 1) = 2 := by
      unfold kindW adrB
      rw [if_pos (by omega), if_pos (decide_eq_true (by omega))]
    have hd : (2 * (plc ns (x / 2).toNat : Int) + 1) / 2 = (plc ns (x / 2).toNat : Int) := by omega
    rw [hr]
    unfold fitB youngB
    rw [hk2, hd]
    have hm : ((plc ns (x / 2).toNat : Nat) : Int) ∈ ints (plcs ns) := List.mem_map.2 ⟨_, mem_plcs.2 ⟨_, hi, rfl⟩, rfl⟩
    refine ⟨by simpa using hm, ?_⟩
    rw [decide_eq_false (show ¬ (2000 : Int) ≤ ((plc ns (x / 2).toNat : Nat) : Int) from by omega)]
    simp

/-- A graph whose numbers are right and for which there is room becomes a right heap. -/
theorem laid_right {g : Gr} (h : preOk g) : RightAt (laidH g) (plcs g.nodes) := by
  obtain ⟨hn, hr, hh, hnd, hu, hro, hp⟩ := h
  have hw : (laidW g.nodes).length = 3200 := laidW_length (by omega)
  have nth : ∀ i, i < g.nodes.length → g.nodes.getD i nd0 ∈ g.nodes := fun i hi => by simp [hi]
  refine ⟨⟨hw, ?_, ?_, ?_, g.nodes.length, 0, 0, ?_, ?_, ?_, ?_⟩, ?_, hh, ?_, ⟨?_, ?_⟩, ?_, ?_, ?_, ?_⟩
  · show (0 : Int) ≤ (plc g.nodes g.nodes.length : Nat) ∧ _
    exact ⟨by omega, by show ((plc g.nodes g.nodes.length : Nat) : Int) ≤ 2000; omega⟩
  · exact ⟨by show (2000 : Int) ≤ 2000; omega, by show (2000 : Int) ≤ 2600; omega⟩
  · exact ⟨by show (2600 : Int) ≤ 2600; omega, by show (2600 : Int) ≤ 2600 + 300; omega⟩
  · refine ⟨?_, fun i hi => ?_⟩
    · show it (laidW g.nodes) 0 g.nodes.length = (((plc g.nodes g.nodes.length : Nat) : Int)).toNat
      rw [laid_it _ (Nat.le_refl _), Int.toNat_natCast]
    · show headB (laidW g.nodes) (it (laidW g.nodes) 0 i) = true
      rw [laid_it i (by omega)]
      obtain ⟨q1, q2, q3, q4, q5⟩ := hnd _ (nth i hi)
      unfold headB
      rw [laid_size hi, laid_cls hi, laid_age hi]
      rw [decide_eq_true (show (0 : Int) ≤ ((g.nodes.getD i nd0).fl.length : Int) ∧ ((g.nodes.getD i nd0).fl.length : Int) ≤ 60 from by omega), decide_eq_true q1]
      rfl
  · exact ⟨rfl, fun i hi => by omega⟩
  · exact ⟨rfl, fun i hi => by omega⟩
  · show plcs g.nodes = its (laidW g.nodes) 0 g.nodes.length ++ _ ++ _
    rw [laid_its, its_zero, its_zero]
    simp
  · intro i hi hnu
    refine laidW_zero ?_
    unfold inUse at hnu
    have : ¬ (i : Int) < ((plc g.nodes g.nodes.length : Nat) : Int) := fun q => hnu (.inl q)
    omega
  · intro a ha
    obtain ⟨i, hi, rfl⟩ := mem_plcs.1 ha
    show 1 ≤ gw (laidW g.nodes) (plc g.nodes i + 2)
    rw [laid_hash hi]
    exact (hnd _ (nth i hi)).2.1
  · intro a ha
    obtain ⟨i, hi, rfl⟩ := mem_plcs.1 ha
    show gw (laidW g.nodes) (plc g.nodes i + 2) < g.hash
    rw [laid_hash hi]
    exact (hnd _ (nth i hi)).2.2.1
  · show (hashesOf (laidW g.nodes) (plcs g.nodes)).Nodup
    have : hashesOf (laidW g.nodes) (plcs g.nodes) = g.nodes.map Nd.hash := by
      unfold hashesOf plcs
      rw [List.map_map]
      refine List.ext_getElem (by simp) fun j h1 h2 => ?_
      have hj : j < g.nodes.length := by simpa using h1
      rw [List.getElem_map, List.getElem_map, List.getElem_range]
      show gw (laidW g.nodes) (plc g.nodes j + 2) = _
      rw [laid_hash hj]
      simp [hj]
    rw [this]
    exact hu
  · show (g.roots.map (rnI g.nodes)).length ≤ 20
    rw [List.length_map]
    exact hr
  · intro x hx
    obtain ⟨y, hy, rfl⟩ := List.mem_map.1 hx
    exact (word_fit hn hp (hro y hy)).1
  · intro a ha
    obtain ⟨i, hi, rfl⟩ := mem_plcs.1 ha
    refine fld_mem.1 fun x hx => ?_
    have hx' : x ∈ flds (laidW g.nodes) (plc g.nodes i) := hx
    rw [laid_flds hi] at hx'
    obtain ⟨y, hy, rfl⟩ := List.mem_map.1 hx'
    exact (word_fit hn hp ((hnd _ (nth i hi)).2.2.2.2 y hy)).1
  · show keptOf (laidW g.nodes) (plcs g.nodes) = []
    unfold keptOf ints
    rw [List.map_eq_nil_iff, List.filter_eq_nil_iff]
    intro a ha
    obtain ⟨i, hi, rfl⟩ := mem_plcs.1 ha
    have : hasY (laidW g.nodes) (plc g.nodes i) = false := by
      unfold hasY
      rw [laid_flds hi, List.any_eq_false]
      intro x hx
      obtain ⟨y, hy, rfl⟩ := List.mem_map.1 hx
      rw [(word_fit hn hp ((hnd _ (nth i hi)).2.2.2.2 y hy)).2]
      simp
    rw [this]
    simp

theorem ren_word {F l : List Nat} {x : Int} (hf : fitB l x = true) (hm : isK 2 x = true → (x / 2).toNat ∈ F) : wordG F.length (ren F x) = true := by
  unfold wordG ren
  by_cases k : isK 2 x = true
  · rw [if_pos k]
    have := List.idxOf_lt_length_of_mem (hm k)
    rw [if_neg (by omega)]
    exact decide_eq_true (by omega)
  · rw [if_neg k]
    have k1 : kindW x = 1 := by
      unfold fitB at hf
      unfold isK at k
      simp only [Bool.or_eq_true, decide_eq_true_eq, Bool.and_eq_true] at hf k
      rcases hf with q | q
      · exact q
      · exact absurd q.1 k
    have e : x % 2 = 0 := by
      unfold kindW at k1
      split at k1
      · split at k1 <;> omega
      · omega
    rw [if_pos e]
    unfold wokB
    rw [k1]
    rfl

theorem nd_hashes {W : List Int} {l F : List Nat} (n1 : (hashesOf W l).Nodup) (nF : F.Nodup) (hs : F ⊆ l) : ((F.map (ndOf W F)).map Nd.hash).Nodup := by
  have e : (F.map (ndOf W F)).map Nd.hash = F.map fun a => gw W (a + 2) := by
    rw [List.map_map]
    rfl
  rw [e]
  unfold hashesOf at n1
  unfold List.Nodup at n1 ⊢
  rw [List.pairwise_map] at n1 ⊢
  refine List.Pairwise.imp_of_mem ?_ nF
  intro a b ha hb hab
  obtain ⟨i, hi, rfl⟩ := List.getElem_of_mem (hs ha)
  obtain ⟨j, hj, rfl⟩ := List.getElem_of_mem (hs hb)
  have ne : i ≠ j := fun e => hab (by subst e; rfl)
  rw [List.pairwise_iff_getElem] at n1
  rcases Nat.lt_or_gt_of_ne ne with q | q
  · exact n1 i j hi hj q
  · exact fun e => n1 j i hj hi q e.symm

/-- The graph of a right heap has right numbers. -/
theorem shape_pre' {h : Hp} {l F : List Nat} (r : RightAt h l) (hs : F ⊆ l) (hn : F.Nodup) (hr : ∀ x, x ∈ h.roots → isK 2 x = true → (x / 2).toNat ∈ F) (hf : ∀ a, a ∈ F → ∀ x, x ∈ flds h.words a → isK 2 x = true → (x / 2).toNat ∈ F)
    (hp : plc (F.map (ndOf h.words F)) (F.map (ndOf h.words F)).length ≤ 2000) : preOk (shG h.words h.roots F h.hash) := by
  have hc := plc_count (F.map (ndOf h.words F))
  have hl : (F.map (ndOf h.words F)).length = F.length := List.length_map _
  obtain ⟨q1, q2, q3, q4, q5, q6, q7, q8, q9⟩ := id r
  refine ⟨by show (F.map (ndOf h.words F)).length ≤ 500; omega, by show (h.roots.map (ren F)).length ≤ 20; rw [List.length_map]; exact q6, q3, ?_, nd_hashes q5.2 hn hs, ?_, hp⟩
  · intro n hnn
    obtain ⟨a, ha, rfl⟩ := List.mem_map.1 (show n ∈ F.map (ndOf h.words F) from hnn)
    have hal := hs ha
    obtain ⟨_, _, hd⟩ := q1.obj hal
    have hz := size_of hd
    unfold headB at hd
    simp only [Bool.and_eq_true, decide_eq_true_eq] at hd
    refine ⟨hd.2.1, q4 a hal, q5.1 a hal, ?_, ?_⟩
    · show ((flds h.words a).map (ren F)).length ≤ 60
      rw [List.length_map, flds_length]
      omega
    · intro x hx
      obtain ⟨y, hy, rfl⟩ := List.mem_map.1 (show x ∈ (flds h.words a).map (ren F) from hx)
      show wordG (F.map (ndOf h.words F)).length _ = true
      rw [hl]
      exact ren_word (right_fields r hal y hy) (fun k => hf a ha y hy k)
  · intro x hx
    obtain ⟨y, hy, rfl⟩ := List.mem_map.1 (show x ∈ h.roots.map (ren F) from hx)
    show wordG (F.map (ndOf h.words F)).length _ = true
    rw [hl]
    exact ren_word (q7 y hy) (fun k => hr y hy k)
theorem shape_pre {h : Hp} {l : List Nat} (r : RightAt h l) (hp : plc (shP h).nodes (shP h).nodes.length ≤ 2000) : preOk (shP h) := by
  have a1 := ord_sub r
  have a2 := ord_nodup h.words h.roots
  have a3 : ∀ x, x ∈ h.roots → isK 2 x = true → (x / 2).toNat ∈ ordF h.words h.roots := fun x hx k => ord_roots hx k
  have a4 : ∀ a, a ∈ ordF h.words h.roots → ∀ x, x ∈ flds h.words a → isK 2 x = true → (x / 2).toNat ∈ ordF h.words h.roots := fun a ha x hx k => ord_fields r ha hx k
  unfold shP at hp ⊢
  generalize ordF h.words h.roots = F at *
  exact shape_pre' r a1 a2 a3 a4 hp

/-- Is there a heap of this graph? Both ways to ask. -/
def gokP (g : Gr) : Prop := preOk g ∧ shP (laidH g) = g
noncomputable def gokC (g : Gr) : Bool := @decide (gokP g) (Classical.propDecidable _)
theorem gok_yes {g : Gr} (h : gokP g) : gokC g = true := @decide_eq_true _ (Classical.propDecidable _) h
theorem gok_no {g : Gr} (h : ¬ gokP g) : gokC g = false := @decide_eq_false _ (Classical.propDecidable _) h
theorem gok_of {g : Gr} (h : gokC g = true) : gokP g := @of_decide_eq_true _ (Classical.propDecidable _) h
theorem gok_impl {g : Gr} (hp : plc g.nodes g.nodes.length ≤ 2000) (hk : okC (laidH g) = true) (hs : shP (laidH g) = g) : gokP g := by
  refine ⟨?_, hs⟩
  have := shape_pre (c_right hk) (by rw [hs]; exact hp)
  rwa [hs] at this
theorem gok_laid {g : Gr} (h : gokP g) : okC (laidH g) = true := (c_yes (laid_right h.1)).1

end Go.Proofs.Ytfcidgnjanidoaa
