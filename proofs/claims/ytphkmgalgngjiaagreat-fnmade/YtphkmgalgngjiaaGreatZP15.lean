
import Derived.Test.YtphkmgalgngjiaaGreatZP4
import Derived.Test.YtphkmgalgngjiaaGreatZP14
import Derived.Test.YtphkmgalgngjiaaGreatZP13
import Derived.Test.YtphkmgalgngjiaaGreatZMDraft
import Derived.Test.YtphkmgalgngjiaaGreatZP5
import Derived.Test.YtphkmgalgngjiaaGreatZP8
import Derived.Maps.OwnSet
import Derived.Maps.OwnOps
import Derived.Maps.AppendAt
/- Graphs in plain words: the objects in the order in which they are come to, the graph of a right heap, the heap of a graph, and that both ways to ask whether there is one say the same. -/
namespace Go.Proofs.YtphkmgalgngjiaaGreat
open Go.RowKit

/-- One word followed: its object comes behind those that were found, if it is none of them. -/
def fol1 (o : List Nat) (x : Int) : List Nat := if isK 2 x = true then (if (x / 2).toNat ∈ o then o else o ++ [(x / 2).toNat]) else o
def fol (o : List Nat) (ws : List Int) : List Nat := ws.foldl fol1 o
/-- The objects that are come to by the roots and the fields of the first k. -/
def tr (W R : List Int) : Nat → List Nat
  | 0 => fol [] R
  | k + 1 => if k < (tr W R k).length then fol (tr W R k) (flds W ((tr W R k).getD k 0)) else tr W R k
/-- 3200, in a form that no one unfolds by mistake. -/
def lim (R : List Int) : Nat := 3200 + 0 * R.length
theorem lim_eq (R : List Int) : lim R = 3200 := by simp [lim]
def ordF (W R : List Int) : List Nat := tr W R (lim R)
theorem ord_tr (W R : List Int) : ordF W R = tr W R 3200 := by unfold ordF; rw [lim_eq]
/-- A word with its object's number. -/
def ren (F : List Nat) (x : Int) : Int := if isK 2 x = true then 2 * ((F.idxOf (x / 2).toNat : Nat) : Int) + 1 else x

theorem fol1_pre (o : List Nat) (x : Int) : o <+: fol1 o x := by
  unfold fol1
  split
  · split
    · exact List.prefix_refl _
    · exact List.prefix_append _ _
  · exact List.prefix_refl _
theorem fol_pre (ws : List Int) : ∀ o, o <+: fol o ws := by
  induction ws with
  | nil => intro o; exact List.prefix_refl _
  | cons x ws ih => intro o; exact (fol1_pre o x).trans (ih (fol1 o x))
theorem fol_append (o : List Nat) (a b : List Int) : fol o (a ++ b) = fol (fol o a) b := List.foldl_append
theorem fol_take_pre (o : List Nat) (ws : List Int) (j : Nat) : fol o (ws.take j) <+: fol o ws := by
  have := fol_pre (ws.drop j) (fol o (ws.take j))
  rwa [← fol_append, List.take_append_drop] at this
theorem itake_snoc (l : List Int) (k : Nat) (h : k < l.length) : l.take (k + 1) = l.take k ++ [l.getD k 0] := by
  rw [List.take_succ_eq_append_getElem h]
  simp [h]
theorem fol_snoc (o : List Nat) (ws : List Int) (j : Nat) (h : j < ws.length) : fol o (ws.take (j + 1)) = fol1 (fol o (ws.take j)) (ws.getD j 0) := by
  rw [itake_snoc ws j h, fol_append]
  rfl
theorem tr_next (W R : List Int) (k : Nat) (h : k < (tr W R k).length) : tr W R (k + 1) = fol (tr W R k) (flds W ((tr W R k).getD k 0)) := by
  rw [tr, if_pos h]
theorem tr_pre1 (W R : List Int) (k : Nat) : tr W R k <+: tr W R (k + 1) := by
  rw [tr]
  split
  · exact fol_pre _ _
  · exact List.prefix_refl _
theorem tr_pre (W R : List Int) (k d : Nat) : tr W R k <+: tr W R (k + d) := by
  induction d with
  | zero => exact List.prefix_refl _
  | succ d ih => exact ih.trans (tr_pre1 W R (k + d))
theorem tr_stay (W R : List Int) (k d : Nat) (h : (tr W R k).length ≤ k) : tr W R (k + d) = tr W R k := by
  induction d with
  | zero => rfl
  | succ d ih =>
    show tr W R ((k + d) + 1) = _
    rw [tr, if_neg (by rw [ih]; omega), ih]
theorem tr_end {W R : List Int} {k : Nat} (hk : k ≤ 3200) (h : (tr W R k).length ≤ k) : ordF W R = tr W R k := by
  have := tr_stay W R k (3200 - k) h
  rwa [show k + (3200 - k) = 3200 from by omega, ← ord_tr] at this
theorem tr_ord {W R : List Int} {k : Nat} (hk : k ≤ 3200) : tr W R k <+: ordF W R := by
  have := tr_pre W R k (3200 - k)
  rwa [show k + (3200 - k) = 3200 from by omega, ← ord_tr] at this
theorem fol1_nodup {o : List Nat} (h : o.Nodup) (x : Int) : (fol1 o x).Nodup := by
  unfold fol1
  split
  · split
    · exact h
    · rename_i hn
      rw [List.nodup_append]
      refine ⟨h, by simp, fun a ha b hb => ?_⟩
      rw [List.mem_singleton] at hb
      rintro rfl
      exact hn (hb ▸ ha)
  · exact h
theorem fol_nodup (ws : List Int) : ∀ {o : List Nat}, o.Nodup → (fol o ws).Nodup := by
  induction ws with
  | nil => intro o h; exact h
  | cons x ws ih => intro o h; exact ih (fol1_nodup h x)
theorem tr_nodup (W R : List Int) (k : Nat) : (tr W R k).Nodup := by
  induction k with
  | zero => exact fol_nodup R List.nodup_nil
  | succ k ih =>
    rw [tr]
    split
    · exact fol_nodup _ ih
    · exact ih
theorem fit_mem {l : List Nat} {x : Int} (h : fitB l x = true) (k : isK 2 x = true) : (x / 2).toNat ∈ l ∧ ((x / 2).toNat : Int) = x / 2 := by
  unfold isK at k
  have k' := of_decide_eq_true k
  unfold fitB at h
  rw [k'] at h
  simp at h
  unfold ints at h
  rw [List.mem_map] at h
  obtain ⟨a, ha, e⟩ := h
  rw [← e]
  exact ⟨by simpa using ha, by simp⟩
theorem fol1_sub {l o : List Nat} {x : Int} (ho : o ⊆ l) (hx : isK 2 x = true → (x / 2).toNat ∈ l) : fol1 o x ⊆ l := by
  unfold fol1
  split
  · rename_i hk
    split
    · exact ho
    · intro a ha
      rw [List.mem_append, List.mem_singleton] at ha
      rcases ha with ha | rfl
      · exact ho ha
      · exact hx hk
  · exact ho
theorem fol_sub {l : List Nat} (ws : List Int) : ∀ {o : List Nat}, o ⊆ l → (∀ x, x ∈ ws → fitB l x = true) → fol o ws ⊆ l := by
  induction ws with
  | nil => intro o h _; exact h
  | cons x ws ih => intro o h k; exact ih (fol1_sub h (fun q => (fit_mem (k x (by simp)) q).1)) (fun y hy => k y (by simp [hy]))
theorem fol1_has {o : List Nat} {x : Int} (k : isK 2 x = true) : (x / 2).toNat ∈ fol1 o x := by
  unfold fol1
  rw [if_pos k]
  split
  · assumption
  · simp
theorem fol_has (ws : List Int) : ∀ {o : List Nat} {x : Int}, x ∈ ws → isK 2 x = true → (x / 2).toNat ∈ fol o ws := by
  induction ws with
  | nil => intro o x h; simp at h
  | cons y ws ih =>
    intro o x h k
    rw [List.mem_cons] at h
    rcases h with rfl | h
    · exact (fol_pre ws (fol1 o x)).subset (fol1_has k)
    · exact ih h k

theorem right_fields {h : Hp} {l : List Nat} (k : RightAt h l) {a : Nat} (ha : a ∈ l) : ∀ x, x ∈ flds h.words a → fitB l x = true := by
  obtain ⟨_, _, _, _, _, _, _, q, _⟩ := k
  exact fld_mem.2 (q a ha)
theorem right_roots {h : Hp} {l : List Nat} (k : RightAt h l) : ∀ x, x ∈ h.roots → fitB l x = true := by
  obtain ⟨_, _, _, _, _, _, q, _, _⟩ := k
  exact q
theorem tr_sub {h : Hp} {l : List Nat} (r : RightAt h l) (k : Nat) : tr h.words h.roots k ⊆ l := by
  induction k with
  | zero => exact fol_sub _ (by simp) (right_roots r)
  | succ k ih =>
    rw [tr]
    split
    · rename_i hk
      exact fol_sub _ ih (right_fields r (ih (by simp [hk])))
    · exact ih
theorem tr_len {h : Hp} {l : List Nat} (r : RightAt h l) (k : Nat) : (tr h.words h.roots k).length ≤ 3200 :=
  Nat.le_trans ((tr_nodup _ _ k).length_le_of_subset (tr_sub r k)) r.1.short
theorem tr_far {W R : List Int} {i : Nat} (hi : i < (ordF W R).length) (h3 : (ordF W R).length ≤ 3200) : i < (tr W R i).length := by
  rcases Nat.lt_or_ge i (tr W R i).length with q | q
  · exact q
  · rw [tr_end (by omega) q] at hi
    omega
theorem pre_get {a b : List Nat} (h : a <+: b) {i : Nat} (hi : i < a.length) : a.getD i 0 = b.getD i 0 := by
  obtain ⟨t, rfl⟩ := h
  simp [List.getD_eq_getElem?_getD, List.getElem?_append_left hi]
theorem ord_sub {h : Hp} {l : List Nat} (r : RightAt h l) : ordF h.words h.roots ⊆ l := tr_sub r _
theorem ord_len {h : Hp} {l : List Nat} (r : RightAt h l) : (ordF h.words h.roots).length ≤ 3200 := tr_len r _
theorem ord_roots {W R : List Int} {x : Int} (hx : x ∈ R) (k : isK 2 x = true) : (x / 2).toNat ∈ ordF W R :=
  (tr_ord (k := 0) (by omega)).subset (fol_has R hx k)
theorem ord_fields {h : Hp} {l : List Nat} (r : RightAt h l) {a : Nat} (ha : a ∈ ordF h.words h.roots) {x : Int} (hx : x ∈ flds h.words a) (k : isK 2 x = true) : (x / 2).toNat ∈ ordF h.words h.roots := by
  obtain ⟨i, hi, e⟩ := List.getElem_of_mem ha
  have h3 := ord_len r
  have hf := tr_far hi h3
  have hp := tr_ord (W := h.words) (R := h.roots) (k := i) (by omega)
  have e2 : (tr h.words h.roots i).getD i 0 = a := by rw [pre_get hp hf]; simp [hi, e]
  refine (tr_ord (k := i + 1) (by omega)).subset ?_
  rw [tr_next _ _ _ hf, e2]
  exact fol_has _ hx k
def ndOf (W : List Int) (F : List Nat) (a : Nat) : Nd := ⟨gw W (a + 1), gw W (a + 2), (flds W a).map (ren F)⟩
/-- The graph of a right heap. -/
def shG (W R : List Int) (F : List Nat) (H : Int) : Gr := ⟨R.map (ren F), F.map (ndOf W F), H⟩
def shP (h : Hp) : Gr := shG h.words h.roots (ordF h.words h.roots) h.hash
def gr0 : Gr := ⟨[], [], 0⟩
noncomputable def shC (h : Hp) : Gr := if okC h = true then shP h else gr0
end Go.Proofs.YtphkmgalgngjiaaGreat

/- Theory of FnMade: what a heap with a new object is. -/
namespace Go.Proofs.YtphkmgalgngjiaaGreat
open Go.RowKit

theorem tr_same {h : Hp} {l : List Nat} (R : RightAt h l) {V : List Int} (e : ∀ a, a ∈ l → flds V a = flds h.words a) : ∀ k, tr V h.roots k = tr h.words h.roots k
  | 0 => rfl
  | k + 1 => by
    have ih := tr_same R e k
    rw [tr, tr, ih]
    split
    · rename_i hk
      have hm : (tr h.words h.roots k).getD k 0 ∈ l := tr_sub R k (by simp [hk])
      rw [e _ hm]
    · rfl
/-- The words of the objects of before are as they were. -/
theorem new_words {h : Hp} {k n : Int} (q : newB h k n = true) : (∀ a, a ∈ obC h → ∀ j, a ≤ j → j < nx h.words a → gw (newHp h k n).words j = gw h.words j) ∧
    gw (newHp h k n).words h.eden.toNat = n ∧ gw (newHp h k n).words (h.eden.toNat + 1) = k ∧ gw (newHp h k n).words (h.eden.toNat + 2) = h.hash ∧ gw (newHp h k n).words (h.eden.toNat + 3) = 0 := by
  unfold newB at q
  rw [Bool.and_eq_true, Bool.and_eq_true, Bool.and_eq_true, Bool.and_eq_true] at q
  obtain ⟨hk, q1, q2, q3, q4⟩ := q
  have R := c_right hk
  have k2 := of_decide_eq_true q2
  have k4 := of_decide_eq_true q4
  have ok := ok_len hk
  obtain ⟨m, hm⟩ : ∃ m : Nat, h.eden = m := ⟨h.eden.toNat, by omega⟩
  have G : ∀ j, gw (newHp h k n).words j = if j = m + 2 then h.hash else if j = m + 1 then k else if j = m then n else gw h.words j := fun j => by
    show gw (((h.words.set h.eden.toNat n).set (h.eden.toNat + 1) k).set (h.eden.toNat + 2) h.hash) j = _
    rw [hm, Int.toNat_natCast, gw_set _ _ _ _ (by simp; omega), gw_set _ _ _ _ (by simp; omega), gw_set _ _ _ _ (by omega)]
  rw [hm, Int.toNat_natCast]
  refine ⟨fun a ha j j1 j2 => ?_, ?_, ?_, ?_, ?_⟩
  · have U := R.1.used ha j1 j2
    have hs : 2600 ≤ survB h.flip := by unfold survB; split <;> omega
    have o := R.1.2.1
    unfold inUse at U
    rw [G, if_neg (by omega), if_neg (by omega), if_neg (by omega)]
  · rw [G, if_neg (by omega), if_neg (by omega), if_pos rfl]
  · rw [G, if_neg (by omega), if_pos rfl]
  · rw [G, if_pos rfl]
  · rw [G, if_neg (by omega), if_neg (by omega), if_neg (by omega)]
    exact ok_nought hk (m + 3) (by omega) (by omega)
/-- The graph is as it was, but for the next hash. -/
theorem new_shape {h : Hp} {k n : Int} (q : newB h k n = true) : shC (newHp h k n) = { shC h with hash := h.hash + 1 } ∧ (shC h).hash = h.hash := by
  obtain ⟨W, -⟩ := new_words q
  have hk : okC h = true := by unfold newB at q; rw [Bool.and_eq_true] at q; exact q.1
  have R := c_right hk
  obtain ⟨l', R', -⟩ := new_right q
  have hk' := (c_yes R').1
  have A : ∀ a, a ∈ obC h → ∀ j, j < 4 → gw (newHp h k n).words (a + j) = gw h.words (a + j) := fun a ha j hj => W a ha _ (by omega) (by unfold nx; omega)
  have F : ∀ a, a ∈ obC h → flds (newHp h k n).words a = flds h.words a := fun a ha => by
    have e0 : gw (newHp h k n).words a = gw h.words a := A a ha 0 (by omega)
    unfold flds
    rw [e0]
    refine List.map_congr_left fun j hj => ?_
    rw [List.mem_range] at hj
    exact W a ha _ (by omega) (by unfold nx; omega)
  have T : ordF (newHp h k n).words h.roots = ordF h.words h.roots := by
    rw [ord_tr, ord_tr]
    exact tr_same R F _
  unfold shC
  rw [if_pos hk, if_pos hk']
  refine ⟨?_, rfl⟩
  unfold shP
  show shG (newHp h k n).words h.roots (ordF (newHp h k n).words h.roots) (h.hash + 1) = _
  rw [T]
  unfold shG
  have N : (ordF h.words h.roots).map (ndOf (newHp h k n).words (ordF h.words h.roots)) = (ordF h.words h.roots).map (ndOf h.words (ordF h.words h.roots)) := by
    refine List.map_congr_left fun a ha => ?_
    have hm := ord_sub R ha
    unfold ndOf
    rw [A a hm 1 (by omega), A a hm 2 (by omega), F a hm]
  rw [N]
theorem sh_small {h : Hp} (k : okC h = true) : (shC h).roots.length ≤ 20 ∧ (shC h).nodes.length ≤ 3200 ∧ ∀ n, n ∈ (shC h).nodes → n.fl.length ≤ 1000 := by
  have R := c_right k
  have e : shC h = shP h := by unfold shC; rw [k]; rfl
  rw [e]
  refine ⟨?_, ?_, fun n hn => ?_⟩
  · show (h.roots.map _).length ≤ 20
    rw [List.length_map]
    exact R.2.2.2.2.2.1
  · show ((ordF h.words h.roots).map _).length ≤ 3200
    rw [List.length_map]
    exact ord_len R
  · obtain ⟨a, ha, rfl⟩ := List.mem_map.1 (show n ∈ (ordF h.words h.roots).map _ from hn)
    show ((flds h.words a).map _).length ≤ 1000
    rw [List.length_map, flds_length]
    have := size_of (R.1.obj (ord_sub R ha)).2.2
    omega
/-- All that FnMade asks of a new object. -/
def NewAll (t r : Hp) (k n x : Int) : Prop := okC t = true ∧ okC r = true ∧ x = 2 * t.eden + 1 ∧ isK 2 x = true ∧ valK 2 x = t.eden ∧ hdC r t.eden 0 = n ∧ hdC r t.eden 1 = k ∧ hdC r t.eden 2 = t.hash ∧ hdC r t.eden 3 = 0 ∧
  roomC r = roomC t - 4 - n ∧ (0 ≤ roomC t ∧ roomC t ≤ 600) ∧ (0 ≤ n ∧ n ≤ 60) ∧ (obC r).length = (obC t).length + 1 ∧ shC r = { shC t with hash := t.hash + 1 } ∧ (shC t).hash = t.hash ∧ t.hash < 1000000000 ∧ 1 ≤ t.hash
theorem new_all {t : Hp} {k n : Int} (q : newB t k n = true) : NewAll t (newC t k n) k n (newW' t k n) := by
  have ec : newC t k n = newHp t k n := by unfold newC; rw [q]; rfl
  have ew : newW' t k n = 2 * t.eden + 1 := by unfold newW'; rw [q]; rfl
  obtain ⟨-, w0, w1, w2, w3⟩ := new_words q
  obtain ⟨s1, s2⟩ := new_shape q
  obtain ⟨l', R', m', -, len'⟩ := new_right q
  obtain ⟨k', o'⟩ := c_yes R'
  have q' := q
  unfold newB at q
  rw [Bool.and_eq_true, Bool.and_eq_true, Bool.and_eq_true, Bool.and_eq_true] at q
  obtain ⟨hk, q1, q2, q3, q4⟩ := q
  have k2 := of_decide_eq_true q2
  have k4 := of_decide_eq_true q4
  have k3 : ¬ t.hash = 1000000000 := by simpa using q3
  have ok := ok_len hk
  have kw : kindW (2 * t.eden + 1) = 2 := by
    unfold kindW
    rw [if_pos (by omega), show (2 * t.eden + 1) / 2 = t.eden from by omega, if_pos]
    unfold adrB
    rw [decide_eq_true_eq]
    omega
  have ic : isC (newHp t k n) t.eden = true := by
    unfold isC
    rw [o', List.contains_iff_mem]
    exact List.mem_map.2 ⟨_, m', by omega⟩
  have hd : ∀ i, hdC (newHp t k n) t.eden i = gw (newHp t k n).words (t.eden.toNat + i) := fun i => by unfold hdC; rw [if_pos ic]
  rw [ec, ew]
  refine ⟨hk, k', rfl, by unfold isK; rw [kw]; rfl, by unfold valK; rw [if_pos kw]; omega, by rw [hd, Nat.add_zero, w0], by rw [hd, w1], by rw [hd, w2], by rw [hd, w3], ?_, ?_, ⟨by omega, by omega⟩, by rw [o', len'], s1, s2, by omega, by omega⟩
  · unfold roomC
    rw [if_pos k', if_pos hk]
    show 2600 - (t.eden + 4 + n) = _
    omega
  · unfold roomC
    rw [if_pos hk]
    omega

end Go.Proofs.YtphkmgalgngjiaaGreat

/- Room of the program. -/
namespace Go.Proofs.YtphkmgalgngjiaaGreat
open Go.RowKit

set_option maxHeartbeats 800000 in
theorem implRoom_c (v : Value) (h : Hp) (w : World) (hv : HR w v h) (hro : h.roots.length ≤ 1000000000000) (hke : h.kept.length ≤ 1000000000000) :
    Calls Tryz.prog 15 #[v] w fun x w' => x = .returned (.int .i64 (roomC h)) ∧ Below w.heap.size w w' := by
  obtain ⟨v1, v2, v3, rfl, i1, i2, i3⟩ := id hv
  have hb0 := bel_one w (.cells #[v1, v2, .int .i64 h.old, .int .i64 h.eden, .int .i64 h.surv, .bool h.flip, .int .i64 h.hash, v3] 26)
  have X0 := Bx.new w v1 v2 v3 h 26
  have C := implHeapOk_c _ h _ (hv.later hb0) hro hke
  clear i1 i2 i3
  cases hk : okC h
  · have e : Hid (roomC h = -1) := (by unfold roomC; rw [hk]; rfl : roomC h = -1)
    rw [hk] at C
    go_enter Tryz.func15, Tryz.ntmps15
    go_wp2_with fail
    refine C.mono ?_
    rintro x w1 ⟨rfl, hb1⟩
    go_wp2
    go_ret
    exact ⟨wret_int e.out.symm, bel_after hb0 hb1⟩
  · have e : Hid (roomC h = 2600 - h.eden) := (by unfold roomC; rw [hk]; rfl : roomC h = 2600 - h.eden)
    obtain ⟨-, ok2, ok3, -⟩ := ok_len hk
    have ER := fun W => edenRoom_any h.eden W ⟨by omega, by omega⟩
    rw [hk] at C
    go_enter Tryz.func15, Tryz.ntmps15
    go_wp2_with fail
    refine C.mono ?_
    rintro x w1 ⟨rfl, hb1⟩
    obtain ⟨c0, c1, c2, c3, c4, c5, c6, c7⟩ := X0.later hb1
    go_wp2_with (go_at_call 39; refine (ER _).mono ?_; rintro e wq ⟨rfl, hq⟩; obtain rfl := hq.symm)
    go_ret
    exact ⟨wret_int e.out.symm, bel_after hb0 hb1⟩

end Go.Proofs.YtphkmgalgngjiaaGreat

/- Worlds that have grown outside of some blocks; maps from numbers to numbers; appending, with where the new row lies. -/
namespace Go.Proofs.YtphkmgalgngjiaaGreat
open Go.RowKit Go.Maps

theorem keyL : Keyed Tryz.prog 2 := int_keyed Tryz.underlying2
theorem zeroI (w : World) : (zeroValue 2).run Tryz.prog w = .ok (.int .i64 0) w := by kernel_rfl
theorem wf64 {k : Int} (h : In64 k) : (Lit.int .i64 k).wf = true := WalkArith.wf_i64 (by unfold In64 at h; omega)
/-- Block b is a map of at most n entries that gives f. -/
def MP (w : World) (b n : Nat) (f : Int → Option Int) : Prop :=
  ∃ D : DataW Unit, w.ownsMap Tryz.prog 2 (plainElem Tryz.prog 2) b n D ∧ ∀ k, In64 k → Maps.has D (.int .i64 k) = (f k).isSome ∧ D.atKey (.int .i64 k) (.lit (.int .i64 0)) = .lit (.int .i64 ((f k).getD 0))
theorem MP.lt {w : World} {b n : Nat} {f : Int → Option Int} (h : MP w b n f) : b < w.heap.size := by
  obtain ⟨D, h, _⟩ := h
  exact h.lt
theorem MP.made (w : World) : MP (w.alloc (.map #[] 0)) w.heap.size 0 (fun _ => none) :=
  ⟨.map [], World.ownsMap_made _ _ _ _, fun _ _ => ⟨rfl, rfl⟩⟩
theorem Grew.mp {w w' : World} {S : Nat → Prop} {b n : Nat} {f : Int → Option Int} (h : Grew w w' S) (hm : MP w b n f) (hn : ¬ S b) : MP w' b n f := by
  have hlt := hm.lt
  obtain ⟨D, ⟨es, clock, hb, r⟩, q⟩ := hm
  exact ⟨D, ⟨es, clock, (h.block b hlt hn).trans hb, r⟩, q⟩
theorem MP.later {w w' : World} {b n : Nat} {f : Int → Option Int} (hm : MP w b n f) (h : Below w.heap.size w w') : MP w' b n f := (Grew.new h (fun _ => False)).mp hm (fun x => x)
def putF (f : Int → Option Int) (k v : Int) : Int → Option Int := fun j => if j = k then some v else f j

section
variable {ops : Array Oper} {rest : List Oper} {o : Oper} {a : Act} {Q : Exit → Act → World → Prop}

theorem look_ok (w : World) (hg : o.guard = none) (m x : Operand) (hop : o.op = Op.lookup 80 m x true) (b n : Nat) (f : Int → Option Int) (hm : a.eval m = .map (some b)) (hM : MP w b n f)
    (k : Int) (hx : a.eval x = .int .i64 k) (hk : In64 k) (h : wpList Tryz.prog ops Q rest (a.put o.dst (.tuple #[.int .i64 ((f k).getD 0), .bool (f k).isSome])) w) : wpList Tryz.prog ops Q (o :: rest) a w := by
  obtain ⟨D, hown, hD⟩ := hM
  refine wpList_lookup_own_ok_int w hg m x 80 hop 2 2 .i64 keyL Tryz.underlying80 Tryz.underlying2 (zeroI _) b n D hm hown _ _ hx (keyOf_int_mk Tryz.underlying2 (wf64 hk)) (fun c hc _ => ?_)
  obtain ⟨h1, h2⟩ := hD k hk
  rw [h2] at hc
  simp only [DataW.lit.injEq, Lit.int.injEq, true_and] at hc
  rw [h1, ← hc]
  exact h
theorem look_up (w : World) (hg : o.guard = none) (m x : Operand) (hop : o.op = Op.lookup 80 m x false) (b n : Nat) (f : Int → Option Int) (hm : a.eval m = .map (some b)) (hM : MP w b n f)
    (k : Int) (hx : a.eval x = .int .i64 k) (hk : In64 k) (h : wpList Tryz.prog ops Q rest (a.put o.dst (.int .i64 ((f k).getD 0))) w) : wpList Tryz.prog ops Q (o :: rest) a w := by
  obtain ⟨D, hown, hD⟩ := hM
  refine wpList_lookup_own_int w hg m x 80 hop 2 2 .i64 keyL Tryz.underlying80 Tryz.underlying2 (zeroI _) b n D hm hown _ _ hx (keyOf_int_mk Tryz.underlying2 (wf64 hk)) (fun c hc _ => ?_)
  obtain ⟨h1, h2⟩ := hD k hk
  rw [h2] at hc
  simp only [DataW.lit.injEq, Lit.int.injEq, true_and] at hc
  rw [← hc]
  exact h
end
theorem MP.update {w : World} {b n : Nat} {f : Int → Option Int} (hM : MP w b n f) (hn : n ≤ 1000000000000) (k v : Int) (hk : In64 k) (hv : In64 v) :
    ∃ w', (Instr.mapUpdate 80 (.map (some b)) (.int .i64 k) (.int .i64 v)).run Tryz.prog w = .ok () w' ∧ MP w' b (n + 1) (putF f k v) ∧ w.grownBy w' (some b) := by
  obtain ⟨D, hown, hD⟩ := hM
  have hI : IsMap D := hown.isMap
  obtain ⟨w', hr, ho, hg⟩ := hown.update keyL Tryz.underlying80 (by unfold maxLen; omega) (keyOf_int_mk Tryz.underlying2 (wf64 hk)) (plainElem_int Tryz.underlying2 (wf64 hv))
  refine ⟨w', hr, ⟨_, ho, fun j hj => ?_⟩, hg⟩
  unfold putF
  by_cases e : j = k
  · subst e
    rw [if_pos rfl, has_put_same (k := .int .i64 j) hI trivial, atKey_put_same (k := .int .i64 j) hI trivial]
    exact ⟨rfl, rfl⟩
  · have ne : (Lit.int .i64 j) ≠ .int .i64 k := fun q => e (by simpa using q)
    rw [if_neg e, has_put_other ne, atKey_put_other ne]
    exact hD j hj

/-! Appending one number, and where the new row lies. -/
theorem app_at {ops : Array Oper} {rest : List Oper} {o : Oper} {a : Act} {Q : Exit → Act → World → Prop} (w : World) (hgd : o.guard = none) (s x : Operand)
    (ho : o.op = .call { callee := .builtin .append, args := #[s, x], argTypes := #[24, 24] }) (B : Nat) (v : Value) (n : Nat) (xs : List Value) (hs : a.eval s = v) (hown : w.ownsRow B 2 1 v n xs)
    (g c : Nat) (z : Int) (hx : a.eval x = .slice (some ⟨g, 0, none⟩) 1 c) (hc : w.cell? ⟨g, 0, none⟩ = some (.int .i64 z)) (hn : n ≤ 1000000000000) (hB : B ≤ w.heap.size)
    (h : ∀ v' w', w'.ownsRow B 2 1 v' (n + 1) (xs ++ [.int .i64 z]) → w.grownBy w' v.ownBlock → (v'.ownBlock = v.ownBlock ∨ v'.ownBlock = some w.heap.size) → wpList Tryz.prog ops Q rest (a.put o.dst v') w') : wpList Tryz.prog ops Q (o :: rest) a w := by
  obtain ⟨i, hi, hzz⟩ := Option.map_eq_some_iff.1 Tryz.infoI
  simp only [Prod.mk.injEq] at hzz
  obtain ⟨hz, hsz, hby⟩ := hzz
  refine wpList_append_own_at w hgd s x 24 ho B 2 i _ 1 8 Tryz.underlying24 hi hz hsz hby rfl (by omega) v n xs hs hown ⟨g, 0, none⟩ 1 c [.int .i64 z] hx rfl (fun j u hj => ?_) (fun u hu => ?_) (by unfold maxLen; omega) (by omega) hB (fun v' w' h1 h2 _ h4 => h v' w' h1 h2 h4)
  · match j, hj with
    | 0, hj => simp at hj; subst hj; simpa [Addr.add] using hc
  · simp at hu; subst hu; rfl

theorem Tryz.infoN : (Tryz.prog.info? 87).map (fun i => (i.zero, i.size, i.bytes)) = some (some (.agg #[.int .i64 0, .int .i64 0, .slice none 0 0]), 3, 40) := by kernel_rfl
/-- Appending one node, and where the new row lies. -/
theorem app_node {ops : Array Oper} {rest : List Oper} {o : Oper} {a : Act} {Q : Exit → Act → World → Prop} (w : World) (hgd : o.guard = none) (s x : Operand)
    (ho : o.op = .call { callee := .builtin .append, args := #[s, x], argTypes := #[36, 36] }) (B : Nat) (v : Value) (n : Nat) (xs : List Value) (hs : a.eval s = v) (hown : w.ownsRow B 87 3 v n xs)
    (g c : Nat) (z y : Int) (fa : Option Addr) (fn fc : Nat) (hx : a.eval x = .slice (some ⟨g, 0, none⟩) 1 c) (hc : w.cell? ⟨g, 0, none⟩ = some (.int .i64 z) ∧ w.cell? ⟨g, 1, none⟩ = some (.int .i64 y) ∧ w.cell? ⟨g, 2, none⟩ = some (.slice fa fn fc)) (hn : n ≤ 1000000000) (hB : B ≤ w.heap.size)
    (h : ∀ v' w', w'.ownsRow B 87 3 v' (n + 1) (xs ++ [.int .i64 z, .int .i64 y, .slice fa fn fc]) → w.grownBy w' v.ownBlock → (v'.ownBlock = v.ownBlock ∨ v'.ownBlock = some w.heap.size) → wpList Tryz.prog ops Q rest (a.put o.dst v') w') : wpList Tryz.prog ops Q (o :: rest) a w := by
  obtain ⟨i, hi, hzz⟩ := Option.map_eq_some_iff.1 Tryz.infoN
  simp only [Prod.mk.injEq] at hzz
  obtain ⟨hz, hsz, hby⟩ := hzz
  refine wpList_append_own_at w hgd s x 36 ho B 87 i _ 3 40 Tryz.underlying36 hi hz hsz hby rfl (by omega) v n xs hs hown ⟨g, 0, none⟩ 1 c [.int .i64 z, .int .i64 y, .slice fa fn fc] hx rfl (fun j u hj => ?_) (fun u hu => ?_) (by unfold maxLen; omega) (by omega) hB (fun v' w' h1 h2 _ h4 => h v' w' h1 h2 h4)
  · match j, hj with
    | 0, hj => simp at hj; subst hj; simpa [Addr.add] using hc.1
    | 1, hj => simp at hj; subst hj; simpa [Addr.add] using hc.2.1
    | 2, hj => simp at hj; subst hj; simpa [Addr.add] using hc.2.2
  · simp at hu; rcases hu with rfl | rfl | rfl <;> rfl

end Go.Proofs.YtphkmgalgngjiaaGreat

/- l6Told of the model: a word with its object's number. -/
namespace Go.Proofs.YtphkmgalgngjiaaGreat
open Go.RowKit

/-- The numbers of the objects that were found, one more each, nought for none. -/
def nmF (o : List Nat) (i : Nat) : Value := .int .i64 (if i ∈ o then ((o.idxOf i : Nat) : Int) + 1 else 0)
end Go.Proofs.YtphkmgalgngjiaaGreat
