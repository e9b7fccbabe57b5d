import Derived.Test.YtfcidgnjanidoaaZU0
import Derived.Test.YtfcidgnjanidoaaZHLawM
import Derived.Test.YtfcidgnjanidoaaZMPlain
import Derived.Test.YtfcidgnjanidoaaZU9
import Derived.Test.YtfcidgnjanidoaaZU10
import Derived.Test.YtfcidgnjanidoaaZHBase
/- Theory of FnHeaps: the headers of a right heap, the sum of its objects' sizes, a new heap is right; likeInts. -/
namespace Go.Proofs.Ytfcidgnjanidoaa
open Go.RowKit

/-- The words that these objects take. -/
def szS (W : List Int) : List Nat → Int
  | [] => 0
  | a :: l => 4 + gw W a + szS W l
theorem szS_app (W : List Int) (l m : List Nat) : szS W (l ++ m) = szS W l + szS W m := by
  induction l with
  | nil => simp [szS]
  | cons a l ih => simp only [List.cons_append, szS, ih]; omega
theorem szS_snoc (W : List Int) (l : List Nat) (k : Nat) (h : k < l.length) : szS W (l.take (k + 1)) = szS W (l.take k) + 4 + gw W (l.getD k 0) := by
  rw [List.take_succ_eq_append_getElem h, szS_app]
  simp only [szS, List.getD_eq_getElem?_getD, List.getElem?_eq_getElem h, Option.getD_some]
  omega
theorem szS_its {W : List Int} {f n : Nat} (h : ∀ i, i < n → headB W (it W f i) = true) : szS W (its W f n) = (it W f n : Int) - f := by
  induction n with
  | zero => simp [its, szS, it]
  | succ n ih =>
    have hh := h n (by omega)
    unfold headB at hh
    simp only [Bool.and_eq_true, decide_eq_true_eq] at hh
    rw [its_succ, szS_app, ih (fun i hi => h i (by omega))]
    show (it W f n : Int) - f + (4 + gw W (it W f n) + 0) = (nx W (it W f n) : Nat) - f
    unfold nx
    omega
theorem szS_all {h : Hp} {l : List Nat} (k : PartsAt h l) : szS h.words l = h.old + h.eden - 2000 + h.surv - (survB h.flip : Int) := by
  obtain ⟨_, o, e, s, n0, n1, n2, g0, g1, g2, rfl⟩ := k
  rw [szS_app, szS_app, szS_its g0.2, szS_its g1.2, szS_its g2.2, g0.1, g1.1, g2.1]
  omega
theorem szS_bound {h : Hp} {l : List Nat} (k : PartsAt h l) (n : Nat) : 0 ≤ szS h.words (l.take n) ∧ szS h.words (l.take n) ≤ 210000 := by
  have L := k.short
  have B : ∀ m : List Nat, (∀ a, a ∈ m → a ∈ l) → 0 ≤ szS h.words m ∧ szS h.words m ≤ 64 * m.length := by
    intro m
    induction m with
    | nil => intro _; simp [szS]
    | cons a m ih =>
      intro q
      have hh := (k.obj (q a (by simp))).2.2
      unfold headB at hh
      simp only [Bool.and_eq_true, decide_eq_true_eq] at hh
      have := ih (fun b hb => q b (by simp [hb]))
      simp only [szS, List.length_cons]
      omega
  have := B (l.take n) (fun a ha => List.mem_of_mem_take ha)
  have tl : (l.take n).length ≤ l.length := by rw [List.length_take]; omega
  omega
theorem rise {l : List Nat} (so : l.Pairwise (· < ·)) {k : Nat} (h : k + 1 < l.length) : l.getD k 0 < l.getD (k + 1) 0 := by
  have := List.pairwise_iff_getElem.1 so k (k + 1) (by omega) h (by omega)
  simpa [List.getD_eq_getElem?_getD, List.getElem?_eq_getElem h, List.getElem?_eq_getElem (show k < l.length by omega)] using this
theorem getD_memL {l : List Nat} {k : Nat} (h : k < l.length) : l.getD k 0 ∈ l := by
  rw [List.getD_eq_getElem?_getD, List.getElem?_eq_getElem h]
  exact List.getElem_mem h
/-- What the header of an object of a right heap is. -/
theorem head_of {h : Hp} (k : okC h = true) {i : Nat} (hi : i < (obC h).length) :
    isC h ((obC h).getD i 0 : Nat) = true ∧ (obC h).getD i 0 + 4 ≤ 3200 ∧ (0 ≤ gw h.words ((obC h).getD i 0) ∧ gw h.words ((obC h).getD i 0) ≤ 60) ∧ (0 ≤ gw h.words ((obC h).getD i 0 + 1) ∧ gw h.words ((obC h).getD i 0 + 1) ≤ 99) ∧
    (1 ≤ gw h.words ((obC h).getD i 0 + 2) ∧ gw h.words ((obC h).getD i 0 + 2) < h.hash) ∧ (0 ≤ gw h.words ((obC h).getD i 0 + 3) ∧ gw h.words ((obC h).getD i 0 + 3) ≤ 15) := by
  have R := c_right k
  have m := getD_memL hi
  have o := R.1.obj m
  have hh := o.2.2
  unfold headB at hh
  simp only [Bool.and_eq_true, decide_eq_true_eq] at hh
  refine ⟨?_, o.1, hh.1, hh.2.1, ⟨R.2.2.2.1 _ m, R.2.2.2.2.1.1 _ m⟩, hh.2.2⟩
  unfold isC
  exact mem_stop hi rfl
theorem new_ok : okC newH = true := by
  have W : newH.words = newW := rfl
  have g : ∀ i, gw newH.words i = 0 := fun i => newW_get i
  refine (c_yes (l := []) ?_).1
  refine ⟨⟨newW_length, ⟨by decide, by decide⟩, ⟨by decide, by decide⟩, ⟨by decide, by decide⟩, 0, 0, 0, ⟨rfl, fun i hi => absurd hi (by omega)⟩, ⟨rfl, fun i hi => absurd hi (by omega)⟩, ⟨rfl, fun i hi => absurd hi (by omega)⟩, rfl⟩, fun i _ _ => g i, ⟨by decide, by decide⟩, ?_, ⟨?_, ?_⟩, ?_, ?_, ?_, rfl⟩
  · intro a ha; simp at ha
  · intro a ha; simp at ha
  · exact List.nodup_nil
  · show ([] : List Int).length ≤ 20; simp
  · intro x hx; exact absurd (show x ∈ ([] : List Int) from hx) (by simp)
  · intro a ha; simp at ha


end Go.Proofs.Ytfcidgnjanidoaa

/- What is reached: the marks of the model's compacting collector and the tour of the graph are of the same objects; garbage in plain words. -/
namespace Go.Proofs.Ytfcidgnjanidoaa
open Go.RowKit

theorem fol_in {P : Nat → Prop} (ws : List Int) : ∀ {o : List Nat}, (∀ a, a ∈ o → P a) → (∀ x, x ∈ ws → isK 2 x = true → P (x / 2).toNat) → ∀ a, a ∈ fol o ws → P a := by
  induction ws with
  | nil => intro o h _ a ha; exact h a ha
  | cons x ws ih =>
    intro o h hx a ha
    refine ih (o := fol1 o x) (fun b hb => ?_) (fun y hy => hx y (by simp [hy])) a ha
    unfold fol1 at hb
    split at hb
    · split at hb
      · exact h b hb
      · rename_i k _
        rw [List.mem_append, List.mem_singleton] at hb
        rcases hb with hb | rfl
        · exact h b hb
        · exact hx x (by simp) k
    · exact h b hb
theorem isK_odd {x : Int} (k : isK 2 x = true) : ¬ x % 2 = 0 := by
  unfold isK kindW at k
  rw [decide_eq_true_eq] at k
  intro e
  rw [if_neg (by omega)] at k
  split at k <;> omega
theorem odd_isK {l : List Nat} {x : Int} (hf : fitB l x = true) (ho : ¬ x % 2 = 0) : isK 2 x = true := by
  have k := fit_kind hf
  unfold isK
  rw [decide_eq_true_eq]
  rw [kind_odd ho] at k ⊢
  split at k
  · rename_i q; rw [if_pos q]
  · exact absurd rfl k
theorem getD_set_bool (s : List Bool) (a b : Nat) (h : a < s.length) : (s.set a true).getD b false = if a = b then true else s.getD b false := by
  simp only [List.getD_eq_getElem?_getD, List.getElem?_set]
  by_cases e : a = b
  · subst e
    rw [if_pos rfl, if_pos h, if_pos rfl]
    rfl
  · rw [if_neg e, if_neg e]
/-- What the marks are, behind i words. -/
structure RM (h : Hp) (l : List Nat) (i : Nat) (s : List Int × List Bool) : Prop where
  rc : RC h l s
  inn : ∀ x, x ∈ s.1 → x ∈ h.roots ∨ ∃ a, a ∈ ordF h.words h.roots ∧ x ∈ flds h.words a
  sub : ∀ a, s.2.getD a false = true → a ∈ ordF h.words h.roots
  rts : ∀ x, x ∈ h.roots → x ∈ s.1
  don : ∀ j, j < i → j < s.1.length → isK 2 (s.1.getD j 0) = true → s.2.getD (s.1.getD j 0 / 2).toNat false = true
  fld : ∀ a, s.2.getD a false = true → ∀ x, x ∈ flds h.words a → x ∈ s.1
theorem rm_start {h : Hp} {l : List Nat} (R : RightAt h l) : RM h l 0 (rcS h 0) := by
  have z : ∀ a, (rcS h 0).2.getD a false = true → False := fun a q => by
    have e : seen0.getD a false = false := by
      simp only [seen0, List.getD_eq_getElem?_getD, List.getElem?_replicate]
      split <;> rfl
    have q' : seen0.getD a false = true := q
    rw [e] at q'
    cases q'
  exact ⟨rc_start R, fun x hx => .inl hx, fun a q => (z a q).elim, fun x hx => hx, fun j hj => absurd hj (Nat.not_lt_zero j), fun a q => (z a q).elim⟩
theorem rm_step {h : Hp} {l : List Nat} (R : RightAt h l) {s : List Int × List Bool} {i : Nat} (k : RM h l i s) (hi : i < s.1.length) : RM h l (i + 1) (rc1 h.words s i) := by
  have rc' := rc_step R k.rc hi
  have hx : s.1.getD i 0 ∈ s.1 := by simp [hi]
  unfold rc1 at rc' ⊢
  split
  · rename_i h1
    refine ⟨k.rc, k.inn, k.sub, k.rts, fun j hj hl q => ?_, k.fld⟩
    by_cases e : j = i
    · subst e; exact absurd h1 (isK_odd q)
    · exact k.don j (by omega) hl q
  split
  · rename_i h1 h2
    refine ⟨k.rc, k.inn, k.sub, k.rts, fun j hj hl q => ?_, k.fld⟩
    by_cases e : j = i
    · subst e; exact h2
    · exact k.don j (by omega) hl q
  · rename_i h1 h2
    rw [if_neg h1, if_neg h2] at rc'
    have ik := odd_isK (k.rc.fit _ hx) h1
    have am : (s.1.getD i 0 / 2).toNat ∈ ordF h.words h.roots := by
      rcases k.inn _ hx with q | ⟨a, ha, q⟩
      · exact ord_roots q ik
      · exact ord_fields R ha q ik
    have al : (s.1.getD i 0 / 2).toNat < s.2.length := by
      have := (R.1.obj (ord_sub R am)).1
      have := k.rc.len
      omega
    have S := fun b => getD_set_bool s.2 _ b al
    generalize ea : (s.1.getD i 0 / 2).toNat = a at *
    refine ⟨rc', fun x q => ?_, fun b q => ?_, fun x q => List.mem_append_left _ (k.rts x q), fun j hj hl q => ?_, fun b q x hb => ?_⟩
    · have q' : x ∈ s.1 ++ flds h.words a := q
      rw [List.mem_append] at q'
      rcases q' with q' | q'
      · exact k.inn x q'
      · exact .inr ⟨a, am, q'⟩
    · have q' : (s.2.set a true).getD b false = true := q
      rw [S] at q'
      by_cases e : a = b
      · subst e; exact am
      · rw [if_neg e] at q'; exact k.sub b q'
    · have hjl : j < s.1.length := by omega
      have eg : (s.1 ++ flds h.words a).getD j 0 = s.1.getD j 0 := gd_left hjl
      have q' : isK 2 ((s.1 ++ flds h.words a).getD j 0) = true := q
      show (s.2.set a true).getD ((s.1 ++ flds h.words a).getD j 0 / 2).toNat false = true
      rw [eg] at q' ⊢
      rw [S]
      by_cases e : j = i
      · subst e
        rw [if_pos ea.symm]
      · split
        · rfl
        · exact k.don j (by omega) hjl q'
    · have q' : (s.2.set a true).getD b false = true := q
      rw [S] at q'
      show x ∈ s.1 ++ flds h.words a
      by_cases e : a = b
      · subst e; exact List.mem_append_right _ hb
      · rw [if_neg e] at q'
        exact List.mem_append_left _ (k.fld b q' x hb)
theorem rm_all {h : Hp} {l : List Nat} (R : RightAt h l) : ∀ i, i ≤ (rcS h i).1.length → RM h l i (rcS h i)
  | 0, _ => rm_start R
  | i + 1, hle => by
    by_cases hi : i < (rcS h i).1.length
    · have e : rcS h (i + 1) = rc1 h.words (rcS h i) i := by rw [rcS, if_pos hi]
      rw [e]
      exact rm_step R (rm_all R i (by omega)) hi
    · have e : rcS h (i + 1) = rcS h i := by rw [rcS, if_neg hi]
      rw [e] at hle
      omega
/-- What the model has marked is what the tour comes to. -/
theorem seen_iff {h : Hp} {l : List Nat} (R : RightAt h l) {i : Nat} (e : i = (rcS h i).1.length) (a : Nat) : (rcS h i).2.getD a false = true ↔ a ∈ ordF h.words h.roots := by
  have k := rm_all R i (by omega)
  refine ⟨k.sub a, fun ha => ?_⟩
  have inS : ∀ x, x ∈ (rcS h i).1 → isK 2 x = true → (rcS h i).2.getD (x / 2).toNat false = true := fun x hx q => by
    obtain ⟨j, hj, rfl⟩ := List.mem_iff_getElem.1 hx
    have eg : (rcS h i).1.getD j 0 = (rcS h i).1[j] := gd_in hj
    have := k.don j (by omega) hj (by rw [eg]; exact q)
    rwa [eg] at this
  have T : ∀ m, ∀ b, b ∈ tr h.words h.roots m → (rcS h i).2.getD b false = true := by
    intro m
    induction m with
    | zero => exact fol_in _ (fun b hb => absurd hb (by simp)) (fun x hx q => inS x (k.rts x hx) q)
    | succ m ih =>
      by_cases hm : m < (tr h.words h.roots m).length
      · rw [tr_next _ _ _ hm]
        have hb : (tr h.words h.roots m).getD m 0 ∈ tr h.words h.roots m := by simp [hm]
        exact fol_in _ ih (fun x hx q => inS x (k.fld _ (ih _ hb) x hx) q)
      · have e : tr h.words h.roots (m + 1) = tr h.words h.roots m := by rw [tr, if_neg hm]
        rw [e]
        exact ih
  rw [ord_tr] at ha
  exact T _ a ha

/-- The objects that are reached, by rising address. -/
noncomputable def rchL (h : Hp) : List Nat := (obC h).filter fun a => decide (a ∈ ordF h.words h.roots)
theorem rch_perm {h : Hp} (k : okC h = true) : (ordF h.words h.roots).Perm (rchL h) := by
  have R := c_right k
  have so := ok_sorted k
  have nd : (obC h).Nodup := so.imp (fun q => by omega)
  refine (List.perm_ext_iff_of_nodup (ord_nodup _ _) (nd.filter _)).2 fun a => ?_
  rw [List.mem_filter, decide_eq_true_eq]
  exact ⟨fun q => ⟨ord_sub R q, q⟩, fun q => q.2⟩
theorem rch_sorted {h : Hp} (k : okC h = true) : (rchL h).Pairwise (· < ·) := (ok_sorted k).filter _
theorem szS_perm {W : List Int} {l m : List Nat} (p : l.Perm m) : szS W l = szS W m := by
  induction p with
  | nil => rfl
  | cons x _ ih => simp only [szS, ih]
  | swap x y l => simp only [szS]; omega
  | trans _ _ h1 h2 => exact h1.trans h2
theorem szS_part (W : List Int) (p : Nat → Bool) : ∀ l : List Nat, szS W l = szS W (l.filter p) + szS W (l.filter fun a => !p a)
  | [] => by simp [szS]
  | a :: l => by
    have ih := szS_part W p l
    rw [List.filter_cons, List.filter_cons]
    cases h : p a
    · simp only [Bool.false_eq_true, if_false, Bool.not_false, if_true, szS]; omega
    · simp only [if_true, Bool.not_true, Bool.false_eq_true, if_false, szS]; omega
/-- What Garbage answers. -/
noncomputable def gaC (h : Hp) : Int := if okC h = true then szS h.words (obC h) - szS h.words (ordF h.words h.roots) else -1
theorem ga_spec {h : Hp} (k : okC h = true) {i : Nat} (e : i = (rcS h i).1.length) : szS h.words ((obC h).filter fun a => !(rcS h i).2.getD a false) = gaC h := by
  have R := c_right k
  unfold gaC
  rw [if_pos k, szS_perm (rch_perm k), szS_part h.words (fun a => decide (a ∈ ordF h.words h.roots)) (obC h)]
  have q : ((obC h).filter fun a => !(rcS h i).2.getD a false) = (obC h).filter fun a => !decide (a ∈ ordF h.words h.roots) := by
    refine List.filter_congr fun a _ => ?_
    have := seen_iff R e a
    cases hs : (rcS h i).2.getD a false
    · rw [hs] at this
      have n : ¬ a ∈ ordF h.words h.roots := fun q => by have := this.2 q; cases this
      simp [n]
    · have y : a ∈ ordF h.words h.roots := this.1 hs
      simp [y]
  rw [q]
  unfold rchL
  omega

end Go.Proofs.Ytfcidgnjanidoaa

/- Worlds that have grown outside of some blocks. -/
namespace Go.Proofs.Ytfcidgnjanidoaa
open Go.RowKit

/-- w' is w with new blocks, and with writes to blocks of S alone. -/
structure Grew (w w' : World) (S : Nat → Prop) : Prop where
  os : w'.os = w.os
  tape : w'.tape = w.tape
  output : w'.output = w.output
  size : w.heap.size ≤ w'.heap.size
  block : ∀ k, k < w.heap.size → ¬ S k → w'.heap[k]? = w.heap[k]?
theorem Grew.refl (w : World) (S : Nat → Prop) : Grew w w S := ⟨rfl, rfl, rfl, Nat.le_refl _, fun _ _ _ => rfl⟩
theorem Grew.mono {w w' : World} {S T : Nat → Prop} (h : Grew w w' S) (k : ∀ b, b < w.heap.size → S b → T b) : Grew w w' T :=
  ⟨h.os, h.tape, h.output, h.size, fun b hb hn => h.block b hb (fun s => hn (k b hb s))⟩
theorem Grew.trans {a b c : World} {S : Nat → Prop} (h : Grew a b S) (k : Grew b c S) : Grew a c S :=
  ⟨k.os.trans h.os, k.tape.trans h.tape, k.output.trans h.output, Nat.le_trans h.size k.size, fun i hi hn => (k.block i (Nat.lt_of_lt_of_le hi h.size) hn).trans (h.block i hi hn)⟩
theorem Grew.trans' {a b c : World} {S T : Nat → Prop} (h : Grew a b S) (k : Grew b c T) (hT : ∀ x, T x → S x ∨ a.heap.size ≤ x) : Grew a c S :=
  ⟨k.os.trans h.os, k.tape.trans h.tape, k.output.trans h.output, Nat.le_trans h.size k.size, fun i hi hn => (k.block i (Nat.lt_of_lt_of_le hi h.size) (fun q => (hT i q).elim hn (fun z => by omega))).trans (h.block i hi hn)⟩
theorem Grew.new {w w' : World} (h : Below w.heap.size w w') (S : Nat → Prop) : Grew w w' S := ⟨h.os, h.tape, h.output, h.size, fun k hk _ => h.block k hk⟩
theorem Grew.above {w w' : World} {B : Nat} (h : Below B w w') : Grew w w' (fun k => B ≤ k) := ⟨h.os, h.tape, h.output, h.size, fun k _ hn => h.block k (Nat.lt_of_not_le hn)⟩
theorem Grew.grown {w w' : World} {row : Option Nat} (h : w.grownBy w' row) : Grew w w' (fun k => row = some k) := ⟨h.os, h.tape, h.output, h.size, fun k hk hn => h.block k hk (fun e => hn e.symm)⟩
theorem Grew.set (w : World) (b i : Nat) (v : Value) : Grew w (w.setCell ⟨b, i, none⟩ v) (fun k => k = b) :=
  ⟨rfl, rfl, rfl, by simp [World.setCell], fun k _ hn => Below.heap_setCell _ _ _ _ hn⟩
theorem Grew.below {w w' : World} {S : Nat → Prop} {B : Nat} (h : Grew w w' S) (hB : B ≤ w.heap.size) (k : ∀ b, b < w.heap.size → S b → B ≤ b) : Below B w w' :=
  ⟨h.os, h.tape, h.output, h.size, fun b hb => h.block b (by omega) (fun s => by have := k b (by omega) s; omega)⟩
theorem Grew.drew {w w' : World} {S : Nat → Prop} (h : Grew w w' S) : Grew w w'.drew S := ⟨h.os, h.tape, h.output, h.size, h.block⟩
theorem Grew.cell {w w' : World} {S : Nat → Prop} {b o : Nat} {v : Value} (h : Grew w w' S) (hc : w.cell? ⟨b, o, none⟩ = some v) (hn : ¬ S b) : w'.cell? ⟨b, o, none⟩ = some v :=
  (World.cell?_of_block (w := w) (h.block b (World.block_lt_of_cell? _ _ hc) hn)).trans hc
theorem Grew.row {w w' : World} {S : Nat → Prop} {b t n : Nat} {f : Nat → Value} (h : Grew w w' S) (hr : w.rowIs b t n f) (hn : ¬ S b) : w'.rowIs b t n f := hr.of_block (h.block b hr.lt hn)
theorem Grew.own {w w' : World} {S : Nat → Prop} {B e size n : Nat} {v : Value} {xs : List Value} (h : Grew w w' S) (ho : w.ownsRow B e size v n xs) (hn : ∀ b, v.ownBlock = some b → ¬ S b) : w'.ownsRow B e size v n xs := by
  have hlt := ho.lt
  obtain ⟨hl, ho⟩ := ho
  refine ⟨hl, ?_⟩
  rcases ho with ho | ⟨g, cap, cur, rfl, hB, hh, h1⟩
  · exact .inl ho
  · exact .inr ⟨g, cap, cur, rfl, hB, (h.block g (hlt g rfl).2 (hn g rfl)).trans hh, h1⟩
/-- The cells of a slice that has some lie in this block. -/
def inB (v : Value) (b : Nat) : Prop := ∃ o n c, v = .slice (some ⟨b, o, none⟩) n c ∧ 0 < n
theorem IR.inlt {w : World} {v : Value} {l : List Int} (h : IR w v l) {b : Nat} (k : inB v b) : b < w.heap.size := by
  obtain ⟨o, n, c, e, hn⟩ := k
  exact h.lt _ _ _ e hn
theorem Grew.ir {w w' : World} {S : Nat → Prop} {v : Value} {l : List Int} (h : Grew w w' S) (hv : IR w v l) (hn : ∀ b, inB v b → ¬ S b) : IR w' v l := by
  obtain ⟨ao, cap, rfl, hle, hc⟩ := hv
  refine ⟨ao, cap, rfl, hle, fun i hi => ?_⟩
  obtain ⟨b, o, rfl, q⟩ := hc i hi
  exact ⟨b, o, rfl, h.cell q (hn b ⟨o, _, _, rfl, by omega⟩)⟩
theorem inB_own {w : World} {B e size n b : Nat} {v : Value} {xs : List Value} (h : w.ownsRow B e size v n xs) (k : inB v b) : v.ownBlock = some b := by
  obtain ⟨o, m, c, rfl, hm⟩ := k
  rcases h.2 with ⟨e0, _⟩ | ⟨g, cap, cur, e0, _⟩
  · cases e0
  · injection e0 with e1
    injection e1 with e1
    injection e1 with e1
    subst e1
    rfl
theorem own_shape {w : World} {B e size n : Nat} {v : Value} {xs : List Value} (h : w.ownsRow B e size v n xs) : ∃ ao cap, v = .slice ao n cap := by
  rcases h.2 with ⟨rfl, rfl⟩ | ⟨g, cap, cur, rfl, _⟩
  · exact ⟨none, 0, rfl⟩
  · exact ⟨_, cap, rfl⟩

/-! Maps -/
theorem gown_mono {w : World} {B B' e size n : Nat} {v : Value} {xs : List Value} (h : w.ownsRow B e size v n xs) (hB : B' ≤ B) : w.ownsRow B' e size v n xs := by
  obtain ⟨hl, h⟩ := h
  refine ⟨hl, ?_⟩
  rcases h with h | ⟨g, cap, cur, hv, hb, hh⟩
  · exact .inl h
  · exact .inr ⟨g, cap, cur, hv, Nat.le_trans hB hb, hh⟩

end Go.Proofs.Ytfcidgnjanidoaa
