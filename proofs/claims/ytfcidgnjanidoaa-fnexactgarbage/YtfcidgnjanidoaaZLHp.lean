/- Theory of FnHeaps: the headers of a right heap, the sum of its objects' sizes, a new heap is right; likeInts. -/
import Derived.Test.YtfcidgnjanidoaaZHFnH
import Derived.Test.YtfcidgnjanidoaaZHLawM
import Derived.Test.YtfcidgnjanidoaaZMPlain
namespace Go.Proofs.Ytfcidgnjanidoaa
open Go.RowKit

/-- The words that these objects take. -/
def szS (W : List Int) : List Nat → Int
  | [] => 0
  | a :: l => 4 + gw W a + szS W l
theorem szS_app (W : List Int) (l m : List Nat) : szS W (l ++ m) = szS W l + szS W m := by
  induction l with
  | nil => simp [szS]
  | cons a l ih => simp only [List.cons_append, szS, ih]; omega
theorem szS_snoc (W : List Int) (l : List Nat) (k : Nat) (h : k < l.length) : szS W (l.take (k + 1)) = szS W (l.take k) + 4 + gw W (l.getD k 0) := by
  rw [List.take_succ_eq_append_getElem h, szS_app]
  simp only [szS, List.getD_eq_getElem?_getD, List.getElem?_eq_getElem h, Option.getD_some]
  omega
theorem szS_its {W : List Int} {f n : Nat} (h : ∀ i, i < n → headB W (it W f i) = true) : szS W (its W f n) = (it W f n : Int) - f := by
  induction n with
  | zero => simp [its, szS, it]
  | succ n ih =>
    have hh := h n (by omega)
    unfold headB at hh
    simp only [Bool.and_eq_true, decide_eq_true_eq] at hh
    rw [its_succ, szS_app, ih (fun i hi => h i (by omega))]
    show (it W f n : Int) - f + (4 + gw W (it W f n) + 0) = (nx W (it W f n) : Nat) - f
    unfold nx
    omega
theorem szS_all {h : Hp} {l : List Nat} (k : PartsAt h l) : szS h.words l = h.old + h.eden - 2000 + h.surv - (survB h.flip : Int) := by
  obtain ⟨_, o, e, s, n0, n1, n2, g0, g1, g2, rfl⟩ := k
  rw [szS_app, szS_app, szS_its g0.2, szS_its g1.2, szS_its g2.2, g0.1, g1.1, g2.1]
  omega
theorem szS_bound {h : Hp} {l : List Nat} (k : PartsAt h l) (n : Nat) : 0 ≤ szS h.words (l.take n) ∧ szS h.words (l.take n) ≤ 210000 := by
  have L := k.short
  have B : ∀ m : List Nat, (∀ a, a ∈ m → a ∈ l) → 0 ≤ szS h.words m ∧ szS h.words m ≤ 64 * m.length := by
    intro m
    induction m with
    | nil => intro _; simp [szS]
    | cons a m ih =>
      intro q
      have hh := (k.obj (q a (by simp))).2.2
      unfold headB at hh
      simp only [Bool.and_eq_true, decide_eq_true_eq] at hh
      have := ih (fun b hb => q b (by simp [hb]))
      simp only [szS, List.length_cons]
      omega
  have := B (l.take n) (fun a ha => List.mem_of_mem_take ha)
  have tl : (l.take n).length ≤ l.length := by rw [List.length_take]; omega
  omega
theorem rise {l : List Nat} (so : l.Pairwise (· < ·)) {k : Nat} (h : k + 1 < l.length) : l.getD k 0 < l.getD (k + 1) 0 := by
  have := List.pairwise_iff_getElem.1 so k (k + 1) (by omega) h (by omega)
  simpa [List.getD_eq_getElem?_getD, List.getElem?_eq_getElem h, List.getElem?_eq_getElem (show k < l.length by omega)] using this
theorem getD_mem {l : List Nat} {k : Nat} (h : k < l.length) : l.getD k 0 ∈ l := by
  rw [List.getD_eq_getElem?_getD, List.getElem?_eq_getElem h]
  exact List.getElem_mem h
/-- What the header of an object of a right heap is. -/
theorem head_of {h : Hp} (k : okC h = true) {i : Nat} (hi : i < (obC h).length) :
    isC h ((obC h).getD i 0 : Nat) = true ∧ (obC h).getD i 0 + 4 ≤ 3200 ∧ (0 ≤ gw h.words ((obC h).getD i 0) ∧ gw h.words ((obC h).getD i 0) ≤ 60) ∧ (0 ≤ gw h.words ((obC h).getD i 0 + 1) ∧ gw h.words ((obC h).getD i 0 + 1) ≤ 99) ∧
    (1 ≤ gw h.words ((obC h).getD i 0 + 2) ∧ gw h.words ((obC h).getD i 0 + 2) < h.hash) ∧ (0 ≤ gw h.words ((obC h).getD i 0 + 3) ∧ gw h.words ((obC h).getD i 0 + 3) ≤ 15) := by
  have R := c_right k
  have m := getD_mem hi
  have o := R.1.obj m
  have hh := o.2.2
  unfold headB at hh
  simp only [Bool.and_eq_true, decide_eq_true_eq] at hh
  refine ⟨?_, o.1, hh.1, hh.2.1, ⟨R.2.2.2.1 _ m, R.2.2.2.2.1.1 _ m⟩, hh.2.2⟩
  unfold isC
  exact mem_stop hi rfl
theorem new_ok : okC newH = true := by
  have W : newH.words = newW := rfl
  have g : ∀ i, gw newH.words i = 0 := fun i => newW_get i
  refine (c_yes (l := []) ?_).1
  refine ⟨⟨newW_length, ⟨by decide, by decide⟩, ⟨by decide, by decide⟩, ⟨by decide, by decide⟩, 0, 0, 0, ⟨rfl, fun i hi => absurd hi (by omega)⟩, ⟨rfl, fun i hi => absurd hi (by omega)⟩, ⟨rfl, fun i hi => absurd hi (by omega)⟩, rfl⟩, fun i _ _ => g i, ⟨by decide, by decide⟩, ?_, ⟨?_, ?_⟩, ?_, ?_, ?_, rfl⟩
  · intro a ha; simp at ha
  · intro a ha; simp at ha
  · exact List.nodup_nil
  · show ([] : List Int).length ≤ 20; simp
  · intro x hx; exact absurd (show x ∈ ([] : List Int) from hx) (by simp)
  · intro a ha; simp at ha


end Go.Proofs.Ytfcidgnjanidoaa
