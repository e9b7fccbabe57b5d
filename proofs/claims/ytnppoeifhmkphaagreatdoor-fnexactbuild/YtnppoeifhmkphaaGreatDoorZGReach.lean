/- Reached of the model and of the program. -/
import Derived.Test.YtnppoeifhmkphaaGreatDoorZGShS
import Derived.Test.YtnppoeifhmkphaaGreatDoorZMG
namespace Go.Proofs.YtnppoeifhmkphaaGreatDoor
open Go.RowKit

def rsum (W : List Int) (l : List Nat) : Int := (l.map fun a => (nx W a : Int) - a).sum
theorem rsum_snoc (W : List Int) (l : List Nat) (k : Nat) (h : k < l.length) : rsum W (l.take (k + 1)) = rsum W (l.take k) + ((nx W (l.getD k 0) : Int) - (l.getD k 0 : Nat)) := by
  unfold rsum
  rw [ltake_snoc l k h, List.map_append, List.sum_append]
  simp
theorem rsum_range {W : List Int} {l : List Nat} (h : ∀ a, a ∈ l → nx W a ≤ a + 64) : 0 ≤ rsum W l ∧ rsum W l ≤ 64 * l.length := by
  induction l with
  | nil => simp [rsum]
  | cons a l ih =>
    obtain ⟨h1, h2⟩ := ih fun b hb => h b (by simp [hb])
    have h3 := h a (by simp)
    have h4 : a ≤ nx W a := by unfold nx; omega
    have e : rsum W (a :: l) = ((nx W a : Int) - a) + rsum W l := by simp [rsum]
    rw [e, List.length_cons]
    omega
theorem reach_c (h : Hp) : reC h = if okC h = true then rsum h.words (ordF h.words h.roots) else -1 := rfl
/-- What Reached needs of each object. -/
theorem reach_need {h : Hp} {l : List Nat} (r : RightAt h l) {k : Nat} (hk : k < (ordF h.words h.roots).length) :
    ∃ m : Nat, m ≤ 60 ∧ gw h.words ((ordF h.words h.roots).getD k 0) = (m : Int) ∧ (ordF h.words h.roots).getD k 0 + 4 + m ≤ 3200 ∧ nx h.words ((ordF h.words h.roots).getD k 0) = (ordF h.words h.roots).getD k 0 + 4 + m ∧
      rsum h.words ((ordF h.words h.roots).take (k + 1)) = rsum h.words ((ordF h.words h.roots).take k) + (4 + m) := by
  obtain ⟨q1, q2, q3⟩ := r.1.obj (ord_sub r (lget_mem _ _ hk))
  have q4 := size_of q3
  obtain ⟨m, hm⟩ := Int.eq_ofNat_of_zero_le q4.1
  have hn : nx h.words ((ordF h.words h.roots).getD k 0) = (ordF h.words h.roots).getD k 0 + 4 + m := by unfold nx; rw [hm]; rfl
  rw [hn] at q2
  refine ⟨m, by omega, hm, q2, hn, ?_⟩
  rw [rsum_snoc _ _ _ hk, hn]
  omega
theorem reach_small {h : Hp} {l : List Nat} (r : RightAt h l) (k : Nat) : 0 ≤ rsum h.words ((ordF h.words h.roots).take k) ∧ rsum h.words ((ordF h.words h.roots).take k) ≤ 204800 := by
  have h3 := ord_len r
  obtain ⟨h1, h2⟩ := rsum_range (W := h.words) (l := (ordF h.words h.roots).take k) fun a ha => by
    obtain ⟨q1, q2, q3⟩ := r.1.obj (ord_sub r (List.mem_of_mem_take ha))
    have q4 := size_of q3
    unfold nx
    omega
  rw [List.length_take] at h2
  omega


end Go.Proofs.YtnppoeifhmkphaaGreatDoor
