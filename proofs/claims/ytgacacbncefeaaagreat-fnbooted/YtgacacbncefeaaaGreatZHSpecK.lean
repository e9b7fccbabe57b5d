/- l5All, l5Fits, l5Young, l5Same and l5Kept of the model. -/
import Derived.Test.YtgacacbncefeaaaGreatZHSpecP
namespace Go.Proofs.YtgacacbncefeaaaGreat
open Go.RowKit

def fitS (f : Nat → Bool) (x : Int) : Bool := wokB x && (decide (x % 2 = 0) || f (x / 2).toNat)
def youngS (x : Int) : Bool := !(x.tmod 2 == 0) && decide (2000 ≤ x.tdiv 2)
def hasYS (W : List Int) (a : Nat) : Bool := (flds W a).any youngS
def keptS (W : List Int) (l : List Nat) : List Nat := l.filter fun a => decide (a < 2000) && hasYS W a

theorem kind_even {x : Int} (h : x % 2 = 0) : kindW x = if numB (x / 2) = true then 1 else 0 := by
  unfold kindW; rw [if_neg (by omega)]
theorem kind_odd {x : Int} (h : ¬ x % 2 = 0) : kindW x = if adrB (x / 2) = true then 2 else 0 := by
  unfold kindW; rw [if_pos (by omega)]
theorem fit_eq (l : List Nat) (x : Int) : fitS (fun i => decide (i ∈ l)) x = fitB l x := by
  unfold fitS fitB wokB
  by_cases h : x % 2 = 0
  · rw [kind_even h, decide_eq_true h]
    split <;> simp
  · rw [kind_odd h, decide_eq_false h]
    split
    · rename_i ha
      have hx : 0 ≤ x / 2 := (of_decide_eq_true ha).1
      obtain ⟨m, hm⟩ := Int.eq_ofNat_of_zero_le hx
      rw [hm]
      simp [ints]
      exact ⟨fun h => ⟨m, h, rfl⟩, fun ⟨a, h, e⟩ => by obtain rfl : a = m := (by omega); exact h⟩
    · simp
theorem young_eq {x : Int} (h : ¬ kindW x = 0) : youngS x = youngB x := by
  unfold youngS youngB
  rw [tmod_two]
  by_cases e : x % 2 = 0
  · rw [decide_eq_true e, kind_even e]
    split <;> simp
  · rw [kind_odd e] at h
    split at h
    · rename_i ha
      have hx := of_decide_eq_true ha
      rw [decide_eq_false e, kind_odd e, if_pos ha, Int.tdiv_eq_ediv_of_nonneg (by omega)]
      simp
    · exact absurd rfl h
theorem fit_kind {l : List Nat} {x : Int} (h : fitB l x = true) : ¬ kindW x = 0 := by
  intro e
  unfold fitB at h
  rw [e] at h
  simp at h
theorem kept_eq {W : List Int} {l : List Nat} (h : ∀ a, a ∈ l → fieldsFit W l a) : ints (keptS W l) = keptOf W l := by
  unfold keptS keptOf
  congr 1
  apply List.filter_congr
  intro a ha
  congr 1
  unfold hasYS hasY
  have hf := (fld_mem (W := W) (a := a) (p := fitB l)).2 (h a ha)
  revert hf
  generalize flds W a = fs
  intro hf
  induction fs with
  | nil => rfl
  | cons x r ih =>
    simp only [List.any_cons]
    rw [young_eq (fit_kind (hf x (by simp))), ih (fun y hy => hf y (by simp [hy]))]


theorem l5Fits_any (b c : Nat) (f : Nat → Bool) (x : Int) (w : World) (hf : ∀ i, i < 3200 → w.cell? ⟨b, i, none⟩ = some (.bool (f i))) :
    Calls Tryz.prog 85 #[.slice (some ⟨b, 0, none⟩) 3200 c, .int .i64 x] w fun e w' => e = .returned (.bool (fitS f x)) ∧ w' = w := by
  have T := tmod_two x
  by_cases hw : wokB x = true
  · by_cases h2 : x % 2 = 0
    · have G : Hid (fitS f x = true) := (by unfold fitS; rw [hw, decide_eq_true h2]; rfl : fitS f x = true)
      rw [decide_eq_true h2] at T
      clear h2
      go_enter Tryz.func85, Tryz.ntmps85
      go_wp2_with (go_at_call 112; refine (specWordOk_any _ _).mono ?_; rintro e w' ⟨rfl, rfl⟩; rw [hw])
      go_ret
      exact ⟨wret_bool G.out.symm, rfl⟩
    · have G : Hid (fitS f x = f (x / 2).toNat) := (by unfold fitS; rw [hw, decide_eq_false h2]; rfl : fitS f x = f (x / 2).toNat)
      rw [decide_eq_false h2] at T
      have hr : 1 ≤ x ∧ x ≤ 6399 := by
        have := wok_odd h2
        rw [hw] at this
        exact of_decide_eq_true this.symm
      have hc := hf (x / 2).toNat (by omega)
      have ht : x.tdiv 2 = x / 2 := Int.tdiv_eq_ediv_of_nonneg (by omega)
      obtain ⟨m, hm⟩ := Int.eq_ofNat_of_zero_le (show 0 ≤ x / 2 by omega)
      rw [hm] at hc ht G
      rw [Int.toNat_natCast] at hc G
      have hm2 : m < 3200 := by omega
      have hmi : (m : Int) < 3200 := by omega
      clear h2 hm hf hr
      go_enter Tryz.func85, Tryz.ntmps85
      go_wp2_with (go_at_call 112; refine (specWordOk_any _ _).mono ?_; rintro e w' ⟨rfl, rfl⟩; rw [hw])
      go_ret
      exact ⟨wret_bool G.out.symm, rfl⟩
  · have hw' : wokB x = false := by simpa using hw
    have G : Hid (fitS f x = false) := (by unfold fitS; rw [hw']; rfl : fitS f x = false)
    clear hw
    go_enter Tryz.func85, Tryz.ntmps85
    go_wp2_with (go_at_call 112; refine (specWordOk_any _ _).mono ?_; rintro e w' ⟨rfl, rfl⟩; rw [hw'])
    go_ret
    exact ⟨wret_bool G.out.symm, rfl⟩

theorem half_le {x : Int} (h : ¬ kindW x = 0) : -4611686018427387904 ≤ x.tdiv 2 ∧ x.tdiv 2 ≤ 4611686018427387904 := by
  by_cases e : x % 2 = 0
  · rw [kind_even e] at h
    split at h
    · rename_i ha
      have hx := of_decide_eq_true ha
      rw [tdiv_even e]
      omega
    · exact absurd rfl h
  · rw [kind_odd e] at h
    split at h
    · rename_i ha
      have hx := of_decide_eq_true ha
      rw [Int.tdiv_eq_ediv_of_nonneg (by omega)]
      omega
    · exact absurd rfl h
theorem l5Young_any (x : Int) (w : World) (hr : -4611686018427387904 ≤ x.tdiv 2 ∧ x.tdiv 2 ≤ 4611686018427387904) : Calls Tryz.prog 113 #[.int .i64 x] w fun e w' => e = .returned (.bool (youngS x)) ∧ w' = w := by
  obtain ⟨r1, r2⟩ := hr
  have T : (x.tmod 2 != 0) = !(x.tmod 2 == 0) := rfl
  cases hx : (x.tmod 2 == 0)
  · rw [hx] at T
    have G : Hid (youngS x = decide (2000 ≤ x.tdiv 2)) := (by unfold youngS; rw [hx]; rfl : youngS x = decide (2000 ≤ x.tdiv 2))
    clear hx
    go_enter Tryz.func113, Tryz.ntmps113
    go_wp2
    go_ret
    exact ⟨wret_bool (by rw [G.out]), rfl⟩
  · rw [hx] at T
    have G : Hid (youngS x = false) := (by unfold youngS; rw [hx]; rfl : youngS x = false)
    clear hx
    go_enter Tryz.func113, Tryz.ntmps113
    go_wp2
    go_ret
    exact ⟨wret_bool (by rw [G.out]), rfl⟩

end Go.Proofs.YtgacacbncefeaaaGreat
