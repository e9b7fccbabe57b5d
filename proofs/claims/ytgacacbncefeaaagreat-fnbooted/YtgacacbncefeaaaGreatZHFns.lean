/- HeapOk, Objects, Young and Header of the model and of the program, in one plain word each. -/
import Derived.Test.YtgacacbncefeaaaGreatZHImpR
import Derived.Test.YtgacacbncefeaaaGreatZHSpecO
namespace Go.Proofs.YtgacacbncefeaaaGreat
open Go.RowKit

noncomputable def okC (h : Hp) : Bool := @decide (∃ l, RightAt h l) (Classical.propDecidable _)
noncomputable def obC (h : Hp) : List Nat := @dite _ (∃ l, RightAt h l) (Classical.propDecidable _) (fun k => Classical.choose k) (fun _ => [])
noncomputable def yoC (h : Hp) : Int := if okC h = true then (((obC h).countP fun a => decide (2000 ≤ a) : Nat) : Int) else -1
noncomputable def isC (h : Hp) (x : Int) : Bool := (ints (obC h)).contains x
noncomputable def hdC (h : Hp) (x : Int) (i : Nat) : Int := if isC h x = true then gw h.words (x.toNat + i) else -1
theorem c_yes {h : Hp} {l : List Nat} (k : RightAt h l) : okC h = true ∧ obC h = l := by
  have hk : ∃ l, RightAt h l := ⟨l, k⟩
  refine ⟨@decide_eq_true _ (Classical.propDecidable _) hk, ?_⟩
  unfold obC
  rw [dif_pos hk]
  exact (Classical.choose_spec hk).eq k
theorem c_no {h : Hp} (k : ∀ l, ¬ RightAt h l) : okC h = false ∧ obC h = [] := by
  have hk : ¬ ∃ l, RightAt h l := fun ⟨l, q⟩ => k l q
  refine ⟨@decide_eq_false _ (Classical.propDecidable _) hk, ?_⟩
  unfold obC
  rw [dif_neg hk]
theorem c_right {h : Hp} (k : okC h = true) : RightAt h (obC h) := by
  have hk : ∃ l, RightAt h l := @of_decide_eq_true _ (Classical.propDecidable _) k
  obtain ⟨l, q⟩ := hk
  rw [(c_yes q).2]
  exact q
theorem c_wrong {h : Hp} (k : okC h = false) : obC h = [] := (c_no (fun l q => by rw [(c_yes q).1] at k; cases k)).2
theorem ob_short (h : Hp) : (obC h).length ≤ 3200 := by
  cases k : okC h
  · rw [c_wrong k]; simp
  · exact (c_right k).1.short
theorem okOut_eq {h : Hp} {x : Ending} (k : OkOut h x) : x = .returned (.bool (okC h)) := by
  obtain ⟨ok, rfl, hk⟩ := k
  cases ok
  · rw [(c_no (fun l q => by have := hk.2 ⟨l, q⟩; cases this)).1]
  · obtain ⟨l, q⟩ := hk.1 rfl
    rw [(c_yes q).1]

theorem specHeapOk_c (v : Value) (h : Hp) (w : World) (hv : HR w v h) (hro : h.roots.length ≤ 1000000000000) (hke : h.kept.length ≤ 1000000000000) :
    Calls Tryz.prog 54 #[v] w fun x w' => x = .returned (.bool (okC h)) ∧ Below w.heap.size w w' :=
  (specHeapOk_any v h w hv hro hke).mono fun _ _ ⟨a, b⟩ => ⟨okOut_eq a, b⟩

/-- What rightObjects answers, in one word. -/
theorem right_c (v : Value) (h : Hp) (w : World) (hv : HR w v h) (hro : h.roots.length ≤ 1000000000000) (hke : h.kept.length ≤ 1000000000000) :
    Calls Tryz.prog 45 #[v] w fun x w' => (∃ v', x = .returned (.tuple #[v', .bool (okC h)]) ∧ w'.ownsRow w.heap.size 2 1 v' (obC h).length (icells (ints (obC h)))) ∧ Below w.heap.size w w' :=
  (rightObjects_any v h w hv hro hke).mono fun x w' ⟨a, b⟩ => by
    refine ⟨?_, b⟩
    rcases a with ⟨l, v', rfl, ho, hr, _⟩ | ⟨rfl, hn⟩
    · obtain ⟨e1, e2⟩ := c_yes hr
      rw [e1, e2]
      exact ⟨v', rfl, ho⟩
    · obtain ⟨e1, e2⟩ := c_no hn
      rw [e1, e2]
      exact ⟨_, rfl, ⟨by simp [icells, ints], .inl ⟨rfl, rfl⟩⟩⟩


theorem implObjects_c (v : Value) (h : Hp) (w : World) (hv : HR w v h) (hro : h.roots.length ≤ 1000000000000) (hke : h.kept.length ≤ 1000000000000) :
    Calls Tryz.prog 13 #[v] w fun x w' => (∃ v', x = .returned v' ∧ w'.ownsRow w.heap.size 2 1 v' (obC h).length (icells (ints (obC h)))) ∧ Below w.heap.size w w' := by
  obtain ⟨v1, v2, v3, rfl, i1, i2, i3⟩ := id hv
  have hb0 := bel_one w (.cells #[v1, v2, .int .i64 h.old, .int .i64 h.eden, .int .i64 h.surv, .bool h.flip, .int .i64 h.hash, v3] 28)
  have C := right_c _ h _ (hv.later hb0) hro hke
  go_enter Tryz.func13, Tryz.ntmps13
  go_wp2_with fail
  refine C.mono ?_
  rintro x w1 ⟨⟨v', rfl, ho⟩, hb1⟩
  have ho' := own_mono ho hb0.size
  go_wp2
  go_ret
  exact ⟨⟨v', rfl, ho'⟩, bel_after hb0 hb1⟩

theorem count_snoc (l : List Nat) (k : Nat) (h : k < l.length) : (((l.take (k + 1)).countP fun a => decide (2000 ≤ a) : Nat) : Int) = ((l.take k).countP fun a => decide (2000 ≤ a) : Nat) + (if 2000 ≤ l.getD k 0 then 1 else 0) := by
  rw [ltake_snoc l k h, List.countP_append]
  by_cases e : 2000 ≤ l.getD k 0
  · rw [if_pos e, List.countP_cons_of_pos (by simpa using e)]; simp
  · rw [if_neg e, List.countP_cons_of_neg (by simpa using e)]; simp
theorem count_le (l : List Nat) (k : Nat) : ((l.take k).countP fun a => decide (2000 ≤ a)) ≤ l.length := Nat.le_trans List.countP_le_length (by rw [List.length_take]; omega)



end Go.Proofs.YtgacacbncefeaaaGreat
