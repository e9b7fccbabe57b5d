
import Derived.Test.YtphkmgalgngjiaaGreatZN3
import Derived.Test.YtphkmgalgngjiaaGreatZHSpecO
/- HeapOk, Objects, Young and Header of the model and of the program, in one plain word each. -/
namespace Go.Proofs.YtphkmgalgngjiaaGreat
open Go.RowKit

noncomputable def okC (h : Hp) : Bool := @decide (∃ l, RightAt h l) (Classical.propDecidable _)
noncomputable def obC (h : Hp) : List Nat := @dite _ (∃ l, RightAt h l) (Classical.propDecidable _) (fun k => Classical.choose k) (fun _ => [])
noncomputable def isC (h : Hp) (x : Int) : Bool := (ints (obC h)).contains x
theorem c_yes {h : Hp} {l : List Nat} (k : RightAt h l) : okC h = true ∧ obC h = l := by
  have hk : ∃ l, RightAt h l := ⟨l, k⟩
  refine ⟨@decide_eq_true _ (Classical.propDecidable _) hk, ?_⟩
  unfold obC
  rw [dif_pos hk]
  exact (Classical.choose_spec hk).eq k
theorem c_no {h : Hp} (k : ∀ l, ¬ RightAt h l) : okC h = false ∧ obC h = [] := by
  have hk : ¬ ∃ l, RightAt h l := fun ⟨l, q⟩ => k l q
  refine ⟨@decide_eq_false _ (Classical.propDecidable _) hk, ?_⟩
  unfold obC
  rw [dif_neg hk]
theorem c_right {h : Hp} (k : okC h = true) : RightAt h (obC h) := by
  have hk : ∃ l, RightAt h l := @of_decide_eq_true _ (Classical.propDecidable _) k
  obtain ⟨l, q⟩ := hk
  rw [(c_yes q).2]
  exact q
theorem c_wrong {h : Hp} (k : okC h = false) : obC h = [] := (c_no (fun l q => by rw [(c_yes q).1] at k; cases k)).2
theorem ob_short (h : Hp) : (obC h).length ≤ 3200 := by
  cases k : okC h
  · rw [c_wrong k]; simp
  · exact (c_right k).1.short
theorem okOut_eq {h : Hp} {x : Ending} (k : OkOut h x) : x = .returned (.bool (okC h)) := by
  obtain ⟨ok, rfl, hk⟩ := k
  cases ok
  · rw [(c_no (fun l q => by have := hk.2 ⟨l, q⟩; cases this)).1]
  · obtain ⟨l, q⟩ := hk.1 rfl
    rw [(c_yes q).1]

theorem specHeapOk_c (v : Value) (h : Hp) (w : World) (hv : HR w v h) (hro : h.roots.length ≤ 1000000000000) (hke : h.kept.length ≤ 1000000000000) :
    Calls Tryz.prog 43 #[v] w fun x w' => x = .returned (.bool (okC h)) ∧ Below w.heap.size w w' :=
  (specHeapOk_any v h w hv hro hke).mono fun _ _ ⟨a, b⟩ => ⟨okOut_eq a, b⟩

/-- What rightObjects answers, in one word. -/
theorem right_c (v : Value) (h : Hp) (w : World) (hv : HR w v h) (hro : h.roots.length ≤ 1000000000000) (hke : h.kept.length ≤ 1000000000000) :
    Calls Tryz.prog 52 #[v] w fun x w' => (∃ v', x = .returned (.tuple #[v', .bool (okC h)]) ∧ w'.ownsRow w.heap.size 2 1 v' (obC h).length (icells (ints (obC h)))) ∧ Below w.heap.size w w' :=
  (rightObjects_any v h w hv hro hke).mono fun x w' ⟨a, b⟩ => by
    refine ⟨?_, b⟩
    rcases a with ⟨l, v', rfl, ho, hr, _⟩ | ⟨rfl, hn⟩
    · obtain ⟨e1, e2⟩ := c_yes hr
      rw [e1, e2]
      exact ⟨v', rfl, ho⟩
    · obtain ⟨e1, e2⟩ := c_no hn
      rw [e1, e2]
      exact ⟨_, rfl, ⟨by simp [icells, ints], .inl ⟨rfl, rfl⟩⟩⟩
theorem all_c (v : Value) (h : Hp) (w : World) (hv : HR w v h) (hk : okC h = true) :
    Calls Tryz.prog 63 #[v] w fun x w' => (∃ v', x = .returned v' ∧ IR w' v' (ints (obC h))) ∧ Below w.heap.size w w' :=
  (l5All_any v h w hv).mono fun x w' ⟨⟨l, v', _, e, ho, hp⟩, b⟩ => by
    have q := (c_right hk).1
    have : l = obC h := (hp _ q).eq q
    subst this
    exact ⟨⟨v', e, IR_of_owns' ho⟩, b⟩

theorem implHeapOk_c (v : Value) (h : Hp) (w : World) (hv : HR w v h) (hro : h.roots.length ≤ 1000000000000) (hke : h.kept.length ≤ 1000000000000) :
    Calls Tryz.prog 14 #[v] w fun x w' => x = .returned (.bool (okC h)) ∧ Below w.heap.size w w' := by
  obtain ⟨v1, v2, v3, rfl, i1, i2, i3⟩ := id hv
  have hb0 := bel_one w (.cells #[v1, v2, .int .i64 h.old, .int .i64 h.eden, .int .i64 h.surv, .bool h.flip, .int .i64 h.hash, v3] 26)
  have C := right_c _ h _ (hv.later hb0) hro hke
  go_enter Tryz.func14, Tryz.ntmps14
  go_wp2_with fail
  refine C.mono ?_
  rintro x w1 ⟨⟨v', rfl, ho⟩, hb1⟩
  go_wp2
  go_ret
  exact ⟨rfl, bel_after hb0 hb1⟩
theorem specObjects_c (v : Value) (h : Hp) (w : World) (hv : HR w v h) (hro : h.roots.length ≤ 1000000000000) (hke : h.kept.length ≤ 1000000000000) :
    Calls Tryz.prog 83 #[v] w fun x w' => (∃ v', x = .returned v' ∧ IR w' v' (ints (obC h))) ∧ Below w.heap.size w w' := by
  obtain ⟨v1, v2, v3, rfl, i1, i2, i3⟩ := id hv
  have hb0 := bel_one w (.cells #[v1, v2, .int .i64 h.old, .int .i64 h.eden, .int .i64 h.surv, .bool h.flip, .int .i64 h.hash, v3] 26)
  have X0 := Bx.new w v1 v2 v3 h 26
  have C := specHeapOk_c _ h _ (hv.later hb0) hro hke
  go_enter Tryz.func83, Tryz.ntmps83
  go_wp2_with fail
  refine C.mono ?_
  rintro x w1 ⟨rfl, hb1⟩
  obtain ⟨c0, c1, c2, c3, c4, c5, c6, c7⟩ := X0.later hb1
  have hbw := bel_after hb0 hb1
  cases hk : okC h
  · have e : Hid (obC h = []) := c_wrong hk
    go_wp2
    go_ret
    exact ⟨⟨_, rfl, by rw [e.out]; exact ⟨_, _, rfl, Nat.le_refl _, fun i hi => by simp [ints] at hi⟩⟩, bel_after hbw (bel_one _ _)⟩
  · have A := all_c _ h _ (hv.later hbw) hk
    go_wp2_with fail
    refine A.mono ?_
    rintro x w2 ⟨⟨v', rfl, ho⟩, hb2⟩
    go_wp2
    go_ret
    exact ⟨⟨v', rfl, ho⟩, bel_after hbw hb2⟩

end Go.Proofs.YtphkmgalgngjiaaGreat

/- Header of the model and of the program. -/
namespace Go.Proofs.YtphkmgalgngjiaaGreat
open Go.RowKit

theorem mem_stop {l : List Nat} {k : Nat} {x : Int} (h : k < l.length) (e : ((l.getD k 0 : Nat) : Int) = x) : (ints l).contains x = true := by
  rw [List.contains_iff_mem, ← e]
  exact List.mem_map.2 ⟨_, lget_mem l k h, rfl⟩
theorem mem_done {l : List Nat} {x : Int} (h : ∀ j, j < l.length → ((l.getD j 0 : Nat) : Int) ≠ x) : (ints l).contains x = false := by
  rw [Bool.eq_false_iff]
  intro q
  rw [List.contains_iff_mem] at q
  obtain ⟨a, ha, rfl⟩ := List.mem_map.1 q
  obtain ⟨i, hi, e⟩ := List.getElem_of_mem ha
  exact h i hi (by simp [hi, e])

set_option maxHeartbeats 800000 in
theorem l5Is_c (v : Value) (h : Hp) (x : Int) (w : World) (hv : HR w v h) (hk : okC h = true) :
    Calls Tryz.prog 87 #[v, .int .i64 x] w fun e w' => e = .returned (.bool (isC h x)) ∧ Below w.heap.size w w' := by
  obtain ⟨v1, v2, v3, rfl, i1, i2, i3⟩ := id hv
  have hb0 := bel_one w (.cells #[v1, v2, .int .i64 h.old, .int .i64 h.eden, .int .i64 h.surv, .bool h.flip, .int .i64 h.hash, v3] 26)
  have A := all_c _ h _ (hv.later hb0) hk
  have hs := ob_short h
  have IE : Hid (isC h x = (ints (obC h)).contains x) := (rfl : isC h x = (ints (obC h)).contains x)
  generalize isC h x = r at *
  generalize obC h = l at *
  clear i1 i2 i3 hk
  go_enter Tryz.func87, Tryz.ntmps87
  go_wp2_with fail
  refine A.mono ?_
  rintro e w1 ⟨⟨v', rfl, ho⟩, hb1⟩
  have hbw := bel_after hb0 hb1
  obtain ⟨ao, cp, rfl, hc⟩ := intsI ho
  go_wp2
  go_loopw [6] (fun kv wr => ∃ k : Nat, k ≤ l.length ∧ kv = .int .i64 k ∧ Hid (∀ j, j < k → ((l.getD j 0 : Nat) : Int) ≠ x) ∧ wr = w1) (fun kv _ => l.length - (intOf kv).toNat)
  case atStart => exact ⟨0, Nat.zero_le _, rfl, fun j hj => by omega, rfl⟩
  case round =>
    obtain ⟨k, hk, rfl, hj, hwr⟩ := hrel
    obtain rfl := hwr.symm
    clear hwr
    by_cases hlt : k < l.length
    · obtain ⟨b, o, rfl, ci⟩ := hc k hlt
      have NX : Hid (((l.getD k 0 : Nat) : Int) ≠ x → ∀ j, j < k + 1 → ((l.getD j 0 : Nat) : Int) ≠ x) := fun e => all_upto hj.out e
      have YES : Hid (((l.getD k 0 : Nat) : Int) = x → (ints l).contains x = true) := fun e => mem_stop hlt e
      clear hj
      generalize ((l.getD k 0 : Nat) : Int) = a at *
      by_cases hx : a = x
      · have G : Hid (r = true) := (by rw [IE.out]; exact YES.out hx : r = true)
        have hb : (a == x) = true := by simpa using hx
        clear NX YES
        subst hx
        go_wp2
        go_ret
        exact ⟨wret_bool G.out.symm, hbw⟩
      · have N := NX.out hx
        have hb : (a == x) = false := by simpa using hx
        clear NX YES
        go_wp2
        exact ⟨⟨k + 1, by omega, by go_num, N, trivial⟩, by simp [intOf]; omega⟩
    · obtain rfl : k = l.length := by omega
      have G : Hid (r = false) := (by rw [IE.out]; exact mem_done hj.out : r = false)
      go_wp2
      go_ret
      exact ⟨wret_bool G.out.symm, hbw⟩

end Go.Proofs.YtphkmgalgngjiaaGreat
