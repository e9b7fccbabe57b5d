
import Derived.Test.YtphkmgalgngjiaaGreatZP3
import Derived.Test.YtphkmgalgngjiaaGreatZHSpecO
/- HeapOk, Objects, Young and Header of the model and of the program, in one plain word each. -/
namespace Go.Proofs.YtphkmgalgngjiaaGreat
open Go.RowKit

noncomputable def okC (h : Hp) : Bool := @decide (∃ l, RightAt h l) (Classical.propDecidable _)
noncomputable def obC (h : Hp) : List Nat := @dite _ (∃ l, RightAt h l) (Classical.propDecidable _) (fun k => Classical.choose k) (fun _ => [])
noncomputable def isC (h : Hp) (x : Int) : Bool := (ints (obC h)).contains x
noncomputable def hdC (h : Hp) (x : Int) (i : Nat) : Int := if isC h x = true then gw h.words (x.toNat + i) else -1
theorem c_yes {h : Hp} {l : List Nat} (k : RightAt h l) : okC h = true ∧ obC h = l := by
  have hk : ∃ l, RightAt h l := ⟨l, k⟩
  refine ⟨@decide_eq_true _ (Classical.propDecidable _) hk, ?_⟩
  unfold obC
  rw [dif_pos hk]
  exact (Classical.choose_spec hk).eq k
theorem c_no {h : Hp} (k : ∀ l, ¬ RightAt h l) : okC h = false ∧ obC h = [] := by
  have hk : ¬ ∃ l, RightAt h l := fun ⟨l, q⟩ => k l q
  refine ⟨@decide_eq_false _ (Classical.propDecidable _) hk, ?_⟩
  unfold obC
  rw [dif_neg hk]
theorem c_right {h : Hp} (k : okC h = true) : RightAt h (obC h) := by
  have hk : ∃ l, RightAt h l := @of_decide_eq_true _ (Classical.propDecidable _) k
  obtain ⟨l, q⟩ := hk
  rw [(c_yes q).2]
  exact q
theorem c_wrong {h : Hp} (k : okC h = false) : obC h = [] := (c_no (fun l q => by rw [(c_yes q).1] at k; cases k)).2
theorem ob_short (h : Hp) : (obC h).length ≤ 3200 := by
  cases k : okC h
  · rw [c_wrong k]; simp
  · exact (c_right k).1.short
theorem okOut_eq {h : Hp} {x : Ending} (k : OkOut h x) : x = .returned (.bool (okC h)) := by
  obtain ⟨ok, rfl, hk⟩ := k
  cases ok
  · rw [(c_no (fun l q => by have := hk.2 ⟨l, q⟩; cases this)).1]
  · obtain ⟨l, q⟩ := hk.1 rfl
    rw [(c_yes q).1]

theorem specHeapOk_c (v : Value) (h : Hp) (w : World) (hv : HR w v h) (hro : h.roots.length ≤ 1000000000000) (hke : h.kept.length ≤ 1000000000000) :
    Calls Tryz.prog 43 #[v] w fun x w' => x = .returned (.bool (okC h)) ∧ Below w.heap.size w w' :=
  (specHeapOk_any v h w hv hro hke).mono fun _ _ ⟨a, b⟩ => ⟨okOut_eq a, b⟩

/-- What rightObjects answers, in one word. -/
theorem right_c (v : Value) (h : Hp) (w : World) (hv : HR w v h) (hro : h.roots.length ≤ 1000000000000) (hke : h.kept.length ≤ 1000000000000) :
    Calls Tryz.prog 52 #[v] w fun x w' => (∃ v', x = .returned (.tuple #[v', .bool (okC h)]) ∧ w'.ownsRow w.heap.size 2 1 v' (obC h).length (icells (ints (obC h)))) ∧ Below w.heap.size w w' :=
  (rightObjects_any v h w hv hro hke).mono fun x w' ⟨a, b⟩ => by
    refine ⟨?_, b⟩
    rcases a with ⟨l, v', rfl, ho, hr, _⟩ | ⟨rfl, hn⟩
    · obtain ⟨e1, e2⟩ := c_yes hr
      rw [e1, e2]
      exact ⟨v', rfl, ho⟩
    · obtain ⟨e1, e2⟩ := c_no hn
      rw [e1, e2]
      exact ⟨_, rfl, ⟨by simp [icells, ints], .inl ⟨rfl, rfl⟩⟩⟩
theorem all_c (v : Value) (h : Hp) (w : World) (hv : HR w v h) (hk : okC h = true) :
    Calls Tryz.prog 63 #[v] w fun x w' => (∃ v', x = .returned v' ∧ IR w' v' (ints (obC h))) ∧ Below w.heap.size w w' :=
  (l5All_any v h w hv).mono fun x w' ⟨⟨l, v', _, e, ho, hp⟩, b⟩ => by
    have q := (c_right hk).1
    have : l = obC h := (hp _ q).eq q
    subst this
    exact ⟨⟨v', e, IR_of_owns' ho⟩, b⟩

theorem implHeapOk_c (v : Value) (h : Hp) (w : World) (hv : HR w v h) (hro : h.roots.length ≤ 1000000000000) (hke : h.kept.length ≤ 1000000000000) :
    Calls Tryz.prog 14 #[v] w fun x w' => x = .returned (.bool (okC h)) ∧ Below w.heap.size w w' := by
  obtain ⟨v1, v2, v3, rfl, i1, i2, i3⟩ := id hv
  have hb0 := bel_one w (.cells #[v1, v2, .int .i64 h.old, .int .i64 h.eden, .int .i64 h.surv, .bool h.flip, .int .i64 h.hash, v3] 26)
  have C := right_c _ h _ (hv.later hb0) hro hke
  go_enter Tryz.func14, Tryz.ntmps14
  go_wp2_with fail
  refine C.mono ?_
  rintro x w1 ⟨⟨v', rfl, ho⟩, hb1⟩
  go_wp2
  go_ret
  exact ⟨rfl, bel_after hb0 hb1⟩
theorem implObjects_c (v : Value) (h : Hp) (w : World) (hv : HR w v h) (hro : h.roots.length ≤ 1000000000000) (hke : h.kept.length ≤ 1000000000000) :
    Calls Tryz.prog 17 #[v] w fun x w' => (∃ v', x = .returned v' ∧ w'.ownsRow w.heap.size 2 1 v' (obC h).length (icells (ints (obC h)))) ∧ Below w.heap.size w w' := by
  obtain ⟨v1, v2, v3, rfl, i1, i2, i3⟩ := id hv
  have hb0 := bel_one w (.cells #[v1, v2, .int .i64 h.old, .int .i64 h.eden, .int .i64 h.surv, .bool h.flip, .int .i64 h.hash, v3] 26)
  have C := right_c _ h _ (hv.later hb0) hro hke
  go_enter Tryz.func17, Tryz.ntmps17
  go_wp2_with fail
  refine C.mono ?_
  rintro x w1 ⟨⟨v', rfl, ho⟩, hb1⟩
  have ho' := own_mono ho hb0.size
  go_wp2
  go_ret
  exact ⟨⟨v', rfl, ho'⟩, bel_after hb0 hb1⟩
end Go.Proofs.YtphkmgalgngjiaaGreat

/- Header of the model and of the program. -/
namespace Go.Proofs.YtphkmgalgngjiaaGreat
open Go.RowKit

theorem mem_stop {l : List Nat} {k : Nat} {x : Int} (h : k < l.length) (e : ((l.getD k 0 : Nat) : Int) = x) : (ints l).contains x = true := by
  rw [List.contains_iff_mem, ← e]
  exact List.mem_map.2 ⟨_, lget_mem l k h, rfl⟩
theorem mem_done {l : List Nat} {x : Int} (h : ∀ j, j < l.length → ((l.getD j 0 : Nat) : Int) ≠ x) : (ints l).contains x = false := by
  rw [Bool.eq_false_iff]
  intro q
  rw [List.contains_iff_mem] at q
  obtain ⟨a, ha, rfl⟩ := List.mem_map.1 q
  obtain ⟨i, hi, e⟩ := List.getElem_of_mem ha
  exact h i hi (by simp [hi, e])

set_option maxHeartbeats 800000 in
theorem l5Is_c (v : Value) (h : Hp) (x : Int) (w : World) (hv : HR w v h) (hk : okC h = true) :
    Calls Tryz.prog 87 #[v, .int .i64 x] w fun e w' => e = .returned (.bool (isC h x)) ∧ Below w.heap.size w w' := by
  obtain ⟨v1, v2, v3, rfl, i1, i2, i3⟩ := id hv
  have hb0 := bel_one w (.cells #[v1, v2, .int .i64 h.old, .int .i64 h.eden, .int .i64 h.surv, .bool h.flip, .int .i64 h.hash, v3] 26)
  have A := all_c _ h _ (hv.later hb0) hk
  have hs := ob_short h
  have IE : Hid (isC h x = (ints (obC h)).contains x) := (rfl : isC h x = (ints (obC h)).contains x)
  generalize isC h x = r at *
  generalize obC h = l at *
  clear i1 i2 i3 hk
  go_enter Tryz.func87, Tryz.ntmps87
  go_wp2_with fail
  refine A.mono ?_
  rintro e w1 ⟨⟨v', rfl, ho⟩, hb1⟩
  have hbw := bel_after hb0 hb1
  obtain ⟨ao, cp, rfl, hc⟩ := intsI ho
  go_wp2
  go_loopw [6] (fun kv wr => ∃ k : Nat, k ≤ l.length ∧ kv = .int .i64 k ∧ Hid (∀ j, j < k → ((l.getD j 0 : Nat) : Int) ≠ x) ∧ wr = w1) (fun kv _ => l.length - (intOf kv).toNat)
  case atStart => exact ⟨0, Nat.zero_le _, rfl, fun j hj => by omega, rfl⟩
  case round =>
    obtain ⟨k, hk, rfl, hj, hwr⟩ := hrel
    obtain rfl := hwr.symm
    clear hwr
    by_cases hlt : k < l.length
    · obtain ⟨b, o, rfl, ci⟩ := hc k hlt
      have NX : Hid (((l.getD k 0 : Nat) : Int) ≠ x → ∀ j, j < k + 1 → ((l.getD j 0 : Nat) : Int) ≠ x) := fun e => all_upto hj.out e
      have YES : Hid (((l.getD k 0 : Nat) : Int) = x → (ints l).contains x = true) := fun e => mem_stop hlt e
      clear hj
      generalize ((l.getD k 0 : Nat) : Int) = a at *
      by_cases hx : a = x
      · have G : Hid (r = true) := (by rw [IE.out]; exact YES.out hx : r = true)
        have hb : (a == x) = true := by simpa using hx
        clear NX YES
        subst hx
        go_wp2
        go_ret
        exact ⟨wret_bool G.out.symm, hbw⟩
      · have N := NX.out hx
        have hb : (a == x) = false := by simpa using hx
        clear NX YES
        go_wp2
        exact ⟨⟨k + 1, by omega, by go_num, N, trivial⟩, by simp [intOf]; omega⟩
    · obtain rfl : k = l.length := by omega
      have G : Hid (r = false) := (by rw [IE.out]; exact mem_done hj.out : r = false)
      go_wp2
      go_ret
      exact ⟨wret_bool G.out.symm, hbw⟩

theorem is_at {h : Hp} {x : Int} (k : isC h x = true) : ∃ a : Nat, x = a ∧ a + 4 ≤ 3200 ∧ h.words.length = 3200 ∧ okC h = true := by
  unfold isC at k
  rw [List.contains_iff_mem] at k
  obtain ⟨a, ha, e⟩ := List.mem_map.1 k
  cases q : okC h
  · rw [c_wrong q] at ha; cases ha
  · have p := (c_right q).1
    exact ⟨a, e.symm, (p.obj ha).1, p.1, rfl⟩
theorem hd_no {h : Hp} {x : Int} (k : isC h x = false) (i : Nat) : hdC h x i = -1 := by unfold hdC; rw [k]; rfl
theorem hd_yes {h : Hp} {a : Nat} (k : isC h (a : Int) = true) (i : Nat) : hdC h (a : Int) i = gw h.words (a + i) := by unfold hdC; rw [if_pos k, Int.toNat_natCast]
def hdV (h0 h1 h2 h3 : Int) : Value := .tuple #[.int .i64 h0, .int .i64 h1, .int .i64 h2, .int .i64 h3]


set_option maxRecDepth 100000 in
set_option maxHeartbeats 1600000 in
theorem implHeader_c (v : Value) (h : Hp) (x : Int) (w : World) (hv : HR w v h) (hro : h.roots.length ≤ 1000000000000) (hke : h.kept.length ≤ 1000000000000) :
    Calls Tryz.prog 12 #[v, .int .i64 x] w fun e w' => e = .returned (hdV (hdC h x 0) (hdC h x 1) (hdC h x 2) (hdC h x 3)) ∧ Below w.heap.size w w' := by
  obtain ⟨v1, v2, v3, rfl, i1, i2, i3⟩ := id hv
  have hb0 := bel_one w (.cells #[v1, v2, .int .i64 h.old, .int .i64 h.eden, .int .i64 h.surv, .bool h.flip, .int .i64 h.hash, v3] 26)
  have X0 := Bx.new w v1 v2 v3 h 26
  have C := implObjects_c _ h _ (hv.later hb0) hro hke
  have hs := ob_short h
  have SO : (ints (obC h)).Pairwise (· ≤ ·) := by
    cases k : okC h
    · rw [c_wrong k]; simp [ints]
    · have r := c_right k
      exact ints_sorted (((right_iff r.1.1).1 r).1.sorted)
  have I := fun v W hv' => isAmong_any v (ints (obC h)) x W hv' SO (by rw [ints_length]; omega)
  rw [show (ints (obC h)).contains x = isC h x from rfl] at I
  cases hi : isC h x
  · have E := fun i => hd_no hi i
    simp only [hi] at I
    rw [E 0, E 1, E 2, E 3]
    clear i1 i2 i3 E X0 SO
    go_enter Tryz.func12, Tryz.ntmps12
    go_wp2_with fail
    refine C.mono ?_
    rintro e w1 ⟨⟨v', rfl, ho⟩, hb1⟩
    have hbw1 := bel_after hb0 hb1
    go_wp2_with fail
    refine (I _ _ (IR_of_owns' ho)).mono ?_
    rintro e w2 ⟨rfl, hb2⟩
    go_wp2
    exact bodyPost_ret (v := hdV (-1) (-1) (-1) (-1)) (by simp [results, Tryz.results12, go_sem, hdV]) rfl ⟨rfl, bel_after hbw1 hb2⟩
  · obtain ⟨a, rfl, ha, hlen, _⟩ := is_at hi
    have E := fun i => hd_yes hi i
    simp only [hi] at I
    rw [E 0, E 1, E 2, E 3]
    obtain ⟨b, o, cap, rfl, hcap, hW⟩ := i1.ws (by omega)
    simp only [hlen] at hb0 X0 C ⊢
    have HLN : Hid (h.words.length = 3200) := hlen
    have HA := fun W hW' => headerAt_any b o cap h.words a W hW' HLN.out ha
    rw [Nat.add_zero]
    generalize gw h.words a = x0 at *
    generalize gw h.words (a + 1) = x1 at *
    generalize gw h.words (a + 2) = x2 at *
    generalize gw h.words (a + 3) = x3 at *
    clear i1 i2 i3 E hlen hv SO
    go_enter Tryz.func12, Tryz.ntmps12
    go_wp2_with fail
    refine C.mono ?_
    rintro e w1 ⟨⟨v', rfl, ho⟩, hb1⟩
    have hbw1 := bel_after hb0 hb1
    have X1 := X0.later hb1
    go_wp2_with fail
    refine (I _ _ (IR_of_owns' ho)).mono ?_
    rintro e w2 ⟨rfl, hb2⟩
    have d0 := (X1.later hb2).c0
    have hbw2 := bel_after hbw1 hb2
    clear X1 X0 C I ho
    go_wp2_with fail
    refine (HA _ (hW.later hbw2)).mono ?_
    rintro e w3 ⟨rfl, hb3⟩
    have hbw3 := bel_after hbw2 hb3
    go_wp2
    go_region
    all_goals go_wp2
    all_goals exact bodyPost_ret (v := hdV x0 x1 x2 x3) (by simp [results, Tryz.results12, go_sem, hdV]) rfl ⟨rfl, below_drewN (bel_after hbw3 (bel_one _ _)) _⟩

end Go.Proofs.YtphkmgalgngjiaaGreat
