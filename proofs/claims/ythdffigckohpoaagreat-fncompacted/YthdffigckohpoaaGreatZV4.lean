
import Derived.Test.YthdffigckohpoaaGreatZV3
import Derived.Test.YthdffigckohpoaaGreatZHSpecO
import Derived.Test.YthdffigckohpoaaGreatZV1
/- HeapOk, Objects, Young and Header of the model and of the program, in one plain word each. -/
namespace Go.Proofs.YthdffigckohpoaaGreat
open Go.RowKit
noncomputable def okC (h : Hp) : Bool := @decide (∃ l, RightAt h l) (Classical.propDecidable _)
noncomputable def obC (h : Hp) : List Nat := @dite _ (∃ l, RightAt h l) (Classical.propDecidable _) (fun k => Classical.choose k) (fun _ => [])
noncomputable def yoC (h : Hp) : Int := if okC h = true then (((obC h).countP fun a => decide (2000 <= a) : Nat) : Int) else -1
noncomputable def isC (h : Hp) (x : Int) : Bool := (ints (obC h)).contains x
noncomputable def hdC (h : Hp) (x : Int) (i : Nat) : Int := if isC h x = true then gw h.words (x.toNat + i) else -1
theorem c_yes {h : Hp} {l : List Nat} (k : RightAt h l) : okC h = true /\ obC h = l := by
 have hk : ∃ l, RightAt h l := ⟨l, k⟩
 refine ⟨@decide_eq_true _ (Classical.propDecidable _) hk, ?_⟩
 unfold obC
 rw [dif_pos hk]
 exact (Classical.choose_spec hk).eq k
theorem c_no {h : Hp} (k : ∀ l, ¬ RightAt h l) : okC h = false /\ obC h = [] := by
 have hk : ¬ ∃ l, RightAt h l := fun ⟨l, q⟩ => k l q
 refine ⟨@decide_eq_false _ (Classical.propDecidable _) hk, ?_⟩
 unfold obC
 rw [dif_neg hk]
theorem c_right {h : Hp} (k : okC h = true) : RightAt h (obC h) := by
 have hk : ∃ l, RightAt h l := @of_decide_eq_true _ (Classical.propDecidable _) k
 obtain ⟨l, q⟩ := hk
 rw [(c_yes q).2]
 exact q
theorem c_wrong {h : Hp} (k : okC h = false) : obC h = [] := (c_no (fun l q => by rw [(c_yes q).1] at k; cases k)).2
theorem ob_short (h : Hp) : (obC h).length <= 3200 := by
 cases k : okC h
 ·rw [c_wrong k]; simp
 ·exact (c_right k).1.short
theorem okOut_eq {h : Hp} {x : Ending} (k : OkOut h x) : x = .returned (.bool (okC h)) := by
 obtain ⟨ok, rfl, hk⟩ := k
 cases ok
 ·rw [(c_no (fun l q => by have := hk.2 ⟨l, q⟩; cases this)).1]
 ·obtain ⟨l, q⟩ := hk.1 rfl
  rw [(c_yes q).1]
theorem specHeapOk_c (v : Value) (h : Hp) (w : World) (hv : HR w v h) (hro : h.roots.length <= 1000000000000) (hke : h.kept.length <= 1000000000000) :
  Calls Tryz.prog 33 #[v] w fun x w' => x = .returned (.bool (okC h)) /\ Below w.heap.size w w' :=
 (specHeapOk_any v h w hv hro hke).mono fun _ _ ⟨a, b⟩ => ⟨okOut_eq a, b⟩
/-- What rightObjects answers, in one word. -/
theorem right_c (v : Value) (h : Hp) (w : World) (hv : HR w v h) (hro : h.roots.length <= 1000000000000) (hke : h.kept.length <= 1000000000000) :
  Calls Tryz.prog 37 #[v] w fun x w' => (∃ v', x = .returned (.tuple #[v', .bool (okC h)]) /\ w'.ownsRow w.heap.size 2 1 v' (obC h).length (icells (ints (obC h)))) /\ Below w.heap.size w w' :=
 (rightObjects_any v h w hv hro hke).mono fun x w' ⟨a, b⟩ => by
  refine ⟨?_, b⟩
  rcases a with ⟨l, v', rfl, ho, hr, _⟩ | ⟨rfl, hn⟩
  ·obtain ⟨e1, e2⟩ := c_yes hr
   rw [e1, e2]
   exact ⟨v', rfl, ho⟩
  ·obtain ⟨e1, e2⟩ := c_no hn
   rw [e1, e2]
   exact ⟨_, rfl, ⟨by simp [icells, ints], .inl ⟨rfl, rfl⟩⟩⟩
theorem all_c (v : Value) (h : Hp) (w : World) (hv : HR w v h) (hk : okC h = true) :
  Calls Tryz.prog 36 #[v] w fun x w' => (∃ v', x = .returned v' /\ IR w' v' (ints (obC h))) /\ Below w.heap.size w w' :=
 (l5All_any v h w hv).mono fun x w' ⟨⟨l, v', _, e, ho, hp⟩, b⟩ => by
  have q := (c_right hk).1
  have : l = obC h := (hp _ q).eq q
  subst this
  exact ⟨⟨v', e, IR_of_owns' ho⟩, b⟩
theorem implHeapOk_c (v : Value) (h : Hp) (w : World) (hv : HR w v h) (hro : h.roots.length <= 1000000000000) (hke : h.kept.length <= 1000000000000) :
  Calls Tryz.prog 18 #[v] w fun x w' => x = .returned (.bool (okC h)) /\ Below w.heap.size w w' := by
 obtain ⟨v1, v2, v3, rfl, i1, i2, i3⟩ := id hv
 have hb0 := bel_one w (.cells #[v1, v2, .int .i64 h.old, .int .i64 h.eden, .int .i64 h.surv, .bool h.flip, .int .i64 h.hash, v3] 26)
 have C := right_c _ h _ (hv.later hb0) hro hke
 go_enter Tryz.func18, Tryz.ntmps18
 go_wp2_with fail
 refine C.mono ?_
 rintro x w1 ⟨⟨v', rfl, ho⟩, hb1⟩
 go_wp2
 go_ret
 exact ⟨rfl, bel_after hb0 hb1⟩
theorem implObjects_c (v : Value) (h : Hp) (w : World) (hv : HR w v h) (hro : h.roots.length <= 1000000000000) (hke : h.kept.length <= 1000000000000) :
  Calls Tryz.prog 16 #[v] w fun x w' => (∃ v', x = .returned v' /\ w'.ownsRow w.heap.size 2 1 v' (obC h).length (icells (ints (obC h)))) /\ Below w.heap.size w w' := by
 obtain ⟨v1, v2, v3, rfl, i1, i2, i3⟩ := id hv
 have hb0 := bel_one w (.cells #[v1, v2, .int .i64 h.old, .int .i64 h.eden, .int .i64 h.surv, .bool h.flip, .int .i64 h.hash, v3] 26)
 have C := right_c _ h _ (hv.later hb0) hro hke
 go_enter Tryz.func16, Tryz.ntmps16
 go_wp2_with fail
 refine C.mono ?_
 rintro x w1 ⟨⟨v', rfl, ho⟩, hb1⟩
 have ho' := own_mono ho hb0.size
 go_wp2
 go_ret
 exact ⟨⟨v', rfl, ho'⟩, bel_after hb0 hb1⟩
theorem count_snoc (l : List Nat) (k : Nat) (h : k < l.length) : (((l.take (k + 1)).countP fun a => decide (2000 <= a) : Nat) : Int) = ((l.take k).countP fun a => decide (2000 <= a) : Nat) + (if 2000 <= l.getD k 0 then 1 else 0) := by
 rw [ltake_snoc l k h, List.countP_append]
 by_cases e : 2000 <= l.getD k 0
 ·rw [if_pos e, List.countP_cons_of_pos (by simpa using e)]; simp
 ·rw [if_neg e, List.countP_cons_of_neg (by simpa using e)]; simp
theorem count_le (l : List Nat) (k : Nat) : ((l.take k).countP fun a => decide (2000 <= a)) <= l.length := Nat.le_trans List.countP_le_length (by rw [List.length_take]; omega)
set_option maxHeartbeats 800000 in
theorem implYoung_c (v : Value) (h : Hp) (w : World) (hv : HR w v h) (hro : h.roots.length <= 1000000000000) (hke : h.kept.length <= 1000000000000) :
  Calls Tryz.prog 21 #[v] w fun x w' => x = .returned (.int .i64 (yoC h)) /\ Below w.heap.size w w' := by
 obtain ⟨v1, v2, v3, rfl, i1, i2, i3⟩ := id hv
 have hb0 := bel_one w (.cells #[v1, v2, .int .i64 h.old, .int .i64 h.eden, .int .i64 h.surv, .bool h.flip, .int .i64 h.hash, v3] 26)
 have C := right_c _ h _ (hv.later hb0) hro hke
 have hs := ob_short h
 cases hk : okC h
 ·have e : Hid (yoC h = -1) := (by unfold yoC; rw [hk]; rfl : yoC h = -1)
  rw [hk] at C
  clear i1 i2 i3
  go_enter Tryz.func21, Tryz.ntmps21
  go_wp2_with fail
  refine C.mono ?_
  rintro x w1 ⟨⟨v', rfl, ho⟩, hb1⟩
  go_wp2
  go_ret
  exact ⟨wret_int e.out.symm, bel_after hb0 hb1⟩
 ·have e : Hid (yoC h = (((obC h).countP fun a => decide (2000 <= a) : Nat) : Int)) := (by unfold yoC; rw [hk]; rfl : yoC h = (((obC h).countP fun a => decide (2000 <= a) : Nat) : Int))
  rw [hk] at C
  clear i1 i2 i3 hk
  generalize yoC h = yy at *
  generalize obC h = l at *
  go_enter Tryz.func21, Tryz.ntmps21
  go_wp2_with fail
  refine C.mono ?_
  rintro x w1 ⟨⟨v', rfl, ho⟩, hb1⟩
  have hbw := bel_after hb0 hb1
  obtain ⟨ao, cp, rfl, hc⟩ := intsI (IR_of_owns' ho)
  go_wp2
  go_loopw [5, 17] (fun yv kv wr => ∃ k : Nat, k <= l.length /\ kv = .int .i64 k /\ yv = .int .i64 (((l.take k).countP fun a => decide (2000 <= a) : Nat) : Int) /\ wr = w1) (fun _ kv _ => l.length - (intOf kv).toNat)
  case atStart => exact ⟨0, Nat.zero_le _, rfl, rfl, rfl⟩
  case round =>
   obtain ⟨k, hk, rfl, rfl, hwr⟩ := hrel
   obtain rfl := hwr.symm
   clear hwr
   by_cases hlt : k < l.length
   ·obtain ⟨b, o, rfl, ci⟩ := hc k hlt
    have cs : Hid ((((l.take (k + 1)).countP fun a => decide (2000 <= a) : Nat) : Int) = ((l.take k).countP fun a => decide (2000 <= a) : Nat) + (if 2000 <= l.getD k 0 then 1 else 0)) := count_snoc l k hlt
    have cl := count_le l k
    generalize l.getD k 0 = a at *
    generalize ((l.take k).countP fun a => decide (2000 <= a)) = cn at *
    by_cases hy : 2000 <= a
    ·have D : decide (2000 <= (a : Int)) = true := decide_eq_true (by omega)
     rw [if_pos hy] at cs
     go_wp2_with (go_at_call 45; refine (isYoung_any _ _).mono ?_; rintro e wq ⟨rfl, hq⟩; obtain rfl := hq.symm; rw [D])
     exact ⟨⟨k + 1, by omega, by go_num, by rw [cs.out], trivial⟩, by simp [intOf]; omega⟩
    ·have D : decide (2000 <= (a : Int)) = false := decide_eq_false (by omega)
     rw [if_neg hy] at cs
     go_wp2_with (go_at_call 45; refine (isYoung_any _ _).mono ?_; rintro e wq ⟨rfl, hq⟩; obtain rfl := hq.symm; rw [D])
     exact ⟨⟨k + 1, by omega, by go_num, by rw [cs.out]; simp, trivial⟩, by simp [intOf]; omega⟩
   ·obtain rfl : k = l.length := by omega
    rw [List.take_length]
    go_wp2
    go_ret
    exact ⟨wret_int e.out.symm, hbw⟩
end Go.Proofs.YthdffigckohpoaaGreat
/- Header of the model and of the program. -/
namespace Go.Proofs.YthdffigckohpoaaGreat
open Go.RowKit
theorem mem_stop {l : List Nat} {k : Nat} {x : Int} (h : k < l.length) (e : ((l.getD k 0 : Nat) : Int) = x) : (ints l).contains x = true := by
 rw [List.contains_iff_mem, ← e]
 exact List.mem_map.2 ⟨_, lget_mem l k h, rfl⟩
theorem mem_done {l : List Nat} {x : Int} (h : ∀ j, j < l.length -> ((l.getD j 0 : Nat) : Int) ≠ x) : (ints l).contains x = false := by
 rw [Bool.eq_false_iff]
 intro q
 rw [List.contains_iff_mem] at q
 obtain ⟨a, ha, rfl⟩ := List.mem_map.1 q
 obtain ⟨i, hi, e⟩ := List.getElem_of_mem ha
 exact h i hi (by simp [hi, e])
set_option maxHeartbeats 800000 in
theorem l5Is_c (v : Value) (h : Hp) (x : Int) (w : World) (hv : HR w v h) (hk : okC h = true) :
  Calls Tryz.prog 80 #[v, .int .i64 x] w fun e w' => e = .returned (.bool (isC h x)) /\ Below w.heap.size w w' := by
 obtain ⟨v1, v2, v3, rfl, i1, i2, i3⟩ := id hv
 have hb0 := bel_one w (.cells #[v1, v2, .int .i64 h.old, .int .i64 h.eden, .int .i64 h.surv, .bool h.flip, .int .i64 h.hash, v3] 26)
 have A := all_c _ h _ (hv.later hb0) hk
 have hs := ob_short h
 have IE : Hid (isC h x = (ints (obC h)).contains x) := (rfl : isC h x = (ints (obC h)).contains x)
 generalize isC h x = r at *
 generalize obC h = l at *
 clear i1 i2 i3 hk
 go_enter Tryz.func80, Tryz.ntmps80
 go_wp2_with fail
 refine A.mono ?_
 rintro e w1 ⟨⟨v', rfl, ho⟩, hb1⟩
 have hbw := bel_after hb0 hb1
 obtain ⟨ao, cp, rfl, hc⟩ := intsI ho
 go_wp2
 go_loopw [6] (fun kv wr => ∃ k : Nat, k <= l.length /\ kv = .int .i64 k /\ Hid (∀ j, j < k -> ((l.getD j 0 : Nat) : Int) ≠ x) /\ wr = w1) (fun kv _ => l.length - (intOf kv).toNat)
 case atStart => exact ⟨0, Nat.zero_le _, rfl, fun j hj => by omega, rfl⟩
 case round =>
  obtain ⟨k, hk, rfl, hj, hwr⟩ := hrel
  obtain rfl := hwr.symm
  clear hwr
  by_cases hlt : k < l.length
  ·obtain ⟨b, o, rfl, ci⟩ := hc k hlt
   have NX : Hid (((l.getD k 0 : Nat) : Int) ≠ x -> ∀ j, j < k + 1 -> ((l.getD j 0 : Nat) : Int) ≠ x) := fun e => all_upto hj.out e
   have YES : Hid (((l.getD k 0 : Nat) : Int) = x -> (ints l).contains x = true) := fun e => mem_stop hlt e
   clear hj
   generalize ((l.getD k 0 : Nat) : Int) = a at *
   by_cases hx : a = x
   ·have G : Hid (r = true) := (by rw [IE.out]; exact YES.out hx : r = true)
    have hb : (a == x) = true := by simpa using hx
    clear NX YES
    subst hx
    go_wp2
    go_ret
    exact ⟨wret_bool G.out.symm, hbw⟩
   ·have N := NX.out hx
    have hb : (a == x) = false := by simpa using hx
    clear NX YES
    go_wp2
    exact ⟨⟨k + 1, by omega, by go_num, N, trivial⟩, by simp [intOf]; omega⟩
  ·obtain rfl : k = l.length := by omega
   have G : Hid (r = false) := (by rw [IE.out]; exact mem_done hj.out : r = false)
   go_wp2
   go_ret
   exact ⟨wret_bool G.out.symm, hbw⟩
theorem is_at {h : Hp} {x : Int} (k : isC h x = true) : ∃ a : Nat, x = a /\ a + 4 <= 3200 /\ h.words.length = 3200 /\ okC h = true := by
 unfold isC at k
 rw [List.contains_iff_mem] at k
 obtain ⟨a, ha, e⟩ := List.mem_map.1 k
 cases q : okC h
 ·rw [c_wrong q] at ha; cases ha
 ·have p := (c_right q).1
  exact ⟨a, e.symm, (p.obj ha).1, p.1, rfl⟩
theorem hd_no {h : Hp} {x : Int} (k : isC h x = false) (i : Nat) : hdC h x i = -1 := by unfold hdC; rw [k]; rfl
theorem hd_yes {h : Hp} {a : Nat} (k : isC h (a : Int) = true) (i : Nat) : hdC h (a : Int) i = gw h.words (a + i) := by unfold hdC; rw [if_pos k, Int.toNat_natCast]
def hdV (h0 h1 h2 h3 : Int) : Value := .tuple #[.int .i64 h0, .int .i64 h1, .int .i64 h2, .int .i64 h3]
set_option maxRecDepth 100000 in
set_option maxHeartbeats 1600000 in
theorem implHeader_c (v : Value) (h : Hp) (x : Int) (w : World) (hv : HR w v h) (hro : h.roots.length <= 1000000000000) (hke : h.kept.length <= 1000000000000) :
  Calls Tryz.prog 17 #[v, .int .i64 x] w fun e w' => e = .returned (hdV (hdC h x 0) (hdC h x 1) (hdC h x 2) (hdC h x 3)) /\ Below w.heap.size w w' := by
 obtain ⟨v1, v2, v3, rfl, i1, i2, i3⟩ := id hv
 have hb0 := bel_one w (.cells #[v1, v2, .int .i64 h.old, .int .i64 h.eden, .int .i64 h.surv, .bool h.flip, .int .i64 h.hash, v3] 26)
 have X0 := Bx.new w v1 v2 v3 h 26
 have C := implObjects_c _ h _ (hv.later hb0) hro hke
 have hs := ob_short h
 have SO : (ints (obC h)).Pairwise (· <= ·) := by
  cases k : okC h
  ·rw [c_wrong k]; simp [ints]
  ·have r := c_right k
   exact ints_sorted (((right_iff r.1.1).1 r).1.sorted)
 have I := fun v W hv' => isAmong_any v (ints (obC h)) x W hv' SO (by rw [ints_length]; omega)
 rw [show (ints (obC h)).contains x = isC h x from rfl] at I
 cases hi : isC h x
 ·have E := fun i => hd_no hi i
  simp only [hi] at I
  rw [E 0, E 1, E 2, E 3]
  clear i1 i2 i3 E X0 SO
  go_enter Tryz.func17, Tryz.ntmps17
  go_wp2_with fail
  refine C.mono ?_
  rintro e w1 ⟨⟨v', rfl, ho⟩, hb1⟩
  have hbw1 := bel_after hb0 hb1
  go_wp2_with fail
  refine (I _ _ (IR_of_owns' ho)).mono ?_
  rintro e w2 ⟨rfl, hb2⟩
  go_wp2
  exact bodyPost_ret (v := hdV (-1) (-1) (-1) (-1)) (by simp [results, Tryz.results17, go_sem, hdV]) rfl ⟨rfl, bel_after hbw1 hb2⟩
 ·obtain ⟨a, rfl, ha, hlen, _⟩ := is_at hi
  have E := fun i => hd_yes hi i
  simp only [hi] at I
  rw [E 0, E 1, E 2, E 3]
  obtain ⟨b, o, cap, rfl, hcap, hW⟩ := i1.ws (by omega)
  simp only [hlen] at hb0 X0 C ⊢
  have HLN : Hid (h.words.length = 3200) := hlen
  have HA := fun W hW' => headerAt_any b o cap h.words a W hW' HLN.out ha
  rw [Nat.add_zero]
  generalize gw h.words a = x0 at *
  generalize gw h.words (a + 1) = x1 at *
  generalize gw h.words (a + 2) = x2 at *
  generalize gw h.words (a + 3) = x3 at *
  clear i1 i2 i3 E hlen hv SO
  go_enter Tryz.func17, Tryz.ntmps17
  go_wp2_with fail
  refine C.mono ?_
  rintro e w1 ⟨⟨v', rfl, ho⟩, hb1⟩
  have hbw1 := bel_after hb0 hb1
  have X1 := X0.later hb1
  go_wp2_with fail
  refine (I _ _ (IR_of_owns' ho)).mono ?_
  rintro e w2 ⟨rfl, hb2⟩
  have d0 := (X1.later hb2).c0
  have hbw2 := bel_after hbw1 hb2
  clear X1 X0 C I ho
  go_wp2_with fail
  refine (HA _ (hW.later hbw2)).mono ?_
  rintro e w3 ⟨rfl, hb3⟩
  have hbw3 := bel_after hbw2 hb3
  go_wp2
  go_region
  all_goals go_wp2
  all_goals exact bodyPost_ret (v := hdV x0 x1 x2 x3) (by simp [results, Tryz.results17, go_sem, hdV]) rfl ⟨rfl, below_drewN (bel_after hbw3 (bel_one _ _)) _⟩
end Go.Proofs.YthdffigckohpoaaGreat
/- New, Room, AddRoot and SetRoot in plain words. -/
namespace Go.Proofs.YthdffigckohpoaaGreat
open Go.RowKit
noncomputable def addB (h : Hp) (x : Int) : Bool := okC h && (fitB (obC h) x && !decide (h.roots.length = 20))
noncomputable def addC (h : Hp) (x : Int) : Hp := if addB h x = true then { h with roots := h.roots ++ [x] } else zeroH
noncomputable def setB (h : Hp) (i x : Int) : Bool := okC h && (fitB (obC h) x && decide (0 <= i /\ i < h.roots.length))
noncomputable def setC (h : Hp) (i x : Int) : Hp := if setB h i x = true then { h with roots := h.roots.set i.toNat x } else zeroH
noncomputable def newB (h : Hp) (k n : Int) : Bool := okC h && (decide (0 <= k /\ k <= 99) && (decide (0 <= n /\ n <= 60) && (!decide (h.hash = 1000000000) && decide (h.eden + 4 + n <= 2600))))
def newHp (h : Hp) (k n : Int) : Hp := { h with words := ((h.words.set h.eden.toNat n).set (h.eden.toNat + 1) k).set (h.eden.toNat + 2) h.hash, hash := h.hash + 1, eden := h.eden + 4 + n }
noncomputable def newC (h : Hp) (k n : Int) : Hp := if newB h k n = true then newHp h k n else zeroH
noncomputable def newW' (h : Hp) (k n : Int) : Int := if newB h k n = true then 2 * h.eden + 1 else 0
theorem ok_len {h : Hp} (k : okC h = true) : h.words.length = 3200 /\ 2000 <= h.eden /\ h.eden <= 2600 /\ 1 <= h.hash /\ h.hash <= 1000000000 /\ h.roots.length <= 20 := by
 have q := c_right k
 exact ⟨q.1.1, q.1.2.2.1.1, q.1.2.2.1.2, q.2.2.1.1, q.2.2.1.2, q.2.2.2.2.2.1⟩
theorem ok_sorted {h : Hp} (k : okC h = true) : (obC h).Pairwise (· < ·) := by
 have q := c_right k
 exact ((right_iff (ok_len k).1).1 q).1.sorted
theorem ok_nought {h : Hp} (k : okC h = true) (i : Nat) (h1 : h.eden <= i) (h2 : i < 2600) : h.words.getD i 0 = 0 := by
 have q := (c_right k).2.1
 have e := ok_len k
 refine q i (by omega) ?_
 have hs : 2600 <= survB h.flip := by unfold survB; split <;> omega
 have ho := (c_right k).1.2.1
 unfold inUse
 omega
end Go.Proofs.YthdffigckohpoaaGreat
/- Get, Set, ClassOf and HashOf in plain words: a heap in which one field is set is right, and what is kept of it. -/
namespace Go.Proofs.YthdffigckohpoaaGreat
open Go.RowKit
/-- A word is the address of an object. -/
noncomputable def refB (h : Hp) (x : Int) : Bool := decide (kindW x = 2) && (ints (obC h)).contains (x / 2)
noncomputable def putB (h : Hp) (x i y : Int) : Bool := okC h && (fitB (obC h) y && (refB h x && decide (0 <= i /\ i < gw h.words (x / 2).toNat)))
noncomputable def putH (h : Hp) (a i : Nat) (y : Int) : Hp := { h with words := h.words.set (a + 4 + i) y, kept := keptOf (h.words.set (a + 4 + i) y) (obC h) }
noncomputable def putC (h : Hp) (x i y : Int) : Hp := if putB h x i y = true then putH h (x / 2).toNat i.toNat y else zeroH
theorem put_no {h : Hp} {x i y : Int} (k : putB h x i y = false) : putC h x i y = zeroH := by unfold putC; rw [k]; rfl
theorem put_yes {h : Hp} {x i y : Int} (k : putB h x i y = true) : putC h x i y = putH h (x / 2).toNat i.toNat y := by unfold putC; rw [k]; rfl
theorem ref_mem {h : Hp} {x : Int} (k : refB h x = true) : kindW x = 2 /\ ∃ a : Nat, a ∈ obC h /\ x / 2 = a := by
 unfold refB at k
 rw [Bool.and_eq_true, List.contains_iff_mem] at k
 obtain ⟨a, ha, e⟩ := List.mem_map.1 k.2
 exact ⟨of_decide_eq_true k.1, a, ha, e.symm⟩
theorem gw_set (W : List Int) (k j : Nat) (y : Int) (h : k < W.length) : gw (W.set k y) j = if j = k then y else gw W j := by
 unfold gw
 simp only [List.getD_eq_getElem?_getD, List.getElem?_set]
 by_cases e : k = j
 ·subst e
  simp [h]
 ·rw [if_neg e, if_neg (Ne.symm e)]
/-- Objects lie apart, in the order of the list. -/
theorem its_apart {W : List Int} {f n a b : Nat} (ha : a ∈ its W f n) (hb : b ∈ its W f n) (h : a < b) : nx W a <= b := by
 obtain ⟨i, _, rfl⟩ := mem_its.1 ha
 obtain ⟨j, _, rfl⟩ := mem_its.1 hb
 exact it_next (it_lt h)
theorem goes_in {W : List Int} {f t n a : Nat} (g : Goes W f t n) (ha : a ∈ its W f n) : f <= a /\ nx W a <= t /\ a + 4 <= nx W a := by
 obtain ⟨i, hi, rfl⟩ := mem_its.1 ha
 have h1 := it_next (W := W) (f := f) hi
 have h2 := it_base W f i
 have h3 := it_step W f i
 rw [g.1] at h1
 exact ⟨by omega, h1, h3⟩
theorem PartsAt.used {h : Hp} {l : List Nat} (k : PartsAt h l) {a j : Nat} (ha : a ∈ l) (h1 : a <= j) (h2 : j < nx h.words a) : inUse h j := by
 obtain ⟨_, r0, r1, r2, n0, n1, n2, g0, g1, g2, rfl⟩ := k
 rw [List.mem_append, List.mem_append] at ha
 unfold inUse
 rcases ha with (ha | ha) | ha
 ·have := goes_in g0 ha; omega
 ·have := goes_in g1 ha; omega
 ·have := goes_in g2 ha; omega
theorem PartsAt.apart {h : Hp} {l : List Nat} (k : PartsAt h l) {a b : Nat} (ha : a ∈ l) (hb : b ∈ l) (hab : a < b) : nx h.words a <= b := by
 obtain ⟨_, r0, r1, r2, n0, n1, n2, g0, g1, g2, rfl⟩ := k
 have hs : 2600 <= survB h.flip := by unfold survB; split <;> omega
 rw [List.mem_append, List.mem_append] at ha hb
 rcases ha with (ha | ha) | ha
 ·have q := goes_in g0 ha
  rcases hb with (hb | hb) | hb
  ·exact its_apart ha hb hab
  ·have := goes_in g1 hb; omega
  ·have := goes_in g2 hb; omega
 ·have q := goes_in g1 ha
  rcases hb with (hb | hb) | hb
  ·have := goes_in g0 hb; omega
  ·exact its_apart ha hb hab
  ·have := goes_in g2 hb; omega
 ·have q := goes_in g2 ha
  rcases hb with (hb | hb) | hb
  ·have := goes_in g0 hb; omega
  ·have := goes_in g1 hb; omega
  ·exact its_apart ha hb hab
/-- Words that differ in fields alone. -/
theorem it_same {W V : List Int} {f n : Nat} (h : ∀ i, i < n -> gw V (it W f i) = gw W (it W f i)) : ∀ i, i <= n -> it V f i = it W f i
 | 0, _ => rfl
 | i + 1, hi => by
  have q := it_same h i (by omega)
  show nx V (it V f i) = nx W (it W f i)
  rw [q]
  unfold nx
  rw [h i (by omega)]
theorem its_same {W V : List Int} {f n : Nat} (h : ∀ i, i < n -> gw V (it W f i) = gw W (it W f i)) : its V f n = its W f n := by
 unfold its
 refine List.map_congr_left fun i hi => it_same h i ?_
 rw [List.mem_range] at hi
 omega
theorem head_same {W V : List Int} {a : Nat} (h : ∀ k, k < 4 -> gw V (a + k) = gw W (a + k)) : headB V a = headB W a := by
 unfold headB
 rw [show gw V a = gw W a from h 0 (by omega), h 1 (by omega), h 3 (by omega)]
theorem goes_same {W V : List Int} {f t n : Nat} (g : Goes W f t n) (h : ∀ a, a ∈ its W f n -> ∀ k, k < 4 -> gw V (a + k) = gw W (a + k)) : Goes V f t n /\ its V f n = its W f n := by
 have q : ∀ i, i < n -> gw V (it W f i) = gw W (it W f i) := fun i hi => h _ (mem_its.2 ⟨i, hi, rfl⟩) 0 (by omega)
 refine ⟨⟨(it_same q n (Nat.le_refl _)).trans g.1, fun i hi => ?_⟩, its_same q⟩
 rw [it_same q i (by omega), head_same (h _ (mem_its.2 ⟨i, hi, rfl⟩))]
 exact g.2 i hi
/-- The same objects where their headers are the same. -/
theorem parts_same {h : Hp} {l : List Nat} (k : PartsAt h l) (V kp rt : List Int) (hs : Int) (hl : V.length = h.words.length) (hh : ∀ a, a ∈ l -> ∀ k, k < 4 -> gw V (a + k) = gw h.words (a + k)) : PartsAt { h with words := V, kept := kp, roots := rt, hash := hs } l := by
 obtain ⟨h0, r0, r1, r2, n0, n1, n2, g0, g1, g2, rfl⟩ := k
 have G0 := goes_same g0 (fun a ha => hh a (by simp [ha]))
 have G1 := goes_same g1 (fun a ha => hh a (by simp [ha]))
 have G2 := goes_same g2 (fun a ha => hh a (by simp [ha]))
 refine ⟨hl.trans h0, r0, r1, r2, n0, n1, n2, G0.1, G1.1, G2.1, ?_⟩
 show _ = its V 0 n0 ++ its V 2000 n1 ++ its V (survB h.flip) n2
 rw [G0.2, G1.2, G2.2]
section
variable {h : Hp} {l : List Nat} (R : RightAt h l) {a i : Nat} (ha : a ∈ l) (hi : (i : Int) < gw h.words a) (y : Int)
include R ha hi
theorem put_lt : a + 4 + i < nx h.words a /\ a + 4 + i < 3200 := by
 have q := R.1.obj ha
 have : nx h.words a = a + 4 + (gw h.words a).toNat := rfl
 omega
theorem put_gw (j : Nat) : gw (h.words.set (a + 4 + i) y) j = if j = a + 4 + i then y else gw h.words j :=
 gw_set _ _ _ _ (by have := put_lt R ha hi; have := R.1.1; omega)
theorem put_far {b j : Nat} (hb : b ∈ l) (hb' : b ≠ a) (h1 : b <= j) (h2 : j < nx h.words b) : j ≠ a + 4 + i := by
 have q := put_lt R ha hi
 rcases Nat.lt_or_gt_of_ne hb' with k | k
 ·have := R.1.apart hb ha k; omega
 ·have := R.1.apart ha hb k; omega
theorem put_head {b k : Nat} (hb : b ∈ l) (hk : k < 4) : gw (h.words.set (a + 4 + i) y) (b + k) = gw h.words (b + k) := by
 rw [put_gw R ha hi, if_neg]
 by_cases e : b = a
 ·omega
 ·refine put_far R ha hi hb e (by omega) ?_
  have : nx h.words b = b + 4 + (gw h.words b).toNat := rfl
  omega
theorem put_nx {b : Nat} (hb : b ∈ l) : nx (h.words.set (a + 4 + i) y) b = nx h.words b := by
 unfold nx
 rw [show gw (h.words.set (a + 4 + i) y) b = gw h.words b from put_head R ha hi y hb (k := 0) (by omega)]
/-- A field that is set leaves the heap right. -/
theorem put_right (hy : fitB l y = true) : RightAt { h with words := h.words.set (a + 4 + i) y, kept := keptOf (h.words.set (a + 4 + i) y) l } l := by
 obtain ⟨p, z, hh, h1, h2, r1, r2, f, k⟩ := id R
 refine ⟨parts_same p _ _ h.roots h.hash (by simp) (fun b hb k hk => put_head R ha hi y hb hk), fun j hj hn => ?_, hh, fun b hb => ?_, ⟨fun b hb => ?_, ?_⟩, r1, r2, fun b hb => ?_, rfl⟩
 ·show gw (h.words.set (a + 4 + i) y) j = 0
  rw [put_gw R ha hi, if_neg]
  ·exact z j hj hn
  ·rintro rfl
   exact hn (p.used ha (by omega) (put_lt R ha hi).1)
 ·show 1 <= gw (h.words.set (a + 4 + i) y) (b + 2)
  rw [put_head R ha hi y hb (by omega)]
  exact h1 b hb
 ·show gw (h.words.set (a + 4 + i) y) (b + 2) < h.hash
  rw [put_head R ha hi y hb (by omega)]
  exact h2.1 b hb
 ·have e : hashesOf (h.words.set (a + 4 + i) y) l = hashesOf h.words l := List.map_congr_left fun b hb => put_head R ha hi y hb (by omega)
  show (hashesOf (h.words.set (a + 4 + i) y) l).Nodup
  rw [e]
  exact h2.2
 ·intro j j1 j2
  show fitB l (gw (h.words.set (a + 4 + i) y) j) = true
  have j2' : j < nx (h.words.set (a + 4 + i) y) b := j2
  rw [put_nx R ha hi y hb] at j2'
  rw [put_gw R ha hi]
  split
  ·exact hy
  ·exact f b hb j j1 j2'
end
/-- A list that rises, with a number in it or without. -/
def lw (k : List Int) (n : Int) (b : Bool) : List Int :=
 if b = true then (if k.contains n = true then k else k.take (k.countP (· < n)) ++ n :: k.drop (k.countP (· < n))) else (if k.contains n = true then k.take (k.countP (· < n)) ++ k.drop (k.countP (· < n) + 1) else k)
theorem kept_short {h : Hp} {l : List Nat} (R : RightAt h l) : h.kept.length <= 3200 := by
 rw [<- R.2.2.2.2.2.2.2.2]
 unfold keptOf
 rw [ints_length]
 exact Nat.le_trans (List.length_filter_le _ _) R.1.short
end Go.Proofs.YthdffigckohpoaaGreat
