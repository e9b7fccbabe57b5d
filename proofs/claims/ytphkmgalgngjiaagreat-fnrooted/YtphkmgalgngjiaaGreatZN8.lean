import Derived.Test.YtphkmgalgngjiaaGreatZN7
import Derived.Test.YtphkmgalgngjiaaGreatZN2
import Derived.Maps.AppendAt
/- The compacting collector in plain words: what is reached, where it goes, what is written. -/
namespace Go.Proofs.YtphkmgalgngjiaaGreat
open Go.RowKit

/-- An odd word that fits is the address of an object. -/
theorem odd_obj {l : List Nat} {x : Int} (hf : fitB l x = true) (ho : ¬ x % 2 = 0) : ∃ a : Nat, a ∈ l ∧ x / 2 = a ∧ x.tdiv 2 = a ∧ x = 2 * (a : Int) + 1 := by
  have k := fit_kind hf
  have k2 : kindW x = 2 := by
    rw [kind_odd ho] at k ⊢
    split at k
    · rename_i q; rw [if_pos q]
    · exact absurd rfl k
  rw [fit_ref (decide_eq_true k2), List.contains_iff_mem] at hf
  obtain ⟨a, ha, e⟩ := List.mem_map.1 hf
  refine ⟨a, ha, e.symm, ?_, by omega⟩
  rw [Int.tdiv_eq_ediv_of_nonneg (by omega)]
  exact e.symm

/-- One more of what is to do is looked at. -/
def rc1 (W : List Int) (s : List Int × List Bool) (i : Nat) : List Int × List Bool :=
  if s.1.getD i 0 % 2 = 0 then s else if s.2.getD (s.1.getD i 0 / 2).toNat false = true then s
  else (s.1 ++ flds W (s.1.getD i 0 / 2).toNat, s.2.set (s.1.getD i 0 / 2).toNat true)
def seen0 : List Bool := List.replicate 3200 false
theorem seen0_len : seen0.length = 3200 := List.length_replicate
/-- What is to do and what was seen, behind i of them. -/
def rcS (h : Hp) : Nat → List Int × List Bool
  | 0 => (h.roots, seen0)
  | i + 1 => if i < (rcS h i).1.length then rc1 h.words (rcS h i) i else rcS h i
structure RC (h : Hp) (l : List Nat) (s : List Int × List Bool) : Prop where
  fit : ∀ x, x ∈ s.1 → fitB l x = true
  len : s.2.length = 3200
  cnt : s.1.length ≤ h.roots.length + 60 * s.2.count true
theorem count_set : ∀ (s : List Bool) (a : Nat), a < s.length → s.getD a false = false → (s.set a true).count true = s.count true + 1
  | [], a, h, _ => absurd h (Nat.not_lt_zero a)
  | b :: s, 0, _, e => by
    have e' : b = false := e
    subst e'
    rw [List.set_cons_zero, List.count_cons, List.count_cons]
    simp
  | b :: s, a + 1, h, e => by
    have q := count_set s a (by simpa using h) (by simpa using e)
    rw [List.set_cons_succ, List.count_cons, List.count_cons, q]
    omega
theorem RC.short {h : Hp} {l : List Nat} {s : List Int × List Bool} (R : RightAt h l) (k : RC h l s) : s.1.length ≤ 192020 := by
  have a := R.2.2.2.2.2.1
  have b : s.2.count true ≤ s.2.length := List.count_le_length
  have c := k.cnt
  have d := k.len
  omega
theorem rc_start {h : Hp} {l : List Nat} (R : RightAt h l) : RC h l (rcS h 0) :=
  ⟨R.2.2.2.2.2.2.1, seen0_len, by show h.roots.length ≤ _; omega⟩
theorem flds_len (W : List Int) (a : Nat) : (flds W a).length = (gw W a).toNat := by simp [flds]
theorem rc_step {h : Hp} {l : List Nat} (R : RightAt h l) {s : List Int × List Bool} (k : RC h l s) {i : Nat} (hi : i < s.1.length) : RC h l (rc1 h.words s i) := by
  unfold rc1
  split
  · exact k
  split
  · exact k
  · rename_i h1 h2
    have hx : s.1.getD i 0 ∈ s.1 := by simp [hi]
    obtain ⟨a, ha, e, _, _⟩ := odd_obj (k.fit _ hx) h1
    rw [e, Int.toNat_natCast] at h2 ⊢
    obtain ⟨o1, o2, o3⟩ := R.1.obj ha
    have sz := size_of o3
    refine ⟨fun x hx => ?_, by show (s.2.set a true).length = 3200; rw [List.length_set]; exact k.len, ?_⟩
    · have hx' : x ∈ s.1 ++ flds h.words a := hx
      rw [List.mem_append] at hx'
      rcases hx' with q | q
      · exact k.fit x q
      · exact fld_mem.2 (R.2.2.2.2.2.2.2.1 a ha) x q
    · show (s.1 ++ flds h.words a).length ≤ h.roots.length + 60 * (s.2.set a true).count true
      rw [count_set _ _ (by rw [k.len]; omega) (by simpa using h2), List.length_append, flds_len]
      have := k.cnt
      omega

/-- Where each object goes (and 1), and where the last one ends, behind i of the objects. -/
def gt1 (W : List Int) (sn : List Bool) (s : List Nat × Nat) (a : Nat) : List Nat × Nat :=
  if sn.getD a false = true then (s.1.set a (s.2 + 1), s.2 + 4 + (gw W a).toNat) else s
def gtS (W : List Int) (sn : List Bool) (l : List Nat) : Nat → List Nat × Nat
  | 0 => (went0, 0)
  | i + 1 => gt1 W sn (gtS W sn l i) (l.getD i 0)
structure GT (W : List Int) (l : List Nat) (s : List Nat × Nat) (i : Nat) : Prop where
  len : s.1.length = 3200
  top : s.2 ≤ 64 * i
  le : ∀ a, s.1.getD a 0 ≤ s.2 + 1
  at_ : ∀ j, j < i → s.1.getD (l.getD j 0) 0 = 0 ∨ s.1.getD (l.getD j 0) 0 + 3 + (gw W (l.getD j 0)).toNat ≤ s.2
  z : ∀ a, (∀ j, j < i → l.getD j 0 ≠ a) → s.1.getD a 0 = 0
theorem getD_set_nat (s : List Nat) (a b x : Nat) (h : a < s.length) : (s.set a x).getD b 0 = if a = b then x else s.getD b 0 := by
  simp only [List.getD_eq_getElem?_getD, List.getElem?_set]
  by_cases e : a = b
  · subst e
    rw [if_pos rfl, if_pos h, if_pos rfl]
    rfl
  · rw [if_neg e, if_neg e]
theorem sorted_ne {l : List Nat} (so : l.Pairwise (· < ·)) {i j : Nat} (hi : i < l.length) (hj : j < i) : l.getD j 0 ≠ l.getD i 0 := by
  have P := List.pairwise_iff_getElem.1 so j i (by omega) hi hj
  simp only [List.getD_eq_getElem?_getD, List.getElem?_eq_getElem hi, List.getElem?_eq_getElem (show j < l.length from by omega), Option.getD_some]
  omega
theorem gt_start (W : List Int) (sn : List Bool) (l : List Nat) : GT W l (gtS W sn l 0) 0 :=
  ⟨went0_len, Nat.le_refl _, fun a => by show went0.getD a 0 ≤ _; rw [went0_get]; omega, fun j hj => absurd hj (Nat.not_lt_zero j), fun a _ => went0_get a⟩
theorem gt_step {h : Hp} {l : List Nat} (R : RightAt h l) (sn : List Bool) {s : List Nat × Nat} {i : Nat} (k : GT h.words l s i) (hi : i < l.length) : GT h.words l (gt1 h.words sn s (l.getD i 0)) (i + 1) := by
  have so := ((right_iff R.1.1).1 R).1.sorted
  have ha : l.getD i 0 ∈ l := getD_mem hi
  obtain ⟨o1, o2, o3⟩ := R.1.obj ha
  have sz := size_of o3
  have top := k.top
  unfold gt1
  split
  · have S : ∀ b, (s.1.set (l.getD i 0) (s.2 + 1)).getD b 0 = if l.getD i 0 = b then s.2 + 1 else s.1.getD b 0 := fun b => getD_set_nat _ _ _ _ (by rw [k.len]; omega)
    refine ⟨by show (s.1.set _ _).length = 3200; rw [List.length_set]; exact k.len, by show s.2 + 4 + _ ≤ _; omega, fun a => ?_, fun j hj => ?_, fun a q => ?_⟩
    · show (s.1.set _ _).getD a 0 ≤ s.2 + 4 + _ + 1
      rw [S]
      have := k.le a
      split <;> omega
    · show (s.1.set _ _).getD (l.getD j 0) 0 = 0 ∨ (s.1.set _ _).getD (l.getD j 0) 0 + 3 + _ ≤ s.2 + 4 + _
      rw [S]
      by_cases e : j = i
      · subst e
        rw [if_pos rfl]
        right
        omega
      · rw [if_neg (fun e2 => sorted_ne so hi (show j < i from by omega) e2.symm)]
        rcases k.at_ j (by omega) with q | q
        · exact .inl q
        · right; omega
    · show (s.1.set _ _).getD a 0 = 0
      rw [S, if_neg (q i (by omega))]
      exact k.z a fun j hj => q j (by omega)
  · refine ⟨k.len, by omega, k.le, fun j hj => ?_, fun a q => k.z a fun j hj => q j (by omega)⟩
    by_cases e : j = i
    · subst e
      exact .inl (k.z _ fun j' hj' => sorted_ne so hi hj')
    · exact k.at_ j (by omega)

/-- A word of a reached object, behind the moves. -/
def cw (went : List Nat) (x : Int) : Int := if x % 2 = 0 then x else 2 * (((went.getD (x / 2).toNat 0 : Nat) : Int) - 1) + 1
/-- The words of one object: behind k of them. -/
def cf (W : List Int) (went : List Nat) (V : List Int) (a to : Nat) : Nat → List Int
  | 0 => V
  | k + 1 => (cf W went V a to k).set (to + k) (if 4 ≤ k then cw went (gw W (a + k)) else gw W (a + k))
/-- The words behind i objects. -/
def cfS (W : List Int) (went : List Nat) (l : List Nat) : Nat → List Int
  | 0 => List.replicate 3200 0
  | i + 1 => if went.getD (l.getD i 0) 0 = 0 then cfS W went l i else cf W went (cfS W went l i) (l.getD i 0) (went.getD (l.getD i 0) 0 - 1) (4 + (gw W (l.getD i 0)).toNat)
theorem cf_len (W : List Int) (went : List Nat) (V : List Int) (a to : Nat) : ∀ k, (cf W went V a to k).length = V.length
  | 0 => rfl
  | k + 1 => by rw [cf, List.length_set]; exact cf_len W went V a to k
theorem cfS_len (W : List Int) (went : List Nat) (l : List Nat) : ∀ i, (cfS W went l i).length = 3200
  | 0 => List.length_replicate
  | i + 1 => by
    rw [cfS]
    split
    · exact cfS_len W went l i
    · rw [cf_len]; exact cfS_len W went l i
/-- The compacted heap. -/
def coH (h : Hp) (l went : List Nat) (e : Nat) : Hp := { words := cfS h.words went l l.length, roots := h.roots.map (cw went), old := e, eden := 2000, surv := 2600, flip := false, hash := h.hash, kept := [] }

end Go.Proofs.YtphkmgalgngjiaaGreat

/- Appending numbers to a row of the call's own, and where the new row lies. -/
namespace Go.Proofs.YtphkmgalgngjiaaGreat
open Go.RowKit

theorem run_append_zero (ty : TypeId) (g cap n sc : Nat) (sp : Option Addr) (hle : n ≤ cap) (w : World) :
    (Builtin.append_ #[24, 24] ty #[.slice (some ⟨g, 0, none⟩) n cap, .slice sp 0 sc]).run Tryz.prog w = .ok (.slice (some ⟨g, 0, none⟩) n cap) w := by
  obtain ⟨i, hi, hzz⟩ := Option.map_eq_some_iff.1 Tryz.infoI
  have hu : Tryz.prog.underlying 24 = some (.slice 2) := Tryz.underlying24
  have hl : ∀ (x : Addr), (loadCells x 0).run Tryz.prog w = .ok #[] w := fun x => by simpa using run_loadCells_list (P := Tryz.prog) w x [] (by simp)
  cases sp <;> simp [Builtin.append_, run_underlying hu, Builtin.lenOf, Builtin.firstCells, sizeOf, typeInfo, hi, hle, hl, storeCells]

/-- append of whatever numbers to a row of the call's own. -/
theorem app_ri {ops : Array Oper} {rest : List Oper} {o : Oper} {a : Act} {Q : Exit → Act → World → Prop} (w : World) (hgd : o.guard = none) (s x : Operand)
    (ho : o.op = .call { callee := .builtin .append, args := #[s, x], argTypes := #[24, 24] })
    (g cap n : Nat) (m : List Int) (hs : a.eval s = .slice (some ⟨g, 0, none⟩) n cap) (hm : n = m.length) (hR : RI w g m cap) (hmm : m.length ≤ 1000000000000) (hcap : cap ≤ maxLen)
    (sp : Option Addr) (sc k : Nat) (l : List Int) (hx : a.eval x = .slice sp k sc) (hk : k = l.length) (hI : IR w (.slice sp k sc) l) (hl : l.length ≤ 1000000000000)
    (h : ∀ g' c' w', RI w' g' (m ++ l) c' → w.grownBy w' (some g) → (g' = g ∨ (g' = w.heap.size ∧ w.heap.size < w'.heap.size)) → c' ≤ maxLen → wpList Tryz.prog ops Q rest (a.put o.dst (.slice (some ⟨g', 0, none⟩) (n + k) c')) w') :
    wpList Tryz.prog ops Q (o :: rest) a w := by
  subst hm
  subst hk
  by_cases h0 : l.length = 0
  · obtain rfl : l = [] := List.eq_nil_of_length_eq_zero h0
    refine wpList_plain hgd fun K hK => ?_
    have hrun := run_append_zero o.type g cap m.length sc sp hR.le w
    unfold Oper.wp
    simp only [List.length_nil] at hx
    simp [execOp, ho, resolve, invoke, builtin, hs, hx, hrun, Result.andThen]
    exact hK _ _ (h g cap w (by rw [List.append_nil]; exact hR) ⟨rfl, rfl, rfl, Nat.le_refl _, fun _ _ _ => rfl⟩ (.inl rfl) hcap)
  · obtain ⟨i, hi, hzz⟩ := Option.map_eq_some_iff.1 Tryz.infoI
    simp only [Prod.mk.injEq] at hzz
    obtain ⟨hz, hsz, hby⟩ := hzz
    obtain ⟨ao, cp, e1, _, hc⟩ := hI
    simp only [Value.slice.injEq, true_and] at e1
    obtain ⟨rfl, rfl⟩ := e1
    obtain ⟨b, q, rfl, _⟩ := hc 0 (by omega)
    have hle := hR.le
    have hlt := hR.lt
    refine wpList_append_own_at w hgd s x 24 ho 0 2 i _ 1 8 Tryz.underlying24 hi hz hsz hby rfl (by omega) _ m.length (icells m) hs (hR.owns (Nat.zero_le _) hcap) ⟨b, q, none⟩ l.length sc (icells l) hx (by simp [icells]) (fun j u hj => ?_) (fun u hu => ?_) (by unfold maxLen; omega) (by omega) (Nat.zero_le _) (fun v' w' h1 h2 h3 h4 => ?_)
    · have hj' : j < l.length := by
        rcases Nat.lt_or_ge j l.length with k | k
        · exact k
        · rw [List.getElem?_eq_none (by rw [icells_length]; exact k)] at hj; cases hj
      obtain ⟨b', q', e2, hcell⟩ := hc j hj'
      simp only [Option.some.injEq, Addr.mk.injEq, and_true] at e2
      obtain ⟨rfl, rfl⟩ := e2
      have hu : u = .int .i64 (l.getD j 0) := by
        simp [icells, hj'] at hj
        rw [← hj]
        simp [hj']
      rw [hu, ← hcell]
      unfold Addr.add
      split
      · subst j; rfl
      · simp
    · obtain ⟨z, _, rfl⟩ := List.mem_map.1 hu
      rfl
    · have e3 : icells m ++ icells l = icells (m ++ l) := by simp [icells]
      have e4 : m.length + l.length = (m ++ l).length := by simp
      rw [e3, e4] at h1
      obtain ⟨g', c', rfl⟩ : ∃ g' c', v' = .slice (some ⟨g', 0, none⟩) (m ++ l).length c' := by
        rcases h1.2 with ⟨_, e⟩ | ⟨g', c', cur, e, _⟩
        · rw [← e4] at e; omega
        · exact ⟨g', c', e⟩
      have hn := (RI.of_owns h1).1
      have hw := h g' c' w' hn h2 (by
        rcases h4 with e | e
        · left; simpa [Value.ownBlock] using e
        · right
          have e' : g' = w.heap.size := by simpa [Value.ownBlock] using e
          exact ⟨e', by have := hn.lt; omega⟩) (RI.of_owns h1).2.2
      rw [e4] at hw
      exact hw

theorem empty_ri (w : World) : RI (w.alloc (.cells #[] 2)) w.heap.size [] 0 := by
  refine ⟨fun _ => undef, ?_, Nat.le_refl _, fun i hi => absurd hi (Nat.not_lt_zero i)⟩
  have q := World.rowIs_alloc w #[] 2 (fun _ => undef) (fun i hi => absurd hi (Nat.not_lt_zero i))
  exact q

end Go.Proofs.YtphkmgalgngjiaaGreat
