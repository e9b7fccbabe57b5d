
import Derived.Test.YtboiknllmnfipaaDoorZU6
import Derived.Test.YtboiknllmnfipaaDoorZU4
import Derived.Maps.AppendAt
import Derived.Test.YtboiknllmnfipaaDoorRows
import Derived.WalkKit
import Derived.Lib.ItoaNum
import Derived.Lib.Join
/- A heap with a new object is right. -/
namespace Go.Proofs.YtboiknllmnfipaaDoor
open Go.RowKit

theorem fit_more {l l' : List Nat} (h : ∀ a, a ∈ l → a ∈ l') {x : Int} (k : fitB l x = true) : fitB l' x = true := by
  unfold fitB at k ⊢
  rw [Bool.or_eq_true, Bool.and_eq_true] at k ⊢
  rcases k with k | ⟨k1, k2⟩
  · exact .inl k
  · refine .inr ⟨k1, ?_⟩
    rw [List.contains_iff_mem] at k2 ⊢
    obtain ⟨a, ha, e⟩ := List.mem_map.1 k2
    exact List.mem_map.2 ⟨a, h a ha, e⟩
theorem fit_zero (l : List Nat) : fitB l 0 = true := by
  unfold fitB
  rw [show kindW 0 = 1 from by decide]
  rfl
theorem hash_inj {W : List Int} {l : List Nat} (h : (hashesOf W l).Nodup) {a b : Nat} (ha : a ∈ l) (hb : b ∈ l) (e : gw W (a + 2) = gw W (b + 2)) : a = b := by
  unfold hashesOf at h
  rw [List.nodup_iff_pairwise_ne, List.pairwise_map, List.pairwise_iff_getElem] at h
  obtain ⟨i, hi, ei⟩ := List.getElem_of_mem ha
  obtain ⟨j, hj, ej⟩ := List.getElem_of_mem hb
  rcases Nat.lt_trichotomy i j with q | q | q
  · have := h i j hi hj q
    rw [ei, ej] at this
    exact absurd e this
  · subst q
    exact ei.symm.trans ej
  · have := h j i hj hi q
    rw [ei, ej] at this
    exact absurd e.symm this
theorem new_right {h : Hp} {k n : Int} (q : newB h k n = true) : ∃ l', RightAt (newHp h k n) l' ∧ h.eden.toNat ∈ l' ∧ (∀ a, a ∈ obC h → a ∈ l') ∧ l'.length = (obC h).length + 1 := by
  unfold newB at q
  rw [Bool.and_eq_true, Bool.and_eq_true, Bool.and_eq_true, Bool.and_eq_true] at q
  obtain ⟨hk, q1, q2, q3, q4⟩ := q
  have R := c_right hk
  have k1 := of_decide_eq_true q1
  have k2 := of_decide_eq_true q2
  have k4 := of_decide_eq_true q4
  have k3 : ¬ h.hash = 1000000000 := by simpa using q3
  have ok := ok_len hk
  have nz := fun i => ok_nought hk i
  obtain ⟨m, hm⟩ : ∃ m : Nat, h.eden = m := ⟨h.eden.toNat, by omega⟩
  obtain ⟨p, z, hh, h1, h2, r1, r2, f, kp⟩ := id R
  have so := ((right_iff R.1.1).1 R).1.sorted
  have G : ∀ j, gw (newHp h k n).words j = if j = m + 2 then h.hash else if j = m + 1 then k else if j = m then n else gw h.words j := fun j => by
    show gw (((h.words.set h.eden.toNat n).set (h.eden.toNat + 1) k).set (h.eden.toNat + 2) h.hash) j = _
    rw [hm, Int.toNat_natCast, gw_set _ _ _ _ (by simp; omega), gw_set _ _ _ _ (by simp; omega), gw_set _ _ _ _ (by omega)]
  have O : ∀ j, (j < m ∨ m + 3 ≤ j) → gw (newHp h k n).words j = gw h.words j := fun j hj => by
    rw [G, if_neg (by omega), if_neg (by omega), if_neg (by omega)]
  obtain ⟨_, p0, p1, p2, n0, n1, n2, g0, g1, g2, el⟩ := p
  rw [hm, Int.toNat_natCast] at g1
  have hs : 2600 ≤ survB h.flip := by unfold survB; split <;> omega
  have G0 := goes_same (V := (newHp h k n).words) g0 (fun a ha j hj => O _ (.inl (by have := goes_in g0 ha; omega)))
  have G1 := goes_same (V := (newHp h k n).words) g1 (fun a ha j hj => O _ (.inl (by have := goes_in g1 ha; omega)))
  have G2 := goes_same (V := (newHp h k n).words) g2 (fun a ha j hj => O _ (.inr (by have := goes_in g2 ha; omega)))
  have em : it (newHp h k n).words 2000 n1 = m := G1.1.1
  have gm : gw (newHp h k n).words m = n := by rw [G, if_neg (by omega), if_neg (by omega), if_pos rfl]
  have nxm : nx (newHp h k n).words m = m + 4 + n.toNat := by unfold nx; rw [gm]
  have g3 : gw (newHp h k n).words (m + 3) = 0 := by rw [O _ (.inr (by omega))]; exact nz (m + 3) (by omega) (by omega)
  have E1 : its (newHp h k n).words 2000 (n1 + 1) = its h.words 2000 n1 ++ [m] := by rw [its_succ, em, G1.2]
  have P' : PartsAt (newHp h k n) (its h.words 0 n0 ++ (its h.words 2000 n1 ++ [m]) ++ its h.words (survB h.flip) n2) := by
    refine ⟨by show (((h.words.set _ _).set _ _).set _ _).length = 3200; simp; exact ok.1, p0, ⟨by show 2000 ≤ h.eden + 4 + n; omega, by show h.eden + 4 + n ≤ 2600; omega⟩, p2, n0, n1 + 1, n2, G0.1, ?_, G2.1, ?_⟩
    · show Goes (newHp h k n).words 2000 (h.eden + 4 + n).toNat (n1 + 1)
      refine ⟨?_, fun i hi => ?_⟩
      · show nx _ (it _ 2000 n1) = _
        rw [em, nxm]
        omega
      · rcases Nat.lt_or_ge i n1 with c | c
        · exact G1.1.2 i c
        · obtain rfl : i = n1 := by omega
          rw [em]
          unfold headB
          rw [gm, g3, G, if_neg (by omega), if_pos rfl]
          simp
          omega
    · show _ = its (newHp h k n).words 0 n0 ++ its (newHp h k n).words 2000 (n1 + 1) ++ its (newHp h k n).words (survB h.flip) n2
      rw [G0.2, E1, G2.2]
  have mem : ∀ a, a ∈ its h.words 0 n0 ++ (its h.words 2000 n1 ++ [m]) ++ its h.words (survB h.flip) n2 ↔ a ∈ obC h ∨ a = m := fun a => by
    rw [el]
    simp only [List.mem_append, List.mem_singleton]
    constructor
    · rintro ((q | q | q) | q)
      · exact .inl (.inl (.inl q))
      · exact .inl (.inl (.inr q))
      · exact .inr q
      · exact .inl (.inr q)
    · rintro (((q | q) | q) | q)
      · exact .inl (.inl q)
      · exact .inl (.inr (.inl q))
      · exact .inr q
      · exact .inl (.inr (.inr q))
  have out : ∀ a, a ∈ obC h → nx h.words a ≤ m ∨ m + 3 ≤ a := fun a ha => by
    rw [el, List.mem_append, List.mem_append] at ha
    rcases ha with (ha | ha) | ha
    · have := goes_in g0 ha; omega
    · have := goes_in g1 ha; omega
    · have := goes_in g2 ha; omega
  have cell : ∀ a, a ∈ obC h → ∀ j, a ≤ j → j < nx h.words a → gw (newHp h k n).words j = gw h.words j := fun a ha j j1 j2 => O j (by have := out a ha; omega)
  have nxs : ∀ a, a ∈ obC h → nx (newHp h k n).words a = nx h.words a := fun a ha => by
    have e : nx h.words a = a + 4 + (gw h.words a).toNat := rfl
    unfold nx
    rw [cell a ha a (Nat.le_refl _) (by omega)]
  have hsh : ∀ a, a ∈ obC h → gw (newHp h k n).words (a + 2) = gw h.words (a + 2) := fun a ha => by
    have e : nx h.words a = a + 4 + (gw h.words a).toNat := rfl
    exact cell a ha _ (by omega) (by omega)
  have hsm : gw (newHp h k n).words (m + 2) = h.hash := by rw [G, if_pos rfl]
  have Z' : noughts (newHp h k n) := fun i hi hn => by
    have hn' : ¬ inUse h i := fun u => hn (by
      unfold inUse at u ⊢
      show (i : Int) < h.old ∨ (2000 ≤ i ∧ (i : Int) < h.eden + 4 + n) ∨ (survB h.flip ≤ i ∧ (i : Int) < h.surv)
      omega)
    have hm' : ¬ (m ≤ i ∧ i < m + 3) := fun u => hn (by
      unfold inUse
      show (i : Int) < h.old ∨ (2000 ≤ i ∧ (i : Int) < h.eden + 4 + n) ∨ (survB h.flip ≤ i ∧ (i : Int) < h.surv)
      omega)
    rw [O i (by omega)]
    exact z i hi hn'
  have H1 : ∀ a, a ∈ its h.words 0 n0 ++ (its h.words 2000 n1 ++ [m]) ++ its h.words (survB h.flip) n2 → 1 ≤ gw (newHp h k n).words (a + 2) := fun a ha => by
    rcases (mem a).1 ha with q | rfl
    · rw [hsh a q]; exact h1 a q
    · rw [hsm]; exact hh.1
  have so' := ((laid_iff P'.1).2 ⟨P', Z', H1⟩).sorted
  refine ⟨_, ⟨P', Z', ⟨by show 1 ≤ h.hash + 1; omega, by show h.hash + 1 ≤ 1000000000; omega⟩, H1, ⟨fun a ha => ?_, ?_⟩, r1, fun x hx => fit_more (fun a ha => (mem a).2 (.inl ha)) (r2 x hx), fun a ha => ?_, ?_⟩, by rw [hm, Int.toNat_natCast]; exact (mem m).2 (.inr rfl), fun a ha => (mem a).2 (.inl ha), ?_⟩
  · show gw (newHp h k n).words (a + 2) < h.hash + 1
    rcases (mem a).1 ha with q | rfl
    · rw [hsh a q]; have := h2.1 a q; omega
    · rw [hsm]; omega
  · unfold hashesOf
    rw [List.nodup_iff_pairwise_ne, List.pairwise_map]
    refine List.Pairwise.imp_of_mem (fun {a b} ha hb lt e => ?_) so'
    rcases (mem a).1 ha with qa | rfl <;> rcases (mem b).1 hb with qb | rfl
    · rw [hsh a qa, hsh b qb] at e
      have := hash_inj h2.2 qa qb e
      omega
    · rw [hsh a qa, hsm] at e
      have := h2.1 a qa
      omega
    · rw [hsh b qb, hsm] at e
      have := h2.1 b qb
      omega
    · omega
  · intro j j1 j2
    rcases (mem a).1 ha with q | rfl
    · rw [nxs a q] at j2
      rw [cell a q j (by omega) j2]
      exact fit_more (fun b hb => (mem b).2 (.inl hb)) (f a q j j1 j2)
    · rw [nxm] at j2
      rw [O j (.inr (by omega)), show gw h.words j = 0 from nz j (by omega) (by omega)]
      exact fit_zero _
  · show keptOf (newHp h k n).words _ = h.kept
    rw [← kp]
    have same : ∀ l : List Nat, (∀ a, a ∈ l → a ∈ obC h) → l.filter (fun a => decide (a < 2000) && hasY (newHp h k n).words a) = l.filter (fun a => decide (a < 2000) && hasY h.words a) := fun l hl => by
      refine List.filter_congr fun a ha => ?_
      have qa := hl a ha
      have e : hasY (newHp h k n).words a = hasY h.words a := by
        unfold hasY flds
        have e0 : nx h.words a = a + 4 + (gw h.words a).toNat := rfl
        rw [cell a qa a (Nat.le_refl _) (by omega)]
        congr 1
        refine List.map_congr_left fun i hi => ?_
        rw [List.mem_range] at hi
        exact cell a qa _ (by omega) (by omega)
      rw [e]
    unfold keptOf
    rw [el]
    simp only [List.filter_append]
    rw [same (its h.words 0 n0) (fun a ha => by rw [el]; simp [ha]), same (its h.words 2000 n1) (fun a ha => by rw [el]; simp [ha]), same (its h.words (survB h.flip) n2) (fun a ha => by rw [el]; simp [ha])]
    have : [m].filter (fun a => decide (a < 2000) && hasY (newHp h k n).words a) = [] := by simp; omega
    rw [this, List.append_nil]
  · rw [el]
    simp only [List.length_append, List.length_singleton]
    omega

/-- A new object's address can be a root. -/
theorem add_new {h : Hp} {k n : Int} (q : newB h k n = true) (hr : h.roots.length < 20) : addB (newC h k n) (newW' h k n) = true := by
  obtain ⟨l', R, hm, -, -⟩ := new_right q
  have e1 : newC h k n = newHp h k n := by unfold newC; rw [if_pos q]
  have e2 : newW' h k n = 2 * h.eden + 1 := by unfold newW'; rw [if_pos q]
  obtain ⟨ok, ob⟩ := c_yes R
  rw [e1, e2]
  unfold addB
  rw [ok, ob]
  have q' := q
  unfold newB at q'
  rw [Bool.and_eq_true] at q'
  have o := ok_len q'.1
  have hf : fitB l' (2 * h.eden + 1) = true := by
    have k2 : kindW (2 * h.eden + 1) = 2 := by
      unfold kindW adrB
      rw [if_pos (by omega), if_pos (by simp; omega)]
    unfold fitB
    rw [k2]
    have : (ints l').contains ((2 * h.eden + 1) / 2) = true := by
      rw [List.contains_iff_mem]
      exact List.mem_map.2 ⟨h.eden.toNat, hm, by omega⟩
    rw [this]
    rfl
  rw [hf]
  have : ¬ (newHp h k n).roots.length = 20 := by show ¬ h.roots.length = 20; omega
  simp [this]

end Go.Proofs.YtboiknllmnfipaaDoor

/- Theory of FnMade: what a heap with a new object is. -/
namespace Go.Proofs.YtboiknllmnfipaaDoor
open Go.RowKit

theorem sh_small {h : Hp} (k : okC h = true) : (shC h).roots.length ≤ 20 ∧ (shC h).nodes.length ≤ 3200 ∧ ∀ n, n ∈ (shC h).nodes → n.fl.length ≤ 1000 := by
  have R := c_right k
  have e : shC h = shP h := by unfold shC; rw [k]; rfl
  rw [e]
  refine ⟨?_, ?_, fun n hn => ?_⟩
  · show (h.roots.map _).length ≤ 20
    rw [List.length_map]
    exact R.2.2.2.2.2.1
  · show ((ordF h.words h.roots).map _).length ≤ 3200
    rw [List.length_map]
    exact ord_len R
  · obtain ⟨a, ha, rfl⟩ := List.mem_map.1 (show n ∈ (ordF h.words h.roots).map _ from hn)
    show ((flds h.words a).map _).length ≤ 1000
    rw [List.length_map, flds_length]
    have := size_of (R.1.obj (ord_sub R ha)).2.2
    omega
end Go.Proofs.YtboiknllmnfipaaDoor

/- slices.Grow and slices.Concat at numbers. -/
namespace Go.Proofs.YtboiknllmnfipaaDoor
open Go.RowKit

theorem append_zeros (n : Nat) (h0 : 0 < n) (hn : n ≤ 1000000000) (ty : TypeId) (w : World) :
    (Builtin.append_ #[24, 3] ty #[.slice none 0 0, .int .i64 (n : Int)]).run Tryd.prog w = .ok (.slice (some ⟨w.heap.size, 0, none⟩) n (grownCap w n 0 2)) (w.drew.alloc (.cells (Builtin.zeroCells #[.int .i64 0] n ++ Builtin.zeroCells #[.int .i64 0] (grownCap w n 0 2 - n)) 2)) := by
  obtain ⟨i, hi, hzz⟩ := Option.map_eq_some_iff.1 Tryd.infoI
  simp only [Prod.mk.injEq] at hzz
  obtain ⟨hz, hsz, hby⟩ := hzz
  have h1 : ¬ n = 0 := by omega
  have h63' : ¬ (9223372036854775807 < (n : Int)) := by omega
  have h48' : ¬ (281474976710656 < Builtin.nextslicecap n 0 * 8) := by rw [nextslicecap_zero h0]; omega
  have wl : IntKind.i64.wrap (n : Int) = n := by rw [IntKind.wrap_i64]; omega
  have n1 : ¬ (n : Int) < 0 := by omega
  have n2 : ¬ (281474976710656 < (n : Int) * 8) := by omega
  simp [Builtin.append_, run_underlying Tryd.underlying24, run_underlying Tryd.underlying3, asInt, asIntOf, sizeOf, typeInfo, zeroValue, hi, hz, hsz, hby, h1, h63', h48', wl, n1, n2, Question.forced, run_firstCells_none, newRow, grownCap, Value.cells]

section
variable {ops : Array Oper} {rest : List Oper} {o : Oper} {a : Act} {Q : Exit → Act → World → Prop}
theorem grow_at (w : World) (hgd : o.guard = none) (s x : Operand) (ho : o.op = .call { callee := .builtin .append, args := #[s, x], argTypes := #[24, 3] }) (n : Nat) (hs : a.eval s = .slice none 0 0) (hx : a.eval x = .int .i64 (n : Int)) (h0 : 0 < n) (hn : n ≤ 1000000000)
    (h : ∀ cap w', n ≤ cap → w'.ownsRow w.heap.size 2 1 (.slice (some ⟨w.heap.size, 0, none⟩) 0 cap) 0 [] → Below w.heap.size w w' → wpList Tryd.prog ops Q rest (a.put o.dst (.slice (some ⟨w.heap.size, 0, none⟩) n cap)) w') : wpList Tryd.prog ops Q (o :: rest) a w := by
  refine wpList_plain hgd fun K hK => ?_
  unfold Oper.wp execOp
  simp only [ho, resolve, invoke, builtin, Sem.run_bind, Sem.run_pure, Result.andThen_ok, List.map_toArray, List.map_cons, List.map_nil, hs, hx, append_zeros n h0 hn]
  have hge := grownCap_ge w n 0 2
  refine hK _ _ (h (grownCap w n 0 2) _ hge ?_ ((Below.refl _ _).drew.alloc (by exact Nat.le_refl _) _))
  refine World.ownsRow_made w.drew _ (grownCap w n 0 2) (Nat.le_refl _) (grownCap_le_maxLen w n 0 2 (by unfold maxLen; omega)) ?_
  simp only [Array.size_append, size_zeroCells]
  simp
  omega
end

theorem grow_any (n : Nat) (h0 : 0 < n) (hn : n ≤ 1000000000) (w : World) :
    Calls Tryd.prog 47 #[.slice none 0 0, .int .i64 (n : Int)] w fun e w' => (∃ cap, e = .returned (.slice (some ⟨w.heap.size, 0, none⟩) 0 cap) ∧ w'.ownsRow w.heap.size 2 1 (.slice (some ⟨w.heap.size, 0, none⟩) 0 cap) 0 []) ∧ Below w.heap.size w w' := by
  have g : (n : Int) > 0 := by omega
  have n0 : ¬ (n : Int) < 0 := by omega
  go_enter Tryd.func47, Tryd.ntmps47
  go_wp2_with (at_builtin; refine grow_at _ rfl _ _ rfl n rfl rfl h0 hn ?_; intro cap w' hcap ho hb)
  go_ret
  exact ⟨⟨cap, rfl, ho⟩, hb⟩

end Go.Proofs.YtboiknllmnfipaaDoor

/- Numerals with blanks between are unlike for unlike numbers. -/
namespace Go.Proofs.YtboiknllmnfipaaDoor
open Go.RowKit

def decVal (l : List UInt8) : Nat := l.foldl (fun a c => a * 10 + (c.toNat - 48)) 0
theorem decVal_snoc (l : List UInt8) (c : UInt8) : decVal (l ++ [c]) = decVal l * 10 + (c.toNat - 48) := by simp [decVal]
theorem digit_val {d : Nat} (h : d < 10) : (UInt8.ofNat (48 + d)).toNat = 48 + d := by
  rw [UInt8.toNat_ofNat']
  exact Nat.mod_eq_of_lt (by omega)
theorem decVal_digits (u : Nat) : decVal (Lib.decDigits u) = u := by
  induction u using Nat.strongRecOn with
  | _ u ih =>
    rw [Lib.decDigits]
    split
    · rename_i h
      simp only [decVal, List.foldl_cons, List.foldl_nil]
      rw [digit_val h]
      omega
    · rename_i h
      rw [decVal_snoc, ih (u / 10) (by omega), digit_val (by omega)]
      omega
theorem dec_range (u : Nat) : ∀ c, c ∈ Lib.decDigits u → 48 ≤ c.toNat ∧ c.toNat ≤ 57 := by
  induction u using Nat.strongRecOn with
  | _ u ih =>
    intro c hc
    rw [Lib.decDigits] at hc
    split at hc
    · rename_i h
      rw [List.mem_singleton] at hc
      subst hc
      rw [digit_val h]
      omega
    · rename_i h
      rw [List.mem_append, List.mem_singleton] at hc
      rcases hc with hc | rfl
      · exact ih (u / 10) (by omega) c hc
      · rw [digit_val (by omega)]
        omega
theorem dec_inj {u v : Nat} (h : Lib.decDigits u = Lib.decDigits v) : u = v := by
  have := congrArg decVal h
  rwa [decVal_digits, decVal_digits] at this
theorem itoa_inj {m n : Int} (h : Lib.itoa m = Lib.itoa n) : m = n := by
  unfold Lib.itoa at h
  split at h <;> split at h
  · simp only [List.cons.injEq, true_and] at h
    have := dec_inj h
    omega
  · exfalso
    have := dec_range n.toNat 45 (by rw [← h]; simp)
    exact absurd this.1 (by decide)
  · exfalso
    have := dec_range m.toNat 45 (by rw [h]; simp)
    exact absurd this.1 (by decide)
  · have := dec_inj h
    omega
theorem itoa_blank (m : Int) : (32 : UInt8) ∉ Lib.itoa m := by
  intro h
  unfold Lib.itoa at h
  split at h
  · rw [List.mem_cons] at h
    rcases h with h | h
    · exact absurd h (by decide)
    · exact absurd (dec_range _ _ h).1 (by decide)
  · exact absurd (dec_range _ _ h).1 (by decide)
theorem cut_blank : ∀ {x y t u : List UInt8}, (32 : UInt8) ∉ x → (32 : UInt8) ∉ y → (t = [] ∨ t.head? = some 32) → (u = [] ∨ u.head? = some 32) → x ++ t = y ++ u → x = y ∧ t = u
  | [], [], _, _, _, _, _, _, h => ⟨rfl, h⟩
  | [], c :: y, t, u, _, hy, ht, _, h => by
    exfalso
    rw [List.nil_append] at h
    subst h
    rcases ht with ht | ht
    · simp at ht
    · simp at ht
      exact hy (by simp [ht])
  | c :: x, [], t, u, hx, _, _, hu, h => by
    exfalso
    rw [List.nil_append] at h
    subst h
    rcases hu with hu | hu
    · simp at hu
    · simp at hu
      exact hx (by simp [hu])
  | c :: x, d :: y, t, u, hx, hy, ht, hu, h => by
    simp only [List.cons_append, List.cons.injEq] at h
    obtain ⟨rfl, h⟩ := h
    obtain ⟨e1, e2⟩ := cut_blank (fun q => hx (List.mem_cons_of_mem _ q)) (fun q => hy (List.mem_cons_of_mem _ q)) ht hu h
    exact ⟨by rw [e1], e2⟩
theorem tail_head (r : List (List UInt8)) : Lib.joinTail [32] r = [] ∨ (Lib.joinTail [32] r).head? = some 32 := by
  cases r with
  | nil => exact .inl rfl
  | cons y r => exact .inr (by simp [Lib.joinTail])
theorem tail_inj : ∀ {r s : List Int}, Lib.joinTail [32] (r.map Lib.itoa) = Lib.joinTail [32] (s.map Lib.itoa) → r = s
  | [], [], _ => rfl
  | [], y :: s, h => by simp [Lib.joinTail] at h
  | x :: r, [], h => by simp [Lib.joinTail] at h
  | x :: r, y :: s, h => by
    have e : ∀ (z : Int) (q : List Int), Lib.joinTail [32] ((z :: q).map Lib.itoa) = 32 :: (Lib.itoa z ++ Lib.joinTail [32] (q.map Lib.itoa)) := fun z q => by simp [Lib.joinTail]
    rw [e, e, List.cons.injEq] at h
    obtain ⟨h1, h2⟩ := cut_blank (itoa_blank x) (itoa_blank y) (tail_head _) (tail_head _) h.2
    rw [itoa_inj h1, tail_inj h2]
/-- Texts of numbers with blanks between are unlike for unlike numbers. -/
theorem join_inj {x y : Int} {r s : List Int} (h : Lib.join ((x :: r).map Lib.itoa) [32] = Lib.join ((y :: s).map Lib.itoa) [32]) : x :: r = y :: s := by
  rw [List.map_cons, List.map_cons, Lib.join_cons, Lib.join_cons] at h
  obtain ⟨h1, h2⟩ := cut_blank (itoa_blank x) (itoa_blank y) (tail_head _) (tail_head _) h
  rw [itoa_inj h1, tail_inj h2]
theorem tail_len (r : List Int) (hr : ∀ z, z ∈ r → (Lib.itoa z).length ≤ 21) : (Lib.joinTail [32] (r.map Lib.itoa)).length ≤ 22 * r.length := by
  induction r with
  | nil => simp [Lib.joinTail]
  | cons z r ih =>
    have := ih (fun q hq => hr q (by simp [hq]))
    have h2 := hr z (by simp)
    have e : Lib.joinTail [32] ((z :: r).map Lib.itoa) = 32 :: (Lib.itoa z ++ Lib.joinTail [32] (r.map Lib.itoa)) := by simp [Lib.joinTail]
    rw [e, List.length_cons, List.length_append, List.length_cons]
    omega
theorem join_len (r : List Int) (hr : ∀ z, z ∈ r → (Lib.itoa z).length ≤ 21) : (Lib.join (r.map Lib.itoa) [32]).length ≤ 22 * r.length := by
  cases r with
  | nil => simp [Lib.join_nil]
  | cons z r =>
    have h1 := tail_len r (fun q hq => hr q (by simp [hq]))
    have h2 := hr z (by simp)
    rw [List.map_cons, Lib.join_cons, List.length_append, List.length_cons]
    omega

end Go.Proofs.YtboiknllmnfipaaDoor
