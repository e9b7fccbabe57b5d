import Derived.Test.YtnppoeifhmkphaaGreatDoorZHBase
import Derived.Test.YtnppoeifhmkphaaGreatDoorZHpP
/- l5Surv and l5Walk of the model. -/
namespace Go.Proofs.YtnppoeifhmkphaaGreatDoor
open Go.RowKit

/-- Words at a place of a row. -/
def WS (w : World) (b o : Nat) (W : List Int) : Prop := ∀ i, i < W.length → w.cell? ⟨b, o + i, none⟩ = some (.int .i64 (gw W i))
theorem WS.later {w w' : World} {b o : Nat} {W : List Int} (h : WS w b o W) (hb : Below w.heap.size w w') : WS w' b o W := fun i hi => cell_later hb (h i hi)
theorem IR.ws {w : World} {v : Value} {W : List Int} (h : IR w v W) (hp : 0 < W.length) : ∃ b o cap, v = .slice (some ⟨b, o, none⟩) W.length cap ∧ W.length ≤ cap ∧ WS w b o W := by
  obtain ⟨ao, cap, rfl, hle, h⟩ := h
  obtain ⟨b, o, rfl, _⟩ := h 0 hp
  refine ⟨b, o, cap, rfl, hle, fun i hi => ?_⟩
  obtain ⟨b', o', e, hc⟩ := h i hi
  simp only [Option.some.injEq, Addr.mk.injEq] at e
  obtain ⟨rfl, rfl, _⟩ := e
  exact hc


theorem headB_no1 {W : List Int} {a : Nat} (h : ¬ (0 ≤ gw W a ∧ gw W a ≤ 60)) : headB W a = false := by unfold headB; rw [decide_eq_false h]; rfl
theorem headB_no2 {W : List Int} {a : Nat} (h : ¬ (0 ≤ gw W (a + 1) ∧ gw W (a + 1) ≤ 99)) : headB W a = false := by unfold headB; rw [decide_eq_false h]; simp
theorem headB_no3 {W : List Int} {a : Nat} (h : ¬ (0 ≤ gw W (a + 3) ∧ gw W (a + 3) ≤ 15)) : headB W a = false := by unfold headB; rw [decide_eq_false h]; simp
theorem headB_yes {W : List Int} {a : Nat} (h1 : 0 ≤ gw W a ∧ gw W a ≤ 60) (h2 : 0 ≤ gw W (a + 1) ∧ gw W (a + 1) ≤ 99) (h3 : 0 ≤ gw W (a + 3) ∧ gw W (a + 3) ≤ 15) : headB W a = true := by
  unfold headB; rw [decide_eq_true h1, decide_eq_true h2, decide_eq_true h3]; rfl

/-- What l5Walk answers: some objects, and whether they are all. -/
def WalkOut (W : List Int) (f t B : Nat) (x : Ending) (w' : World) : Prop :=
  ∃ n g cap ok, n ≤ 800 ∧ x = .returned (.tuple #[.slice (some ⟨g, 0, none⟩) n cap, .bool ok]) ∧ w'.ownsRow B 2 1 (.slice (some ⟨g, 0, none⟩) n cap) n (icells (ints (its W f n))) ∧ (ok = true → Goes W f t n) ∧ (ok = false → ∀ m, ¬ Goes W f t m)
theorem own_some {w : World} {B e size n : Nat} {v : Value} {xs : List Value} (h : w.ownsRow B e size v n xs) (hn : v ≠ .slice none 0 0) : ∃ g cap, v = .slice (some ⟨g, 0, none⟩) n cap := by
  rcases h.2 with ⟨e0, _⟩ | ⟨g, cap, cur, rfl, _⟩
  · exact absurd e0 hn
  · exact ⟨g, cap, rfl⟩


end Go.Proofs.YtnppoeifhmkphaaGreatDoor

/- l5Parts and l5All of the model. -/
namespace Go.Proofs.YtnppoeifhmkphaaGreatDoor
open Go.RowKit

/-- A heap's cells. -/
def hpC (v1 v2 v3 : Value) (h : Hp) : Array Value := #[v1, v2, .int .i64 h.old, .int .i64 h.eden, .int .i64 h.surv, .bool h.flip, .int .i64 h.hash, v3]
/-- A heap's value reads as this heap. -/
def HR (w : World) (v : Value) (h : Hp) : Prop :=
  ∃ v1 v2 v3, v = .agg #[v1, v2, .int .i64 h.old, .int .i64 h.eden, .int .i64 h.surv, .bool h.flip, .int .i64 h.hash, v3] ∧ IR w v1 h.words ∧ IR w v2 h.roots ∧ IR w v3 h.kept
theorem HR.later {w w' : World} {v : Value} {h : Hp} (k : HR w v h) (hb : Below w.heap.size w w') : HR w' v h := by
  obtain ⟨v1, v2, v3, e, a, b, c⟩ := k
  exact ⟨v1, v2, v3, e, a.later hb, b.later hb, c.later hb⟩
/-- A heap's box. -/
structure Bx (w : World) (N : Nat) (v1 v2 v3 : Value) (h : Hp) : Prop where
  c0 : w.cell? ⟨N, 0, none⟩ = some v1
  c1 : w.cell? ⟨N, 1, none⟩ = some v2
  c2 : w.cell? ⟨N, 2, none⟩ = some (.int .i64 h.old)
  c3 : w.cell? ⟨N, 3, none⟩ = some (.int .i64 h.eden)
  c4 : w.cell? ⟨N, 4, none⟩ = some (.int .i64 h.surv)
  c5 : w.cell? ⟨N, 5, none⟩ = some (.bool h.flip)
  c6 : w.cell? ⟨N, 6, none⟩ = some (.int .i64 h.hash)
  c7 : w.cell? ⟨N, 7, none⟩ = some v3
theorem Bx.new (w : World) (v1 v2 v3 : Value) (h : Hp) (t : TypeId) : Bx (w.alloc (.cells #[v1, v2, .int .i64 h.old, .int .i64 h.eden, .int .i64 h.surv, .bool h.flip, .int .i64 h.hash, v3] t)) w.heap.size v1 v2 v3 h := by
  constructor <;> exact cell_new w _ t _ rfl _ _ rfl
theorem Bx.later {w w' : World} {N : Nat} {v1 v2 v3 : Value} {h : Hp} (k : Bx w N v1 v2 v3 h) (hb : Below w.heap.size w w') : Bx w' N v1 v2 v3 h :=
  ⟨cell_later hb k.c0, cell_later hb k.c1, cell_later hb k.c2, cell_later hb k.c3, cell_later hb k.c4, cell_later hb k.c5, cell_later hb k.c6, cell_later hb k.c7⟩

theorem app_ints {ops : Array Oper} {rest : List Oper} {o : Oper} {a : Act} {Q : Exit → Act → World → Prop} (w : World) (hgd : o.guard = none) (s x : Operand)
    (ho : o.op = .call { callee := .builtin .append, args := #[s, x], argTypes := #[22, 22] }) (B : Nat) (v : Value) (n : Nat) (xs : List Value) (hs : a.eval s = v) (hown : w.ownsRow B 2 1 v n xs)
    (g c m : Nat) (l : List Int) (hx : a.eval x = .slice (some ⟨g, 0, none⟩) m c) (hl : l.length = m) (hc : IR w (.slice (some ⟨g, 0, none⟩) m c) l) (hn : n + m ≤ 1000000000000) (hB : B ≤ w.heap.size)
    (h : ∀ v' w', w'.ownsRow B 2 1 v' (n + m) (xs ++ icells l) → w.grownBy w' v.ownBlock → (v ≠ .slice none 0 0 → v' ≠ .slice none 0 0) → wpList Tryz.prog ops Q rest (a.put o.dst v') w') : wpList Tryz.prog ops Q (o :: rest) a w := by
  obtain ⟨i, hi, hzz⟩ := Option.map_eq_some_iff.1 Tryz.infoI
  simp only [Prod.mk.injEq] at hzz
  obtain ⟨hz, hsz, hby⟩ := hzz
  refine wpList_append_own w hgd s x 22 ho B 2 i _ 1 8 Tryz.underlying22 hi hz hsz hby rfl (by omega) v n xs hs hown ⟨g, 0, none⟩ m c (icells l) hx (by simp [icells, hl]) (fun j u hj => ?_) (fun u hu => ?_) (by unfold maxLen; omega) (by omega) hB (fun v' w' h1 h2 h3 => h v' w' h1 h2 (fun e k => e (h3.1 k).1))
  · obtain ⟨ao, cap, e, _, hcc⟩ := hc
    have hj' : j < l.length := by
      rcases Nat.lt_or_ge j l.length with k | k
      · exact k
      · rw [List.getElem?_eq_none (by simpa [icells] using k)] at hj; cases hj
    obtain ⟨b, o, e2, hcell⟩ := hcc j hj'
    simp only [Value.slice.injEq] at e
    rw [← e.1] at e2
    simp only [Option.some.injEq, Addr.mk.injEq] at e2
    obtain ⟨rfl, rfl, _⟩ := e2
    have hu : u = .int .i64 (l.getD j 0) := by
      simp [icells, hj'] at hj
      rw [← hj]
      simp [hj']
    rw [hu, ← hcell]
    unfold Addr.add
    split
    · subst j; rfl
    · simp
  · obtain ⟨z, _, rfl⟩ := List.mem_map.1 hu
    rfl

theorem IR_of_owns' {w : World} {B n : Nat} {v : Value} {l : List Nat} (h : w.ownsRow B 2 1 v n (icells (ints l))) : IR w v (ints l) := by
  have e : (ints l).length = n := by have := h.1; simpa [icells] using this
  subst e
  exact IR_of_owns h

theorem own_mono {w : World} {B B' e size n : Nat} {v : Value} {xs : List Value} (h : w.ownsRow B e size v n xs) (hB : B' ≤ B) : w.ownsRow B' e size v n xs := by
  obtain ⟨hl, h⟩ := h
  refine ⟨hl, ?_⟩
  rcases h with h | ⟨g, cap, cur, hv, hb, hh⟩
  · exact .inl h
  · exact .inr ⟨g, cap, cur, hv, Nat.le_trans hB hb, hh⟩
theorem own_at {w : World} {B e size n g cap : Nat} {xs : List Value} (h : w.ownsRow B e size (.slice (some ⟨g, 0, none⟩) n cap) n xs) : B ≤ g ∧ g < w.heap.size := by
  rcases h.2 with ⟨e0, _⟩ | ⟨g', cap', cur, e0, hb, hg, _⟩
  · cases e0
  · injection e0 with e1
    injection e1 with e1
    injection e1 with e1
    subst e1
    refine ⟨hb, ?_⟩
    rcases Nat.lt_or_ge g w.heap.size with k | k
    · exact k
    · rw [Array.getElem?_eq_none k] at hg; cases hg

/-- What l5Parts answers. -/
def PartsOut (h : Hp) (B : Nat) (x : Ending) (w' : World) : Prop :=
  ∃ l g cap ok, l.length ≤ 3200 ∧ x = .returned (.tuple #[.slice (some ⟨g, 0, none⟩) l.length cap, .bool ok]) ∧ w'.ownsRow B 2 1 (.slice (some ⟨g, 0, none⟩) l.length cap) l.length (icells (ints l)) ∧ (ok = true → PartsAt h l) ∧ (ok = false → ∀ m, ¬ PartsAt h m)


end Go.Proofs.YtnppoeifhmkphaaGreatDoor

/- l5All, l5Fits, l5Young, l5Same and l5Kept of the model. -/
namespace Go.Proofs.YtnppoeifhmkphaaGreatDoor
open Go.RowKit

def fitS (f : Nat → Bool) (x : Int) : Bool := wokB x && (decide (x % 2 = 0) || f (x / 2).toNat)
def youngS (x : Int) : Bool := !(x.tmod 2 == 0) && decide (2000 ≤ x.tdiv 2)
def hasYS (W : List Int) (a : Nat) : Bool := (flds W a).any youngS
def keptS (W : List Int) (l : List Nat) : List Nat := l.filter fun a => decide (a < 2000) && hasYS W a

theorem kind_even {x : Int} (h : x % 2 = 0) : kindW x = if numB (x / 2) = true then 1 else 0 := by
  unfold kindW; rw [if_neg (by omega)]
theorem kind_odd {x : Int} (h : ¬ x % 2 = 0) : kindW x = if adrB (x / 2) = true then 2 else 0 := by
  unfold kindW; rw [if_pos (by omega)]
theorem fit_eq (l : List Nat) (x : Int) : fitS (fun i => decide (i ∈ l)) x = fitB l x := by
  unfold fitS fitB wokB
  by_cases h : x % 2 = 0
  · rw [kind_even h, decide_eq_true h]
    split <;> simp
  · rw [kind_odd h, decide_eq_false h]
    split
    · rename_i ha
      have hx : 0 ≤ x / 2 := (of_decide_eq_true ha).1
      obtain ⟨m, hm⟩ := Int.eq_ofNat_of_zero_le hx
      rw [hm]
      simp [ints]
      exact ⟨fun h => ⟨m, h, rfl⟩, fun ⟨a, h, e⟩ => by obtain rfl : a = m := by omega
                                                       exact h⟩
    · simp
theorem young_eq {x : Int} (h : ¬ kindW x = 0) : youngS x = youngB x := by
  unfold youngS youngB
  rw [tmod_two]
  by_cases e : x % 2 = 0
  · rw [decide_eq_true e, kind_even e]
    split <;> simp
  · rw [kind_odd e] at h
    split at h
    · rename_i ha
      have hx := of_decide_eq_true ha
      rw [decide_eq_false e, kind_odd e, if_pos ha, Int.tdiv_eq_ediv_of_nonneg (by omega)]
      simp
    · exact absurd rfl h
theorem fit_kind {l : List Nat} {x : Int} (h : fitB l x = true) : ¬ kindW x = 0 := by
  intro e
  unfold fitB at h
  rw [e] at h
  simp at h
theorem kept_eq {W : List Int} {l : List Nat} (h : ∀ a, a ∈ l → fieldsFit W l a) : ints (keptS W l) = keptOf W l := by
  unfold keptS keptOf
  congr 1
  apply List.filter_congr
  intro a ha
  congr 1
  unfold hasYS hasY
  have hf := (fld_mem (W := W) (a := a) (p := fitB l)).2 (h a ha)
  revert hf
  generalize flds W a = fs
  intro hf
  induction fs with
  | nil => rfl
  | cons x r ih =>
    simp only [List.any_cons]
    rw [young_eq (fit_kind (hf x (by simp))), ih (fun y hy => hf y (by simp [hy]))]



theorem half_le {x : Int} (h : ¬ kindW x = 0) : -4611686018427387904 ≤ x.tdiv 2 ∧ x.tdiv 2 ≤ 4611686018427387904 := by
  by_cases e : x % 2 = 0
  · rw [kind_even e] at h
    split at h
    · rename_i ha
      have hx := of_decide_eq_true ha
      rw [tdiv_even e]
      omega
    · exact absurd rfl h
  · rw [kind_odd e] at h
    split at h
    · rename_i ha
      have hx := of_decide_eq_true ha
      rw [Int.tdiv_eq_ediv_of_nonneg (by omega)]
      omega
    · exact absurd rfl h

end Go.Proofs.YtnppoeifhmkphaaGreatDoor

/- l5Same and l5Kept of the model. -/
namespace Go.Proofs.YtnppoeifhmkphaaGreatDoor
open Go.RowKit

set_option maxHeartbeats 400000 in
theorem l5Same_any (v u : Value) (ss tt : List Int) (w : World) (hv : IR w v ss) (hu : IR w u tt) (h1 : ss.length ≤ 1000000000000000) (_h2 : tt.length ≤ 1000000000000000) :
    Calls Tryz.prog 36 #[v, u] w fun e w' => e = .returned (.bool (decide (ss = tt))) ∧ Below w.heap.size w w' := by
  obtain ⟨ao, cap, rfl, _, hv⟩ := hv
  obtain ⟨bo, cbp, rfl, _, hu⟩ := hu
  by_cases hl : ss.length = tt.length
  · have hl' : ((ss.length : Int) != (tt.length : Int)) = false := by simp [hl]
    have HL : Hid (ss.length = tt.length) := hl
    go_enter Tryz.func36, Tryz.ntmps36
    go_wp2
    go_loopw [5] (fun a wr => ∃ (k : Nat), a = .int .i64 k ∧ k ≤ ss.length ∧ Hid (∀ j, j < k → ss.getD j 0 = tt.getD j 0) ∧ ∃ n, wr = w.drewN n) (fun a _ => (ss.length - (intOf a).toNat))
    case atStart => exact ⟨0, rfl, Nat.zero_le _, fun j hj => absurd hj (by omega), 0, rfl⟩
    case round =>
      obtain ⟨k, rfl, hk, hj, n, rfl⟩ := hrel
      by_cases hlt : k < ss.length
      · obtain ⟨b, o, rfl, hc⟩ := hv k hlt
        obtain ⟨b', o', rfl, hc'⟩ := hu k (by omega)
        have hlt' : k < tt.length := by omega
        generalize hs : ss.getD k 0 = s at *
        generalize ht : tt.getD k 0 = t at *
        have HS : Hid (ss.getD k 0 = s) := hs
        have HT : Hid (tt.getD k 0 = t) := ht
        clear hs ht hv hu hl
        go_wp2
        go_region
        all_goals go_wp2
        · have hne : s ≠ t := by simpa using ‹(s != t) = true›
          go_ret
          exact ⟨ret_bool (decide_eq_false (fun e => hne (by rw [← HS.out, ← HT.out, e]))).symm, below_drewN (Below.refl _ _) _⟩
        · have he : s = t := by simpa using ‹(s != t) = false›
          go_roundw
          case rel => exact ⟨k + 1, by go_num, by omega, all_upto hj.out (by rw [HS.out, HT.out, he]), _, rfl⟩
          case measure => simp [intOf]; omega
      · go_wp2
        go_ret
        exact ⟨ret_bool (decide_eq_true (ilists_eq hl (fun j hj' => hj.out j (by omega)))).symm, below_drewN (Below.refl _ _) _⟩
  · have hl' : ((ss.length : Int) != (tt.length : Int)) = true := by simp; omega
    go_enter Tryz.func36, Tryz.ntmps36
    go_wp2
    go_ret
    exact ⟨ret_bool (decide_eq_false (fun e => hl (by rw [e]))).symm, Below.refl _ _⟩

theorem flds_take {W : List Int} {a j m : Nat} (hm : (gw W a).toNat = m) (hj : j < m) : (flds W a).take (j + 1) = (flds W a).take j ++ [gw W (a + 4 + j)] := by
  have hl : j < (flds W a).length := by simp [flds]; omega
  rw [List.take_add_one, List.getElem?_eq_getElem hl]
  simp [flds]
theorem flds_all {W : List Int} {a m : Nat} (hm : (gw W a).toNat = m) : (flds W a).take m = flds W a := by
  apply List.take_of_length_le
  simp [flds]
  omega
theorem keptS_snoc (W : List Int) (l : List Nat) (a : Nat) : keptS W (l ++ [a]) = if (decide (a < 2000) && hasYS W a) = true then keptS W l ++ [a] else keptS W l := by
  unfold keptS
  rw [List.filter_append]
  by_cases h : (decide (a < 2000) && hasYS W a) = true
  · rw [if_pos h]; congr 1; simp only [List.filter_cons, h, if_true, List.filter_nil]
  · rw [if_neg h]; simp only [List.filter_cons, h, if_false, List.filter_nil, Bool.false_eq_true, List.append_nil]
theorem take_snoc' {α : Type} [Inhabited α] (l : List α) (k : Nat) (d : α) (h : k < l.length) : l.take (k + 1) = l.take k ++ [l.getD k d] := by
  rw [List.take_add_one, List.getElem?_eq_getElem h]
  simp [h]
theorem ints_get (l : List Nat) (k : Nat) (h : k < l.length) : (ints l).getD k 0 = ((l.getD k 0 : Nat) : Int) := by
  simp [ints, h]
theorem get_mem (l : List Nat) (k : Nat) (h : k < l.length) : l.getD k 0 ∈ l := by
  simp [h]

theorem own_low {w : World} {B e size n b : Nat} {v : Value} {xs : List Value} (h : w.ownsRow B e size v n xs) (hk : v.ownBlock = some b) : B ≤ b := by
  rcases h.2 with ⟨rfl, _⟩ | ⟨g, cap, cur, rfl, hg, _⟩
  · cases hk
  · cases hk; exact hg


end Go.Proofs.YtnppoeifhmkphaaGreatDoor
