/- A text in parts: l12Split of the model. -/
import Derived.Test.YtimkdjolipnahaaDoorZQRdI
namespace Go.Proofs.YtimkdjolipnahaaDoor
open Go.RowKit

theorem Tryd.infoSQ : (Tryd.prog.info? 9).map (fun i => (i.zero, i.size, i.bytes)) = some (some (.string ⟨#[]⟩), 1, 16) := by kernel_rfl
theorem Tryd.underSQ : Tryd.prog.underlying 42 = some (.slice 9) := by kernel_rfl
theorem app_sv {ops : Array Oper} {rest : List Oper} {o : Oper} {a : Act} {Q : Exit → Act → World → Prop} (w : World) (hgd : o.guard = none) (s x : Operand)
    (ho : o.op = .call { callee := .builtin .append, args := #[s, x], argTypes := #[42, 42] }) (B : Nat) (v : Value) (n : Nat) (xs : List Value) (hs : a.eval s = v) (hown : w.ownsRow B 9 1 v n xs)
    (g c : Nat) (z : ByteArray) (hx : a.eval x = .slice (some ⟨g, 0, none⟩) 1 c) (hc : w.cell? ⟨g, 0, none⟩ = some (.string z)) (hn : n ≤ 1000000000) (hB : B ≤ w.heap.size)
    (h : ∀ v' w', w'.ownsRow B 9 1 v' (n + 1) (xs ++ [.string z]) → w.grownBy w' v.ownBlock → wpList Tryd.prog ops Q rest (a.put o.dst v') w') : wpList Tryd.prog ops Q (o :: rest) a w := by
  obtain ⟨i, hi, hzz⟩ := Option.map_eq_some_iff.1 Tryd.infoSQ
  simp only [Prod.mk.injEq] at hzz
  obtain ⟨hz, hsz, hby⟩ := hzz
  refine wpList_append_own_at w hgd s x 42 ho B 9 i _ 1 16 Tryd.underSQ hi hz hsz hby rfl (by omega) v n xs hs hown ⟨g, 0, none⟩ 1 c [.string z] hx rfl (fun j u hj => ?_) (fun u hu => ?_) (by unfold maxLen; omega) (by omega) hB (fun v' w' h1 h2 _ h4 => h v' w' h1 h2)
  · match j, hj with
    | 0, hj => simp at hj; subst hj; simpa [Addr.add] using hc
  · simp at hu; subst hu; rfl

/-- The parts of a text between its blanks. -/
def spL : List UInt8 → List (List UInt8)
  | [] => [[]]
  | x :: l => if x == 32 then [] :: spL l else match spL l with | a :: r => (x :: a) :: r | [] => [[x]]
theorem sp_none : ∀ {l : List UInt8}, l.all (fun x => !(x == 32)) = true → spL l = [l]
  | [], _ => rfl
  | x :: l, h => by
    rw [List.all_cons, Bool.and_eq_true] at h
    have hx : (x == 32) = false := by simpa using h.1
    unfold spL
    rw [sp_none h.2, hx]
    rfl
theorem sp_at : ∀ {a r : List UInt8}, a.all (fun x => !(x == 32)) = true → spL (a ++ 32 :: r) = a :: spL r
  | [], r, _ => by
    show spL (32 :: r) = _
    conv => lhs; unfold spL
    exact if_pos (by decide)
  | x :: a, r, h => by
    rw [List.all_cons, Bool.and_eq_true] at h
    have hx : (x == 32) = false := by simpa using h.1
    show spL (x :: (a ++ 32 :: r)) = _
    conv => lhs; unfold spL
    rw [sp_at h.2, hx]
    rfl
theorem cut_cases (l : List UInt8) : (l.all (fun x => !(x == 32)) = true ∧ cutL 32 l = (l, [], false)) ∨ (∃ a r, l = a ++ 32 :: r ∧ a.all (fun x => !(x == 32)) = true ∧ cutL 32 l = (a, r, true)) := by
  by_cases h : l.all (fun x => !(x == 32)) = true
  · exact .inl ⟨h, cut_none h⟩
  · refine .inr ?_
    have key : ∀ l : List UInt8, ¬ l.all (fun x => !(x == 32)) = true → ∃ a r, l = a ++ 32 :: r ∧ a.all (fun x => !(x == 32)) = true := by
      intro l
      induction l with
      | nil => intro h; exact absurd rfl h
      | cons x l ih =>
        intro h
        by_cases hx : x = 32
        · subst hx
          exact ⟨[], l, rfl, rfl⟩
        · obtain ⟨a, r, e, ha⟩ := ih (fun hl => h (by rw [List.all_cons, hl]; simpa using hx))
          exact ⟨x :: a, r, by rw [e]; rfl, by rw [List.all_cons, ha]; simpa using hx⟩
    obtain ⟨a, r, e, ha⟩ := key l h
    exact ⟨a, r, e, ha, by rw [e]; exact cut_at ha⟩
theorem all_of {l : List UInt8} (h : ∀ j, j < l.length → l.getD j 0 ≠ 32) : l.all (fun x => !(x == 32)) = true := by
  rw [List.all_eq_true]
  intro x hx
  obtain ⟨j, hj, rfl⟩ := List.getElem_of_mem hx
  have := h j hj
  rw [getD_at hj] at this
  simpa using this
/-- How far the parts are. -/
def SPI (L : List UInt8) (ps : List (List UInt8)) (fr k : Nat) : Prop :=
  (k ≤ L.length ∧ fr ≤ k ∧ ps.length ≤ k ∧ spL L = ps ++ spL (L.drop fr) ∧ ∀ j, fr ≤ j → j < k → L.getD j 0 ≠ 32) ∨ (k = L.length + 1 ∧ ps.length ≤ k ∧ spL L = ps)
theorem drop_getD (L : List UInt8) (f j : Nat) : (L.drop f).getD j 0 = L.getD (f + j) 0 := by simp [List.getD]
theorem take_getD {L : List UInt8} {m j : Nat} (h : j < m) : (L.take m).getD j 0 = L.getD j 0 := by simp [List.getD, h]
theorem SPI.plain {L : List UInt8} {ps : List (List UInt8)} {fr k : Nat} (h : SPI L ps fr k) (hk : k < L.length) (hb : L.getD k 0 ≠ 32) : SPI L ps fr (k + 1) := by
  rcases h with ⟨h1, h2, h3, h4, h5⟩ | ⟨h1, _⟩
  · refine .inl ⟨hk, by omega, by omega, h4, fun j h6 h7 => ?_⟩
    by_cases e : j = k
    · rw [e]; exact hb
    · exact h5 j h6 (by omega)
  · omega
theorem SPI.blank {L : List UInt8} {ps : List (List UInt8)} {fr k : Nat} (h : SPI L ps fr k) (hk : k < L.length) (hb : L.getD k 0 = 32) : SPI L (ps ++ [(L.drop fr).take (k - fr)]) (k + 1) (k + 1) := by
  rcases h with ⟨h1, h2, h3, h4, h5⟩ | ⟨h1, _⟩
  · refine .inl ⟨hk, Nat.le_refl _, by rw [List.length_append]; simp; omega, ?_, fun j h6 h7 => by omega⟩
    have e : L.drop fr = (L.drop fr).take (k - fr) ++ 32 :: L.drop (k + 1) := by
      have e1 := (List.take_append_drop (k - fr) (L.drop fr)).symm
      rw [List.drop_drop, show fr + (k - fr) = k from by omega, List.drop_eq_getElem_cons hk] at e1
      rw [getD_at hk] at hb
      rw [hb] at e1
      exact e1
    have ha : ((L.drop fr).take (k - fr)).all (fun x => !(x == 32)) = true := all_of fun j hj => by
      have hj' : j < k - fr := by rw [List.length_take] at hj; omega
      rw [take_getD hj', drop_getD]
      exact h5 _ (by omega) (by omega)
    rw [h4]
    conv => lhs; rw [e]
    rw [sp_at ha]
    simp
  · omega
theorem SPI.last {L : List UInt8} {ps : List (List UInt8)} {fr : Nat} (h : SPI L ps fr L.length) : SPI L (ps ++ [L.drop fr]) (L.length + 1) (L.length + 1) := by
  rcases h with ⟨h1, h2, h3, h4, h5⟩ | ⟨h1, _⟩
  · refine .inr ⟨rfl, by rw [List.length_append]; simp; omega, ?_⟩
    rw [h4, sp_none (all_of fun j hj => by
      rw [drop_getD]
      rw [List.length_drop] at hj
      exact h5 _ (by omega) (by omega))]
  · omega
theorem SPI.len {L : List UInt8} {ps : List (List UInt8)} {fr k : Nat} (h : SPI L ps fr k) : ps.length ≤ k ∧ (k ≤ L.length → fr ≤ k) ∧ k ≤ L.length + 1 := by
  rcases h with ⟨h1, h2, h3, h4, h5⟩ | ⟨h1, h2, h3⟩ <;> exact ⟨by omega, fun _ => by omega, by omega⟩
theorem SPI.done {L : List UInt8} {ps : List (List UInt8)} {fr k : Nat} (h : SPI L ps fr k) (hk : ¬ k ≤ L.length) : spL L = ps := by
  rcases h with ⟨h1, _⟩ | ⟨_, _, h3⟩
  · exact absurd h1 hk
  · exact h3
theorem SPI.start (L : List UInt8) : SPI L [] 0 0 := .inl ⟨Nat.zero_le _, Nat.le_refl _, Nat.le_refl _, by simp, fun j _ h => absurd h (Nat.not_lt_zero _)⟩
theorem ext_mid (s : ByteArray) (f k : Nat) : s.extract f k = ⟨((s.data.toList.drop f).take (k - f)).toArray⟩ := by
  apply ba_ext
  simp only [ByteArray.data_extract, Array.toList_extract, List.extract_eq_take_drop]
def scells (ps : List (List UInt8)) : List Value := ps.map fun x => .string ⟨x.toArray⟩
theorem scells_add (ps : List (List UInt8)) (x : List UInt8) : scells (ps ++ [x]) = scells ps ++ [.string ⟨x.toArray⟩] := by simp [scells]
theorem own_laterQ {w w' : World} {B e size n : Nat} {v : Value} {xs : List Value} (h : w.ownsRow B e size v n xs) (hb : Below w.heap.size w w') : w'.ownsRow B e size v n xs :=
  h.kept (row := none) ⟨hb.os, hb.tape, hb.output, hb.size, fun k hk _ => hb.block k hk⟩ (by by_cases c : v.ownBlock = none; exact .inl c; exact .inr c)
theorem own_grownQ {w0 w w' : World} {e size n : Nat} {v : Value} {xs : List Value} (hb : Below w0.heap.size w0 w) (h : w.ownsRow w0.heap.size e size v n xs) (hg : w.grownBy w' v.ownBlock) : Below w0.heap.size w0 w' := Below.grown hb hg hb.size (fun k hk => (h.lt k hk).1)
theorem len_add (ps : List (List UInt8)) (x : List UInt8) : (ps ++ [x]).length = ps.length + 1 := by simp

/-- The answer of l12Split. -/
def SpOut (s : ByteArray) (B : Nat) (e : Ending) (w' : World) : Prop := ∃ v, e = .returned v ∧ w'.ownsRow B 9 1 v (spL s.data.toList).length (scells (spL s.data.toList))
theorem byte_at (s : ByteArray) (k : Nat) (h : k < s.size) : s[k] = s.data.toList.getD k 0 := by
  rw [← get_lt s k h]
  have := get_at s k h
  rw [Nat.add_zero] at this
  exact this.symm
set_option maxRecDepth 100000 in
set_option maxHeartbeats 1000000 in
theorem l12Split_any (s : ByteArray) (w : World) (hs : s.size ≤ 100000000) :
    Calls Tryd.prog 32 #[.string s] w fun e w' => SpOut s w.heap.size e w' ∧ Below w.heap.size w w' := by
  have HL : Hid (s.data.toList.length = s.size) := (by simp : s.data.toList.length = s.size)
  have HB : Hid (∀ k (h : k < s.size), s[k] = s.data.toList.getD k 0) := fun k h => byte_at s k h
  have HX : Hid (∀ f k, s.extract f k = ⟨((s.data.toList.drop f).take (k - f)).toArray⟩) := fun f k => ext_mid s f k
  have HY : Hid (∀ f, s.extract f s.size = ⟨(s.data.toList.drop f).toArray⟩) := fun f => ext_drop s f
  have HO : Hid (∀ ps v w', spL s.data.toList = ps → w'.ownsRow w.heap.size 9 1 v ps.length (scells ps) → SpOut s w.heap.size (.returned v) w') := fun ps v w' e h => ⟨v, rfl, by rw [e]; exact h⟩
  generalize s.data.toList = L at *
  go_enter Tryd.func32, Tryd.ntmps32
  go_wp2
  go_loopw [3, 4, 5] (fun ov fv iv wr => ∃ (k fr : Nat) (ps : List (List UInt8)) (v0 : Value), v0 = ov ∧ iv = .int .i64 k ∧ fv = .int .i64 fr ∧ Hid (wr.ownsRow w.heap.size 9 1 v0 ps.length (scells ps)) ∧ Hid (SPI L ps fr k) ∧ Below w.heap.size w wr) (fun _ _ iv _ => s.size + 1 - (intOf iv).toNat)
  case atStart => exact ⟨0, 0, [], _, rfl, rfl, rfl, World.ownsRow_made _ _ _ (Nat.le_refl _) (Nat.zero_le _) rfl, SPI.start L, qbel _ _⟩
  case round =>
    obtain ⟨k, fr, ps, ov, rfl, rfl, rfl, hown, hI, hb⟩ := hrel
    have hle := hI.out.len
    rw [HL.out] at hle
    obtain ⟨l1, l2, l3⟩ := hle
    by_cases hk : k ≤ s.size
    · have l4 := l2 hk
      clear l2
      by_cases hlt : k < s.size
      · have hne : ¬ k = s.size := by omega
        by_cases hbt : L.getD k 0 = 32
        · have hbi : ((s[k].toNat : Int) == 32) = true := by rw [HB.out k hlt, hbt]; rfl
          have hq : ((k : Int) == (s.size : Int)) = false := by simp; omega
          have hA := hI.out.blank (by rw [HL.out]; exact hlt) hbt
          have HC : Hid (scells (ps ++ [(L.drop fr).take (k - fr)]) = scells ps ++ [.string (s.extract fr k)]) := (by rw [scells_add, HX.out] : _ = _)
          replace hA : Hid _ := hA
          have hc : ∀ W : World, (W.alloc (.cells #[.string (s.extract fr k)] 9)).cell? ⟨W.heap.size, 0, none⟩ = some (.string (s.extract fr k)) := fun W => by simp
          have hown4 := hown.out.alloc (.cells #[.string (s.extract fr k)] 9)
          have hb4 := hb.alloc hb.size (.cells #[.string (s.extract fr k)] 9)
          clear hbt HB hown
          go_wp2_with (at_builtin; refine app_sv _ rfl _ _ rfl w.heap.size _ ps.length _ rfl hown4 _ 1 (s.extract fr k) rfl (hc _) (by omega) hb4.size ?_; intro v5 w5 hown5 hg5; have hb5 := own_grownQ hb4 hown4 hg5; replace hown5 : Hid _ := hown5; clear hown4 hb4 hg5)
          exact ⟨⟨k + 1, k + 1, _, _, rfl, by go_num, by go_num, by rw [len_add, HC.out]; exact hown5.out, hA, hb5⟩, by simp [intOf]; omega⟩
        · have hq : ((k : Int) == (s.size : Int)) = false := by simp; omega
          have hbi : ((s[k].toNat : Int) == 32) = false := by
            rw [HB.out k hlt]
            simp only [beq_eq_false_iff_ne, ne_eq]
            intro e
            exact hbt (UInt8.toNat_inj.1 (by
              have : (32 : UInt8).toNat = 32 := rfl
              omega))
          have hA := hI.out.plain (by rw [HL.out]; exact hlt) hbt
          replace hA : Hid _ := hA
          clear hbt HB
          go_wp2
          exact ⟨⟨k + 1, fr, ps, _, rfl, by go_num, rfl, hown, hA, hb⟩, by simp [intOf]; omega⟩
      · obtain rfl : k = s.size := by omega
        have hA : Hid (SPI L (ps ++ [L.drop fr]) (s.size + 1) (s.size + 1)) := (by
          have := hI.out
          rw [← HL.out] at this
          have := this.last
          rw [HL.out] at this
          exact this : SPI L (ps ++ [L.drop fr]) (s.size + 1) (s.size + 1))
        have HC : Hid (scells (ps ++ [L.drop fr]) = scells ps ++ [.string (s.extract fr s.size)]) := (by rw [scells_add, HY.out] : _ = _)
        have hc : ∀ W : World, (W.alloc (.cells #[.string (s.extract fr s.size)] 9)).cell? ⟨W.heap.size, 0, none⟩ = some (.string (s.extract fr s.size)) := fun W => by simp
        have hown4 := hown.out.alloc (.cells #[.string (s.extract fr s.size)] 9)
        have hb4 := hb.alloc hb.size (.cells #[.string (s.extract fr s.size)] 9)
        clear HB hown
        go_wp2_with (at_builtin; refine app_sv _ rfl _ _ rfl w.heap.size _ ps.length _ rfl hown4 _ 1 (s.extract fr s.size) rfl (hc _) (by omega) hb4.size ?_; intro v5 w5 hown5 hg5; have hb5 := own_grownQ hb4 hown4 hg5; replace hown5 : Hid _ := hown5; clear hown4 hb4 hg5)
        exact ⟨⟨s.size + 1, s.size + 1, _, _, rfl, by go_num, by go_num, by rw [len_add, HC.out]; exact hown5.out, hA, hb5⟩, by simp [intOf]⟩
    · have hd : Hid (spL L = ps) := hI.out.done (by rw [HL.out]; exact hk)
      clear HB l2
      go_wp2
      go_ret
      exact ⟨HO.out ps _ _ hd.out hown.out, hb⟩

end Go.Proofs.YtimkdjolipnahaaDoor
