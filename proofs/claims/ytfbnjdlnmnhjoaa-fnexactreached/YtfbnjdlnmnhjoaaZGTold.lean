/- l6Told of the model: a word with its object's number. -/
import Derived.Test.YtfbnjdlnmnhjoaaZGWld
namespace Go.Proofs.Ytfbnjdlnmnhjoaa
open Go.RowKit

/-- The numbers of the objects that were found, one more each, nought for none. -/
def nmF (o : List Nat) (i : Nat) : Value := .int .i64 (if i ∈ o then ((o.idxOf i : Nat) : Int) + 1 else 0)
def ToldOut (b3 B : Nat) (ov : Value) (o : List Nat) (x : Int) (w : World) (e : Ending) (w' : World) : Prop :=
  ∃ ov', e = .returned (.tuple #[.int .i64 (ren (fol1 o x) x), ov']) ∧ w'.rowIs b3 2 3200 (nmF (fol1 o x)) ∧ w'.ownsRow B 2 1 ov' (fol1 o x).length (icells (ints (fol1 o x))) ∧ ov'.ownBlock ≠ some b3 ∧
    (ov'.ownBlock = ov.ownBlock ∨ ∃ b, ov'.ownBlock = some b ∧ w.heap.size ≤ b) ∧ Grew w w' (fun k => k = b3 ∨ ov.ownBlock = some k)

theorem odd_parts {x : Int} (h : isK 2 x = true) : ∃ a : Nat, a < 3200 ∧ (x / 2).toNat = a ∧ (x.tmod 2 == 0) = false ∧ x.tdiv 2 = (a : Int) := by
  unfold isK kindW at h
  have h' := of_decide_eq_true h
  split at h'
  · rename_i h1
    split at h'
    · rename_i h2
      unfold adrB at h2
      have h3 := of_decide_eq_true h2
      refine ⟨(x / 2).toNat, by omega, rfl, by rw [tmod_two]; exact decide_eq_false (by omega), ?_⟩
      rw [Int.tdiv_eq_ediv_of_nonneg (by omega)]
      omega
    · omega
  · split at h' <;> omega
theorem even_not {x : Int} (h : x % 2 = 0) : isK 2 x = false := by
  unfold isK kindW
  rw [if_neg (by omega)]
  split <;> rfl
theorem nm_new {w : World} {b : Nat} {o : List Nat} {a : Nat} (h : w.rowIs b 2 3200 (nmF o)) (ha : a ∉ o) : (w.setCell ⟨b, a, none⟩ (.int .i64 ((o.length : Int) + 1))).rowIs b 2 3200 (nmF (o ++ [a])) := by
  refine (h.set a _).congr fun i _ => ?_
  unfold nmF
  by_cases e : i = a
  · subst e
    rw [if_pos rfl, if_pos (by simp), List.idxOf_append, if_neg ha]
    simp
  · rw [if_neg e]
    by_cases m : i ∈ o
    · rw [if_pos m, if_pos (by simp [m]), List.idxOf_append, if_pos m]
    · rw [if_neg m, if_neg (by simp [m, e])]

set_option maxHeartbeats 1600000 in
theorem l6Told_any (b3 c3 B : Nat) (ov : Value) (o : List Nat) (x : Int) (w : World) (hrow : w.rowIs b3 2 3200 (nmF o)) (hov : w.ownsRow B 2 1 ov o.length (icells (ints o))) (hap : ov.ownBlock ≠ some b3) (hB : B ≤ w.heap.size) (hx : x % 2 = 0 ∨ isK 2 x = true) (hl : o.length ≤ 3200) :
    Calls Try.prog 47 #[.slice (some ⟨b3, 0, none⟩) 3200 c3, ov, .int .i64 x] w fun e w' => ToldOut b3 B ov o x w e w' := by
  rcases hx with hx | hx
  · have t : (x.tmod 2 == 0) = true := by rw [tmod_two]; exact decide_eq_true hx
    have f : fol1 o x = o := by unfold fol1; rw [even_not hx]; rfl
    have r : ren o x = x := by unfold ren; rw [even_not hx]; rfl
    have G : Hid (ToldOut b3 B ov o x w (.returned (.tuple #[.int .i64 x, ov])) w) := ⟨ov, by rw [f, r], by rw [f]; exact hrow, by rw [f]; exact hov, hap, .inl rfl, Grew.refl _ _⟩
    clear f r hx hrow hov
    go_enter Try.func47, Try.ntmps47
    go_wp2
    exact bodyPost_ret (v := .tuple #[.int .i64 x, ov]) (by simp [results, Try.results47, go_sem]) rfl G.out
  · obtain ⟨a, ha, hat, t, hd⟩ := odd_parts hx
    have hai : (a : Int) < 3200 := by omega
    have c0 := hrow.cell (i := a) ha
    by_cases hm : a ∈ o
    · have f : fol1 o x = o := by unfold fol1; rw [if_pos hx, hat, if_pos hm]
      have r : ren o x = 2 * ((o.idxOf a : Nat) : Int) + 1 := by unfold ren; rw [if_pos hx, hat]
      have G : Hid (ToldOut b3 B ov o x w (.returned (.tuple #[.int .i64 (2 * ((o.idxOf a : Nat) : Int) + 1), ov])) w) := ⟨ov, by rw [f, r], by rw [f]; exact hrow, by rw [f]; exact hov, hap, .inl rfl, Grew.refl _ _⟩
      have hi : o.idxOf a < 3200 := Nat.lt_of_lt_of_le (List.idxOf_lt_length_of_mem hm) hl
      unfold nmF at c0
      rw [if_pos hm] at c0
      clear f r hx hrow hov hat hm
      generalize o.idxOf a = m at *
      have ne : ((m : Int) + 1 == 0) = false := by simp; omega
      go_enter Try.func47, Try.ntmps47
      go_wp2
      exact bodyPost_ret (v := .tuple #[.int .i64 (2 * (m : Int) + 1), ov]) (by simp [results, Try.results47, go_sem]) rfl G.out
    · have f : fol1 o x = o ++ [a] := by unfold fol1; rw [if_pos hx, hat, if_neg hm]
      have r : ren (o ++ [a]) x = 2 * ((o.length : Nat) : Int) + 1 := by
        unfold ren
        rw [if_pos hx, hat, List.idxOf_append, if_neg hm]
        simp
      unfold nmF at c0
      rw [if_neg hm] at c0
      have FR : Hid (fol1 o x = o ++ [a] ∧ ren (fol1 o x) x = 2 * ((o.length : Nat) : Int) + 1) := ⟨f, by rw [f, r]⟩
      have NM : Hid (∀ W : World, W.rowIs b3 2 3200 (nmF o) → (W.setCell ⟨b3, a, none⟩ (.int .i64 ((o.length : Int) + 1))).rowIs b3 2 3200 (nmF (o ++ [a]))) := fun W hW => nm_new hW hm
      have hs3 := hrow.lt
      have N0 : Hid (nmF o a = .int .i64 0 ∧ nmF (o ++ [a]) a = .int .i64 ((o.length : Int) + 1)) := ⟨by unfold nmF; rw [if_neg hm], by unfold nmF; rw [if_pos (by simp), List.idxOf_append, if_neg hm]; simp⟩
      clear f r hx hat hm
      have al := bel_one w (.cells #[.int .i64 a] 2)
      have hov2 := own_later hov al
      have hrow2 : (w.alloc (.cells #[.int .i64 a] 2)).rowIs b3 2 3200 (nmF o) := (Grew.new al (fun _ => False)).row hrow (fun q => q)
      have hc : ∀ W : World, (W.alloc (.cells #[.int .i64 a] 2)).cell? ⟨W.heap.size, 0, none⟩ = some (.int .i64 (a : Int)) := fun W => by simp
      have HR : Hid ((w.alloc (.cells #[.int .i64 a] 2)).rowIs b3 2 3200 (nmF o)) := hrow2
      clear hrow hrow2
      go_enter Try.func47, Try.ntmps47
      go_wp2_with (at_builtin; refine app_at _ rfl _ _ rfl B _ o.length (icells (ints o)) rfl hov2 _ 1 a rfl (hc _) (by omega) (Nat.le_trans hB (by simp)) ?_; intro v4 w4 hown4 hg4 hloc; (obtain ⟨fo, fc, hv4⟩ : ∃ fo fc, v4 = .slice fo (o.length + 1) fc := own_shape hown4); subst hv4; have R4 := (Grew.grown hg4).row HR.out (fun q => hap q); have R5 := NM.out _ R4; have hf4 := R4.frozen a; have c4 := R4.cell (i := a) ha; have c5 := R5.cell (i := a) ha; rw [N0.out.1] at c4; rw [N0.out.2] at c5)
      have hloc2 : Value.ownBlock (.slice fo (o.length + 1) fc) = ov.ownBlock ∨ Value.ownBlock (.slice fo (o.length + 1) fc) = some (w.heap.size + 1) := by
        rcases hloc with e | e
        · exact .inl e
        · exact .inr (by rw [e]; simp)
      have hg5 : (w.alloc (.cells #[.int .i64 a] 2)).grownBy w4 ov.ownBlock := hg4
      have lv : Value.ownBlock (.slice fo (o.length + 1) fc) ≠ some b3 := by
        rcases hloc2 with e | e
        · rw [e]; exact hap
        · rw [e]; simp; omega
      have P : ToldOut b3 B ov o x w (.returned (.tuple #[.int .i64 (2 * (o.length : Int) + 1), .slice fo (o.length + 1) fc])) (w4.setCell ⟨b3, a, none⟩ (.int .i64 ((o.length : Int) + 1))) := by
        refine ⟨_, by rw [FR.out.2], by rw [FR.out.1]; exact R5, ?_, lv, ?_, ?_⟩
        · rw [FR.out.1]
          have o5 := (Grew.set w4 b3 a (.int .i64 ((o.length : Int) + 1))).own hown4 (fun b e q => lv (by rw [e, q]))
          simpa [icells, ints] using o5
        · rcases hloc2 with e | e
          · exact .inl e
          · exact .inr ⟨_, e, by omega⟩
        · exact ((Grew.new al _).trans ((Grew.grown hg5).mono fun k _ e => .inr e)).trans ((Grew.set w4 b3 a (.int .i64 ((o.length : Int) + 1))).mono fun k _ e => .inl e)
      exact bodyPost_ret (v := .tuple #[.int .i64 (2 * (o.length : Int) + 1), .slice fo (o.length + 1) fc]) (by simp [results, Try.results47, go_sem]) rfl P

end Go.Proofs.Ytfbnjdlnmnhjoaa
