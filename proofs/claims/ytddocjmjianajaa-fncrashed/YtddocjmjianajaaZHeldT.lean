/- What holds of a disk that is put to, held and crashed: plain lists. -/
import Derived.Test.YtddocjmjianajaaZMF
import Derived.Test.YtddocjmjianajaaZDSpecPut
namespace Go.Proofs.Ytddocjmjianajaa.Disk
open Go.RowKit Go.Deep

theorem putOk_parts {ss : List ByteArray} {ws : List Wr} {sec : Int} {txt : ByteArray} (h : putOk ss ws sec txt = true) : okD ss ws = true ∧ okW (sec, txt) = true ∧ ¬ ws.length = 200 := by
  unfold putOk at h
  simpa [Bool.and_eq_true, and_assoc] using h
/-- What is put to a right disk is a right disk. -/
theorem put_ok {ss : List ByteArray} {ws : List Wr} {sec : Int} {txt : ByteArray} (h : putOk ss ws sec txt = true) : okD ss (ws ++ [(sec, txt)]) = true := by
  obtain ⟨h1, h2, h3⟩ := putOk_parts h
  unfold okD at h1 ⊢
  simp only [Bool.and_eq_true, decide_eq_true_eq, List.all_append, List.all_cons, List.all_nil, Bool.and_true, List.length_append, List.length_singleton] at h1 ⊢
  exact ⟨⟨⟨h1.1.1.1, by omega⟩, h1.1.2⟩, h1.2, h2⟩
theorem see_held {ss : List ByteArray} {ws : List Wr} (h : okD ss ws = true) {s : Int} (h0 : 0 ≤ s) (h1 : s ≤ 63) : seeT ss ws s = (holdS ss ws).getD s.toNat ByteArray.empty := by
  unfold seeT holdS
  rw [if_pos h, if_pos ⟨h, by unfold okN; simp; omega⟩]
/-- The text that was put is seen. -/
theorem see_put {ss : List ByteArray} {ws : List Wr} {sec : Int} {txt : ByteArray} (h : putOk ss ws sec txt = true) : seeT ss (ws ++ [(sec, txt)]) sec = txt := by
  obtain ⟨h1, h2, _⟩ := putOk_parts h
  obtain ⟨r0, r1, _⟩ := okW_range h2
  have r0 : 0 ≤ sec := r0
  have r1 : sec ≤ 63 := r1
  have hl := (okD_all h1).1
  rw [see_held (put_ok h) r0 r1]
  unfold holdS
  rw [if_pos (put_ok h)]
  unfold holdN
  rw [List.take_length, List.foldl_append]
  have hf := foldH_length ws ss
  show ((List.foldl stepH ss ws).set sec.toNat txt).getD sec.toNat ByteArray.empty = txt
  rw [List.getD_eq_getElem?_getD, List.getElem?_set_self (by omega)]
  rfl
/-- All land, none is torn: what is held. -/
theorem crash_all {ss : List ByteArray} {ws : List Wr} : crashS (List.replicate ws.length true) (-1) ss ws = holdS ss ws := by
  unfold crashS holdS
  have key : ∀ j, j ≤ ws.length → crashN (List.replicate ws.length true) (-1) ss ws j = holdN ss ws j := by
    intro j
    induction j with
    | zero => intro _; rw [holdN_zero]; rfl
    | succ j ih =>
      intro hj
      rw [crashN_succ, holdN_succ ss ws j (by omega), ih (by omega)]
      unfold stepC stepH
      rw [if_neg (by show ¬ ((j : Nat) : Int) = -1; omega), if_pos (by rw [List.getD_eq_getElem?_getD, List.getElem?_replicate, if_pos (by show j < ws.length; omega)]; rfl)]
  rw [key _ (Nat.le_refl _)]
/-- None lands, none is torn: the sectors. -/
theorem crash_none {ss : List ByteArray} {ws : List Wr} (h : okD ss ws = true) : crashS [] (-1) ss ws = ss := by
  unfold crashS
  rw [if_pos h]
  have key : ∀ j, crashN [] (-1) ss ws j = ss := by
    intro j
    induction j with
    | zero => rfl
    | succ j ih =>
      rw [crashN_succ, ih]
      unfold stepC
      rw [if_neg (by show ¬ ((j : Nat) : Int) = -1; omega), if_neg (by simp)]
  exact key _
theorem crash_ok {bs : List Bool} {tn : Int} {ss : List ByteArray} {ws : List Wr} (h : okD ss ws = true) : okD (crashS bs tn ss ws) [] = true := by
  obtain ⟨h1, _, h3, h4⟩ := okD_all h
  unfold crashS
  rw [if_pos h]
  refine okD_yes (by rw [crashN_length]; exact h1) (by simp) (fun k _ => crashN_size (getD_size h3) h4 _ (Nat.le_refl _) k) (fun k hk => by simp at hk)
theorem hold_ok {ss : List ByteArray} {ws : List Wr} (h : okD ss ws = true) : okD (holdS ss ws) [] = true := by
  rw [← crash_all]
  exact crash_ok h
theorem hold_again {ss : List ByteArray} {ws : List Wr} (h : okD ss ws = true) : holdS (holdS ss ws) [] = holdS ss ws := by
  rw [show holdS (holdS ss ws) [] = holdN (holdS ss ws) [] 0 by unfold holdS; rw [if_pos (by have := hold_ok h; unfold holdS at this; exact this)]; rfl, holdN_zero]
/-- Behind a crash a sector holds what it held, a text that was late for it, or the torn one is for it. -/
theorem crash_sector {bs : List Bool} {tn : Int} {ss : List ByteArray} {ws : List Wr} (h : okD ss ws = true) (s : Nat) :
    (crashS bs tn ss ws).getD s ByteArray.empty = ss.getD s ByteArray.empty ∨ ∃ i, i < ws.length ∧ (ws.getD i wr0).1 = (s : Int) ∧ ((crashS bs tn ss ws).getD s ByteArray.empty = (ws.getD i wr0).2 ∨ (i : Int) = tn) := by
  obtain ⟨h1, _, h3, h4⟩ := okD_all h
  unfold crashS
  rw [if_pos h]
  have key : ∀ j, j ≤ ws.length → ((crashN bs tn ss ws j).getD s ByteArray.empty = ss.getD s ByteArray.empty ∨ ∃ i, i < ws.length ∧ (ws.getD i wr0).1 = (s : Int) ∧ ((crashN bs tn ss ws j).getD s ByteArray.empty = (ws.getD i wr0).2 ∨ (i : Int) = tn)) := by
    intro j
    induction j with
    | zero => intro _; exact .inl rfl
    | succ j ih =>
      intro hj
      have hw := okW_range (h4 j (by omega))
      have IH := ih (by omega)
      rw [crashN_succ]
      have hlen := crashN_length bs tn ss ws j
      generalize crashN bs tn ss ws j = cc at *
      by_cases hs : (ws.getD j wr0).1.toNat = s
      · have hs' : (ws.getD j wr0).1 = (s : Int) := by omega
        unfold stepC
        by_cases ht : ((j : Nat) : Int) = tn
        · exact .inr ⟨j, by omega, hs', .inr ht⟩
        · rw [if_neg ht]
          by_cases hb : bs.getD j false = true
          · rw [if_pos hb]
            refine .inr ⟨j, by omega, hs', .inl ?_⟩
            show (cc.set (ws.getD j wr0).1.toNat (ws.getD j wr0).2).getD s ByteArray.empty = _
            rw [hs, List.getD_eq_getElem?_getD, List.getElem?_set_self (by omega)]
            rfl
          · rw [if_neg hb]
            exact IH
      · have e : (stepC bs tn cc (j, ws.getD j wr0)).getD s ByteArray.empty = cc.getD s ByteArray.empty := by
          unfold stepC
          split
          · rw [List.getD_eq_getElem?_getD, List.getElem?_set_ne (by exact hs), ← List.getD_eq_getElem?_getD]
          · split
            · rw [List.getD_eq_getElem?_getD, List.getElem?_set_ne (by exact hs), ← List.getD_eq_getElem?_getD]
            · rfl
        rw [e]
        exact IH
  exact key _ (Nat.le_refl _)

end Go.Proofs.Ytddocjmjianajaa.Disk
