/- wordsFit and keptObjects of the program. -/
import Derived.Test.YtgacacbncefeaaaGreatZHImpF
namespace Go.Proofs.YtgacacbncefeaaaGreat
open Go.RowKit

def objsFit (W : List Int) (l m : List Nat) : Bool := m.all fun a => (flds W a).all (fitB l)
def wfB (h : Hp) (l : List Nat) : Bool := decide (h.roots.length ≤ 20) && (h.roots.all (fitB l) && objsFit h.words l l)
theorem nall_stop {p : Nat → Bool} {l : List Nat} {k : Nat} (h : k < l.length) (e : p (l.getD k 0) = false) : l.all p = false := by
  rw [Bool.eq_false_iff]
  intro q
  rw [List.all_eq_true] at q
  rw [q (l.getD k 0) (by simp [h])] at e
  cases e
theorem nall_done {p : Nat → Bool} {l : List Nat} (h : ∀ j, j < l.length → p (l.getD j 0) = true) : l.all p = true := by
  rw [List.all_eq_true]
  intro x hx
  obtain ⟨i, hi, e⟩ := List.getElem_of_mem hx
  have := h i hi
  simpa [hi, e] using this
theorem intsI {w : World} {v : Value} {l : List Nat} (h : IR w v (ints l)) : ∃ ao cap, v = .slice ao l.length cap ∧ ∀ k, k < l.length → ∃ b o, ao = some ⟨b, o, none⟩ ∧ w.cell? ⟨b, o + k, none⟩ = some (.int .i64 ((l.getD k 0 : Nat) : Int)) := by
  obtain ⟨ao, cap, rfl, _, hc⟩ := h
  rw [ints_length] at hc ⊢
  refine ⟨ao, cap, rfl, fun k hk => ?_⟩
  obtain ⟨b, o, e, hcell⟩ := hc k hk
  refine ⟨b, o, e, ?_⟩
  rw [hcell]
  simp [ints, hk]
theorem lget_mem (l : List Nat) (k : Nat) (h : k < l.length) : l.getD k 0 ∈ l := by simp [h]
theorem IR.shape {w : World} {v : Value} {l : List Int} (h : IR w v l) : ∃ ao cap, v = .slice ao l.length cap := by
  obtain ⟨ao, cap, e, _⟩ := h
  exact ⟨ao, cap, e⟩

set_option maxRecDepth 100000 in
set_option maxHeartbeats 1600000 in
theorem wordsFit_any (v u : Value) (h : Hp) (l : List Nat) (w : World) (hv : HR w v h) (hu : IR w u (ints l)) (hs : l.Pairwise (· < ·)) (hl : l.length ≤ 3200) (hlen : h.words.length = 3200) (hro : h.roots.length ≤ 1000000000000)
    (hobj : ∀ a, a ∈ l → a + 4 ≤ 3200 ∧ nx h.words a ≤ 3200 ∧ objB h.words a = true) :
    Calls Tryz.prog 80 #[v, u] w fun e w' => e = .returned (.bool (wfB h l)) ∧ Below w.heap.size w w' := by
  obtain ⟨v1, v2, v3, rfl, i1, i2, i3⟩ := hv
  obtain ⟨b, o, cap, rfl, hcap, hW⟩ := i1.ws (by omega)
  rw [hlen] at hcap ⊢
  have HLN : Hid (h.words.length = 3200) := hlen
  obtain ⟨ua, uc, rfl, hc⟩ := intsI hu
  obtain ⟨ro, rc, rfl⟩ := i2.shape
  have hb0 := bel_one w (.cells #[.slice (some ⟨b, o, none⟩) 3200 cap, .slice ro h.roots.length rc, .int .i64 h.old, .int .i64 h.eden, .int .i64 h.surv, .bool h.flip, .int .i64 h.hash, v3] 28)
  have X0 := Bx.new w (.slice (some ⟨b, o, none⟩) 3200 cap) (.slice ro h.roots.length rc) v3 h 28
  by_cases hr : h.roots.length ≤ 20
  · have hri : ¬ (20 : Int) < (h.roots.length : Int) := by omega
    have AF := allFit_any _ _ l h.roots _ (hu.later hb0) (i2.later hb0) hs (by omega) (by omega)
    have HU : Hid (IR w (.slice ua l.length uc) (ints l)) := hu
    clear i1 i2 i3 hlen hu
    cases hf : h.roots.all (fitB l)
    · have G : Hid (wfB h l = false) := (by unfold wfB; rw [hf]; simp : wfB h l = false)
      rw [hf] at AF
      clear X0 hc hW hobj
      go_enter Tryz.func80, Tryz.ntmps80
      go_wp2_with fail
      refine AF.mono ?_
      rintro e w1 ⟨rfl, hb1⟩
      go_wp2
      go_ret
      exact ⟨wret_bool G.out.symm, bel_after hb0 hb1⟩
    · have E : Hid (wfB h l = objsFit h.words l l) := (by unfold wfB; rw [hf, decide_eq_true hr]; rfl : wfB h l = objsFit h.words l l)
      rw [hf] at AF
      go_enter Tryz.func80, Tryz.ntmps80
      go_wp2_with fail
      refine AF.mono ?_
      rintro e w1 ⟨rfl, hb1⟩
      have X1 := X0.later hb1
      have hbw1 := bel_after hb0 hb1
      have c01 := X1.c0
      clear AF X0 X1 hb0 hb1
      go_wp2
      go_loopw [20] (fun kv wr => ∃ k : Nat, kv = .int .i64 k ∧ k ≤ l.length ∧ Hid (∀ j, j < k → (flds h.words (l.getD j 0)).all (fitB l) = true) ∧ wr.cell? ⟨w.heap.size, 0, none⟩ = some (.slice (some ⟨b, o, none⟩) 3200 cap) ∧ Below w.heap.size w wr) (fun kv _ => l.length - (intOf kv).toNat)
      case atStart => exact ⟨0, rfl, Nat.zero_le _, fun j hj => by omega, c01, hbw1⟩
      case round =>
        obtain ⟨k, rfl, hk, hj, c0, hb⟩ := hrel
        by_cases hlt : k < l.length
        · obtain ⟨b', o', e', hci⟩ := hc k hlt
          subst e'
          have ci := cell_later hb hci
          obtain ⟨q1, q2, q3⟩ := hobj _ (lget_mem l k hlt)
          have NX : Hid ((flds h.words (l.getD k 0)).all (fitB l) = true → ∀ j, j < k + 1 → (flds h.words (l.getD j 0)).all (fitB l) = true) := fun e => all_upto hj.out e
          have BAD : Hid ((flds h.words (l.getD k 0)).all (fitB l) = false → objsFit h.words l l = false) := fun e => nall_stop hlt e
          have W1 := hW.later hb
          have FA := fieldsAt_any b o cap h.words (l.getD k 0) wr W1 HLN.out hcap q1 (size_of (headB_of q3)) q2
          have hfl : (flds h.words (l.getD k 0)).length ≤ 60 := by rw [flds_length]; have := size_of (headB_of q3); omega
          have AL := fun u wq hb' hu' => allFit_any _ u l (flds h.words (l.getD k 0)) wq (HU.out.later hb') hu' hs (by omega) (by omega)
          clear hci hj
          generalize l.getD k 0 = a at *
          cases hca : (flds h.words a).all (fitB l)
          · have G : Hid (wfB h l = false) := (by rw [E.out]; exact BAD.out hca : wfB h l = false)
            simp only [hca] at AL
            clear NX BAD
            go_wp2_with fail
            refine FA.mono ?_
            rintro e w2 ⟨⟨fv, rfl, hfv⟩, hw2⟩
            obtain rfl := hw2.symm
            go_wp2_with fail
            refine (AL _ _ hb hfv).mono ?_
            rintro e w3 ⟨rfl, hb3⟩
            go_wp2
            go_ret
            exact ⟨wret_bool G.out.symm, bel_after hb hb3⟩
          · have N := NX.out hca
            simp only [hca] at AL
            clear NX BAD
            go_wp2_with fail
            refine FA.mono ?_
            rintro e w2 ⟨⟨fv, rfl, hfv⟩, hw2⟩
            obtain rfl := hw2.symm
            go_wp2_with fail
            refine (AL _ _ hb hfv).mono ?_
            rintro e w3 ⟨rfl, hb3⟩
            have c03 := cell_later hb3 c0
            go_wp2
            exact ⟨⟨k + 1, by go_num, by omega, N, c03, bel_after hb hb3⟩, by simp [intOf]; omega⟩
        · obtain rfl : k = l.length := by omega
          have G : Hid (wfB h l = true) := (by rw [E.out]; exact nall_done hj.out : wfB h l = true)
          go_wp2
          go_ret
          exact ⟨wret_bool G.out.symm, hb⟩
  · have hri : (20 : Int) < (h.roots.length : Int) := by omega
    have G : Hid (wfB h l = false) := (by unfold wfB; rw [decide_eq_false hr]; rfl : wfB h l = false)
    clear i1 i2 i3 hlen hu X0 hc hW hobj
    go_enter Tryz.func80, Tryz.ntmps80
    go_wp2
    go_ret
    exact ⟨wret_bool G.out.symm, hb0⟩

def keptI (W : List Int) (l : List Nat) : List Nat := l.filter fun a => decide (a < 2000) && hasY W a
theorem keptI_snoc (W : List Int) (l : List Nat) (a : Nat) : keptI W (l ++ [a]) = if (decide (a < 2000) && hasY W a) = true then keptI W l ++ [a] else keptI W l := by
  unfold keptI
  rw [List.filter_append]
  by_cases h : (decide (a < 2000) && hasY W a) = true
  · rw [if_pos h]; congr 1; simp only [List.filter_cons, h, if_true, List.filter_nil]
  · rw [if_neg h]; simp only [List.filter_cons, h, if_false, List.filter_nil, Bool.false_eq_true, List.append_nil]
theorem ltake_snoc (l : List Nat) (k : Nat) (h : k < l.length) : l.take (k + 1) = l.take k ++ [l.getD k 0] := by
  rw [List.take_add_one, List.getElem?_eq_getElem h]
  simp [h]
theorem IRof {w : World} {B n : Nat} {v : Value} {l : List Nat} (h : w.ownsRow B 2 1 v n (icells (ints l))) : IR w v (ints l) := IR_of_owns' h

set_option maxRecDepth 100000 in
set_option maxHeartbeats 1600000 in
theorem keptObjects_any (b o cap : Nat) (u : Value) (W : List Int) (l : List Nat) (w : World) (hW : WS w b o W) (hlen : W.length = 3200) (hcap : 3200 ≤ cap) (hu : IR w u (ints l)) (hl : l.length ≤ 3200)
    (hobj : ∀ a, a ∈ l → a + 4 ≤ 3200 ∧ nx W a ≤ 3200 ∧ objB W a = true) :
    Calls Tryz.prog 82 #[.slice (some ⟨b, o, none⟩) 3200 cap, u] w fun e w' => (∃ v, e = .returned v ∧ IR w' v (keptOf W l)) ∧ Below w.heap.size w w' := by
  have HLN : Hid (W.length = 3200) := hlen
  obtain ⟨ua, uc, rfl, hc⟩ := intsI hu
  clear hlen hu
  go_enter Tryz.func82, Tryz.ntmps82
  go_wp2
  go_loopw [5, 10] (fun ov kv wr => ∃ (k : Nat) (v0 : Value), kv = .int .i64 k ∧ v0 = ov ∧ k ≤ l.length ∧ wr.ownsRow w.heap.size 2 1 v0 (keptI W (l.take k)).length (icells (ints (keptI W (l.take k)))) ∧ Below w.heap.size w wr) (fun _ kv _ => l.length - (intOf kv).toNat)
  case atStart => exact ⟨0, _, rfl, rfl, Nat.zero_le _, ⟨by simp [keptI, icells, ints], .inl ⟨rfl, rfl⟩⟩, Below.refl _ _⟩
  case round =>
    obtain ⟨k, ov, rfl, rfl, hk, hown, hb⟩ := hrel
    by_cases hlt : k < l.length
    · obtain ⟨b', o', e', hci⟩ := hc k hlt
      subst e'
      have ci := cell_later hb hci
      obtain ⟨q1, q2, q3⟩ := hobj _ (lget_mem l k hlt)
      have KS := keptI_snoc W (l.take k) (l.getD k 0)
      rw [← ltake_snoc l k hlt] at KS
      have FA := fieldsAt_any b o cap W (l.getD k 0) wr (hW.later hb) HLN.out hcap q1 (size_of (headB_of q3)) q2
      have hfl : (flds W (l.getD k 0)).length ≤ 60 := by rw [flds_length]; have := size_of (headB_of q3); omega
      have HYf := fun u wq hu' => hasYoung_any u (flds W (l.getD k 0)) wq hu' (by omega)
      rw [show (flds W (l.getD k 0)).any youngB = hasY W (l.getD k 0) from rfl] at HYf
      clear hci
      generalize l.getD k 0 = a at *
      by_cases h2 : a < 2000
      · have D : decide (2000 ≤ (a : Int)) = false := decide_eq_false (by omega)
        rw [decide_eq_true h2] at KS
        generalize hasY W a = y at *
        cases y
        · have KS' : Hid (keptI W (l.take (k + 1)) = keptI W (l.take k)) := KS
          clear KS
          go_wp2_with (first
            | (go_at_call 109; refine (isYoung_any _ _).mono ?_; rintro e wq ⟨rfl, hq⟩; obtain rfl := hq.symm; rw [D])
            | (go_at_call 108; refine FA.mono ?_; rintro e w2 ⟨⟨fv, rfl, hfv⟩, hw2⟩; obtain rfl := hw2.symm)
            | (go_at_call 110; refine (HYf _ _ hfv).mono ?_; rintro e wq ⟨rfl, hq⟩; obtain rfl := hq.symm))
          exact ⟨⟨k + 1, ov, by go_num, rfl, by omega, by rw [KS'.out]; exact hown, hb⟩, by simp [intOf]; omega⟩
        · have KS' : Hid (keptI W (l.take (k + 1)) = keptI W (l.take k) ++ [a]) := KS
          have hlk : (keptI W (l.take k)).length ≤ 3200 := by
            have := List.length_filter_le (fun a => decide (a < 2000) && hasY W a) (l.take k)
            rw [List.length_take] at this
            unfold keptI
            omega
          clear KS
          generalize keptI W (l.take k) = ks at *
          have hown2 := own_later hown (bel_one wr (.cells #[.int .i64 (a : Int)] 2))
          have hb2 := bel_after hb (bel_one wr (.cells #[.int .i64 (a : Int)] 2))
          have hcc : ∀ W : World, (W.alloc (.cells #[.int .i64 (a : Int)] 2)).cell? ⟨W.heap.size, 0, none⟩ = some (.int .i64 (a : Int)) := fun W => by simp
          have hsz := hb.size
          go_wp2_with (first
            | (go_at_call 109; refine (isYoung_any _ _).mono ?_; rintro e wq ⟨rfl, hq⟩; obtain rfl := hq.symm; rw [D])
            | (go_at_call 108; refine FA.mono ?_; rintro e w2 ⟨⟨fv, rfl, hfv⟩, hw2⟩; obtain rfl := hw2.symm)
            | (go_at_call 110; refine (HYf _ _ hfv).mono ?_; rintro e wq ⟨rfl, hq⟩; obtain rfl := hq.symm)
            | (at_builtin; refine app_int _ rfl _ _ rfl _ _ ks.length (icells (ints ks)) rfl hown2 _ 1 (a : Int) rfl (hcc _) (by omega) (by simp; omega) ?_; intro v4 w4 hown4 hg4; have hb4 := own_grown hb2 hown2 hg4 (by simp; omega)))
          exact ⟨⟨k + 1, v4, by go_num, rfl, by omega, by rw [KS'.out]; simpa [icells, ints] using hown4, hb4⟩, by simp [intOf]; omega⟩
      · have D : decide (2000 ≤ (a : Int)) = true := decide_eq_true (by omega)
        rw [decide_eq_false h2] at KS
        have KS' : Hid (keptI W (l.take (k + 1)) = keptI W (l.take k)) := KS
        clear KS
        go_wp2_with (go_at_call 109; refine (isYoung_any _ _).mono ?_; rintro e wq ⟨rfl, hq⟩; obtain rfl := hq.symm; rw [D])
        exact ⟨⟨k + 1, ov, by go_num, rfl, by omega, by rw [KS'.out]; exact hown, hb⟩, by simp [intOf]; omega⟩
    · obtain rfl : k = l.length := by omega
      rw [List.take_length] at hown
      go_wp2
      exact bodyPost_ret (v := ov) (by simp [results, Tryz.results82, go_sem]) rfl ⟨⟨ov, rfl, IRof hown⟩, hb⟩

end Go.Proofs.YtgacacbncefeaaaGreat
