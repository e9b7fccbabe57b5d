/- rightObjects, HeapOk and Objects of the program. -/
import Derived.Test.YtgacacbncefeaaaGreatZHImpH
import Derived.Test.YtgacacbncefeaaaGreatZHImpL
namespace Go.Proofs.YtgacacbncefeaaaGreat
open Go.RowKit

set_option maxHeartbeats 400000 in
theorem equal_any (v u : Value) (ss tt : List Int) (w : World) (hv : IR w v ss) (hu : IR w u tt) (h1 : ss.length ≤ 1000000000000000) (_h2 : tt.length ≤ 1000000000000000) :
    Calls Tryz.prog 81 #[v, u] w fun e w' => e = .returned (.bool (decide (ss = tt))) ∧ Below w.heap.size w w' := by
  obtain ⟨ao, cap, rfl, _, hv⟩ := hv
  obtain ⟨bo, cbp, rfl, _, hu⟩ := hu
  by_cases hl : ss.length = tt.length
  · have hl' : ((ss.length : Int) != (tt.length : Int)) = false := by simp [hl]
    have HL : Hid (ss.length = tt.length) := hl
    go_enter Tryz.func81, Tryz.ntmps81
    go_wp2
    go_loopw [13] (fun a wr => ∃ (k : Nat), a = .int .i64 k ∧ k ≤ ss.length ∧ Hid (∀ j, j < k → ss.getD j 0 = tt.getD j 0) ∧ ∃ n, wr = w.drewN n) (fun a _ => (ss.length - (intOf a).toNat))
    case atStart => exact ⟨0, rfl, Nat.zero_le _, fun j hj => absurd hj (by omega), 0, rfl⟩
    case round =>
      obtain ⟨k, rfl, hk, hj, n, rfl⟩ := hrel
      by_cases hlt : k < ss.length
      · obtain ⟨b, o, rfl, hc⟩ := hv k hlt
        obtain ⟨b', o', rfl, hc'⟩ := hu k (by omega)
        have hlt' : k < tt.length := by omega
        generalize hs : ss.getD k 0 = s at *
        generalize ht : tt.getD k 0 = t at *
        have HS : Hid (ss.getD k 0 = s) := hs
        have HT : Hid (tt.getD k 0 = t) := ht
        clear hs ht hv hu hl
        go_wp2
        go_region
        all_goals go_wp2
        · have hne : s ≠ t := by simpa using ‹(s != t) = true›
          go_ret
          exact ⟨ret_bool (decide_eq_false (fun e => hne (by rw [← HS.out, ← HT.out, e]))).symm, below_drewN (Below.refl _ _) _⟩
        · have he : s = t := by simpa using ‹(s != t) = false›
          go_roundw
          case rel => exact ⟨k + 1, by go_num, by omega, all_upto hj.out (by rw [HS.out, HT.out, he]), _, rfl⟩
          case measure => simp [intOf]; omega
      · go_wp2
        go_ret
        exact ⟨ret_bool (decide_eq_true (ilists_eq hl (fun j hj' => hj.out j (by omega)))).symm, below_drewN (Below.refl _ _) _⟩
  · have hl' : ((ss.length : Int) != (tt.length : Int)) = true := by simp; omega
    go_enter Tryz.func81, Tryz.ntmps81
    go_wp2
    go_ret
    exact ⟨ret_bool (decide_eq_false (fun e => hl (by rw [e]))).symm, Below.refl _ _⟩

theorem wf_iff {h : Hp} {l : List Nat} : wfB h l = true ↔ (h.roots.length ≤ 20 ∧ (∀ x, x ∈ h.roots → fitB l x = true) ∧ (∀ a, a ∈ l → fieldsFit h.words l a)) := by
  unfold wfB objsFit
  simp only [Bool.and_eq_true, decide_eq_true_eq, List.all_eq_true]
  constructor
  · rintro ⟨a, b, c⟩
    exact ⟨a, b, fun x hx => (fld_mem (W := h.words) (a := x) (p := fitB l)).1 (c x hx)⟩
  · rintro ⟨a, b, c⟩
    exact ⟨a, b, fun x hx => (fld_mem (W := h.words) (a := x) (p := fitB l)).2 (c x hx)⟩

def RightOut (h : Hp) (B : Nat) (x : Ending) (w' : World) : Prop :=
  (∃ l v', x = .returned (.tuple #[v', .bool true]) ∧ w'.ownsRow B 2 1 v' l.length (icells (ints l)) ∧ RightAt h l ∧ l.length ≤ 3200) ∨ (x = .returned (.tuple #[.slice none 0 0, .bool false]) ∧ ∀ l, ¬ RightAt h l)
theorem keepB {W a b : World} {N : Nat} {u0 u7 : Value} (k : Below a.heap.size a b) (h : Below W.heap.size W a ∧ a.cell? ⟨N, 0, none⟩ = some u0 ∧ a.cell? ⟨N, 7, none⟩ = some u7) :
    Below W.heap.size W b ∧ b.cell? ⟨N, 0, none⟩ = some u0 ∧ b.cell? ⟨N, 7, none⟩ = some u7 := ⟨bel_after h.1 k, cell_later k h.2.1, cell_later k h.2.2⟩

set_option maxRecDepth 100000 in
set_option maxHeartbeats 3200000 in
theorem rightObjects_any (v : Value) (h : Hp) (w : World) (hv : HR w v h) (hro : h.roots.length ≤ 1000000000000) (hke : h.kept.length ≤ 1000000000000) :
    Calls Tryz.prog 45 #[v] w fun x w' => RightOut h w.heap.size x w' ∧ Below w.heap.size w w' := by
  obtain ⟨v1, v2, v3, rfl, i1, i2, i3⟩ := id hv
  have hb0 := bel_one w (.cells #[v1, v2, .int .i64 h.old, .int .i64 h.eden, .int .i64 h.surv, .bool h.flip, .int .i64 h.hash, v3] 28)
  have X0 := Bx.new w v1 v2 v3 h 28
  have hv0 := hv.later hb0
  by_cases hlen : h.words.length = 3200
  · have LO := laidObjects_any _ h _ hv0 hlen
    have RI := fun l => right_iff (h := h) (l := l) hlen
    obtain ⟨b, o, cap, rfl, hcap, hW⟩ := i1.ws (by omega)
    simp only [hlen] at hb0 X0 hv hv0 hcap LO ⊢
    have HLN : Hid (h.words.length = 3200) := hlen
    clear hlen i1
    go_enter Tryz.func45, Tryz.ntmps45
    go_wp2_with fail
    refine LO.mono ?_
    rintro x w1 ⟨hlo, hb1⟩
    have hbw1 := bel_after hb0 hb1
    have X1 := X0.later hb1
    have hv1 := hv0.later hb1
    clear LO X0 hv0
    rcases hlo with ⟨l, ov, hl, rfl, hown, hla⟩ | ⟨rfl, hno⟩
    · have SO := hla.sorted
      have OB : ∀ a, a ∈ l → a + 4 ≤ 3200 ∧ nx h.words a ≤ 3200 ∧ objB h.words a = true := fun a ha => hla.obj ha
      have hov := IR_of_owns' hown
      have HOk := hashesOk_any _ _ h l _ hv1 hov hl HLN.out (fun a ha => (OB a ha).1)
      obtain ⟨oa, oc, rfl, -⟩ := intsI hov
      obtain ⟨c0, c1, c2, c3, c4, c5, c6, c7⟩ := id X1
      have HLA : Hid (LaidAt h l) := hla
      have HRI : Hid (∀ m, RightAt h m → m = l) := fun m k => by
        have := (laid_iff HLN.out).1 hla
        exact k.1.eq this.1
      clear hla hv
      go_wp2_with fail
      refine HOk.mono ?_
      rintro x w2 ⟨⟨ok, rfl, hok⟩, hb2⟩
      have hbw2 := bel_after hbw1 hb2
      have X2 := X1.later hb2
      have hv2 := hv1.later hb2
      have hov2 := hov.later hb2
      have hown2 := own_mono (own_later hown hb2) hb0.size
      clear HOk X1 hv1 hov hown c0 c1 c2 c3 c4 c5 c6 c7
      cases ok
      · have G : Hid (∀ m, ¬ RightAt h m) := fun m k => by
          have e := HRI.out m k
          subst e
          have := ((RI m).1 k).2.1
          exact absurd (hok.2 this) (by simp)
        clear RI hok
        go_wp2
        exact bodyPost_ret (v := .tuple #[.slice none 0 0, .bool false]) (by simp [results, Tryz.results45, go_sem]) rfl ⟨.inr ⟨rfl, G.out⟩, hbw2⟩
      · have HO : Hid (hoP h l) := hok.1 rfl
        have WF := wordsFit_any _ _ h l _ hv2 hov2 SO hl HLN.out hro OB
        obtain ⟨c0, c1, c2, c3, c4, c5, c6, c7⟩ := id X2
        clear hok
        go_wp2_with fail
        refine WF.mono ?_
        rintro x w3 ⟨rfl, hb3⟩
        have hbw3 := bel_after hbw2 hb3
        have X3 := X2.later hb3
        have hov3 := hov2.later hb3
        have hown3 := own_later hown2 hb3
        have hW3 := hW.later hbw3
        clear WF X2 hv2 hov2 hown2 c0 c1 c2 c3 c4 c5 c6 c7
        cases hwf : wfB h l
        · have G : Hid (∀ m, ¬ RightAt h m) := fun m k => by
            have e := HRI.out m k
            subst e
            have := wf_iff.2 ((RI m).1 k).2.2.1
            rw [hwf] at this
            cases this
          clear RI hwf
          go_wp2
          exact bodyPost_ret (v := .tuple #[.slice none 0 0, .bool false]) (by simp [results, Tryz.results45, go_sem]) rfl ⟨.inr ⟨rfl, G.out⟩, hbw3⟩
        · have HWF := wf_iff.1 hwf
          have DONE : Hid (RightAt h l ↔ h.kept = keptOf h.words l) := (by
            rw [RI l]
            exact ⟨fun k => k.2.2.2.symm, fun k => ⟨HLA.out, HO.out, HWF, k.symm⟩⟩ : RightAt h l ↔ h.kept = keptOf h.words l)
          have KO := fun W hb => keptObjects_any b o cap _ h.words l W (hW3.later hb) HLN.out hcap (hov3.later hb) hl OB
          have K3 : Hid (IR w3 v3 h.kept) := i3.later hbw3
          have hkl : (keptOf h.words l).length ≤ 3200 := by
            unfold keptOf
            rw [ints_length]
            have := List.length_filter_le (fun a => decide (a < 2000) && hasY h.words a) l
            omega
          obtain ⟨ka, kcap, rfl⟩ := i3.shape
          obtain ⟨c0, c1, c2, c3, c4, c5, c6, c7⟩ := id X3
          clear RI hwf HWF X3 c1 c2 c3 c4 c5 c6 i2 i3 hW hW3 hov3
          generalize keptOf h.words l = ks at *
          go_wp2_with fail
          go_region_held3 (fun w' => Below w3.heap.size w3 w' ∧ w'.cell? ⟨w.heap.size, 0, none⟩ = some (.slice (some ⟨b, o, none⟩) 3200 cap) ∧ w'.cell? ⟨w.heap.size, 7, none⟩ = some (.slice ka h.kept.length kcap))
            (first | assumption | exact ⟨(Below.refl _ _).drew, c0, c7⟩ | exact keepB (by assumption) (by assumption))
            (first
              | (go_at_call 82; refine (KO _ (And.left (by assumption))).mono ?_; rintro x w5 ⟨⟨v5, rfl, hk5⟩, hb5⟩)
              | (go_at_call 81; refine (equal_any _ _ h.kept _ _ (K3.out.later (And.left (by assumption))) hk5 (by omega) (by omega)).mono ?_; rintro x w6 ⟨rfl, hb6⟩))
          have hbx : Below w3.heap.size w3 w6 := bel_after (bel_after (Below.refl _ _).drew hb5) hb6
          by_cases hkk : h.kept = ks
          · have D := decide_eq_true hkk
            have G := DONE.out.2 hkk
            have ow := own_later hown3 hbx
            clear DONE hkk
            rw [D]
            go_wp2
            exact bodyPost_ret (v := .tuple #[.slice oa l.length oc, .bool true]) (by simp [results, Tryz.results45, go_sem]) rfl ⟨.inl ⟨l, _, rfl, ow, G, hl⟩, bel_after hbw3 hbx⟩
          · have D := decide_eq_false hkk
            have G : Hid (∀ m, ¬ RightAt h m) := fun m k => by
              have e := HRI.out m k
              subst e
              exact hkk (DONE.out.1 k)
            clear DONE hkk
            rw [D]
            go_wp2
            exact bodyPost_ret (v := .tuple #[.slice none 0 0, .bool false]) (by simp [results, Tryz.results45, go_sem]) rfl ⟨.inr ⟨rfl, G.out⟩, bel_after hbw3 hbx⟩
    · have G : Hid (∀ m, ¬ RightAt h m) := fun m k => hno m ((RI m).1 k).1
      clear RI hno hv hv1
      go_wp2
      exact bodyPost_ret (v := .tuple #[.slice none 0 0, .bool false]) (by simp [results, Tryz.results45, go_sem]) rfl ⟨.inr ⟨rfl, G.out⟩, hbw1⟩
  · have hl' : ((h.words.length : Int) != 3200) = true := by simp; omega
    have G : Hid (∀ m, ¬ RightAt h m) := fun m k => hlen k.1.1
    obtain ⟨a, c, rfl⟩ := i1.shape
    clear hv hv0 X0 i1 i2 i3 hlen
    go_enter Tryz.func45, Tryz.ntmps45
    go_wp2
    exact bodyPost_ret (v := .tuple #[.slice none 0 0, .bool false]) (by simp [results, Tryz.results45, go_sem]) rfl ⟨.inr ⟨rfl, G.out⟩, hb0⟩

end Go.Proofs.YtgacacbncefeaaaGreat
