/- l8At, Get, ClassOf and HashOf of the model. -/
import Derived.Test.YtklafifiphbibaaGreatZMSAdd
import Derived.Test.YtklafifiphbibaaGreatZFPlain
namespace Go.Proofs.YtklafifiphbibaaGreat
open Go.RowKit

noncomputable def atC (h : Hp) (x : Int) : Int := if refB h x = true then x / 2 else -1
theorem ref_even {h : Hp} {x : Int} (k : x % 2 = 0) : refB h x = false := by
  unfold refB
  rw [show decide (kindW x = 2) = false from (wok_kind_even k).2]
  rfl
theorem ref_odd {h : Hp} {x : Int} (k : ¬ x % 2 = 0) : refB h x = (wokB x && isC h (x / 2)) := by
  unfold refB
  rw [show decide (kindW x = 2) = wokB x from (wok_kind_odd k).1]
  rfl

set_option maxRecDepth 100000 in
set_option maxHeartbeats 1600000 in
theorem l8At_c (v : Value) (h : Hp) (x : Int) (w : World) (hv : HR w v h) (hk : okC h = true) (hx : In64 x) :
    Calls Tryz.prog 28 #[v, .int .i64 x] w fun e w' => e = .returned (.int .i64 (atC h x)) ∧ Below w.heap.size w w' := by
  obtain ⟨v1, v2, v3, rfl, i1, i2, i3⟩ := id hv
  have hb0 := bel_one w (.cells #[v1, v2, .int .i64 h.old, .int .i64 h.eden, .int .i64 h.surv, .bool h.flip, .int .i64 h.hash, v3] 26)
  have WO := fun W => specWordOk_any x W
  obtain ⟨hx1, hx2⟩ := hx
  clear i1 i2 i3
  cases hwo : wokB x
  · have FE : Hid (atC h x = -1) := (by
      unfold atC
      by_cases e : x % 2 = 0
      · rw [ref_even e]; rfl
      · rw [ref_odd e, hwo]; rfl : atC h x = -1)
    rw [hwo] at WO
    go_enter Tryz.func28, Tryz.ntmps28
    go_wp2_with (go_at_call 58; refine (WO _).mono ?_; rintro e wq ⟨rfl, hq⟩; obtain rfl := hq.symm)
    go_ret
    exact ⟨wret_int FE.out.symm, hb0⟩
  · rw [hwo] at WO
    by_cases he : x % 2 = 0
    · have FE : Hid (atC h x = -1) := (by unfold atC; rw [ref_even he]; rfl : atC h x = -1)
      have tm : (x.tmod 2 == 0) = true := by rw [tmod_two, decide_eq_true he]
      go_enter Tryz.func28, Tryz.ntmps28
      go_wp2_with (go_at_call 58; refine (WO _).mono ?_; rintro e wq ⟨rfl, hq⟩; obtain rfl := hq.symm)
      go_ret
      exact ⟨wret_int FE.out.symm, hb0⟩
    · have FE : Hid (atC h x = if isC h (x / 2) = true then x / 2 else -1) := (by unfold atC; rw [ref_odd he, hwo, Bool.true_and] : atC h x = if isC h (x / 2) = true then x / 2 else -1)
      have tm : (x.tmod 2 == 0) = false := by rw [tmod_two, decide_eq_false he]
      have hp : 1 ≤ x := by
        rw [wok_odd he] at hwo
        exact (of_decide_eq_true hwo).1
      have td := tdiv_pos hp
      have IS := l5Is_c _ h (x / 2) _ (hv.later hb0) hk
      have wd : IntKind.i64.wrap (x / 2) = x / 2 := by rw [IntKind.wrap_i64]; omega
      cases hi : isC h (x / 2)
      · rw [hi] at IS FE
        go_enter Tryz.func28, Tryz.ntmps28
        go_wp2_with (first
          | (go_at_call 58; refine (WO _).mono ?_; rintro e wq ⟨rfl, hq⟩; obtain rfl := hq.symm)
          | (go_at_call 59; refine IS.mono ?_; rintro e w1 ⟨rfl, hb1⟩))
        go_ret
        exact ⟨wret_int FE.out.symm, bel_after hb0 hb1⟩
      · rw [hi] at IS FE
        go_enter Tryz.func28, Tryz.ntmps28
        go_wp2_with (first
          | (go_at_call 58; refine (WO _).mono ?_; rintro e wq ⟨rfl, hq⟩; obtain rfl := hq.symm)
          | (go_at_call 59; refine IS.mono ?_; rintro e w1 ⟨rfl, hb1⟩))
        go_ret
        exact ⟨wret_int FE.out.symm, bel_after hb0 hb1⟩

set_option maxRecDepth 100000 in
set_option maxHeartbeats 1600000 in
theorem specGet_c (v : Value) (h : Hp) (x i : Int) (w : World) (hv : HR w v h) (hro : h.roots.length ≤ 1000000000000) (hke : h.kept.length ≤ 1000000000000) (hx : In64 x) :
    Calls Tryz.prog 11 #[v, .int .i64 x, .int .i64 i] w fun e w' => e = .returned (.tuple #[.int .i64 (getC h x i), .bool (fldB h x i)]) ∧ Below w.heap.size w w' := by
  obtain ⟨v1, v2, v3, rfl, i1, i2, i3⟩ := id hv
  have hb0 := bel_one w (.cells #[v1, v2, .int .i64 h.old, .int .i64 h.eden, .int .i64 h.surv, .bool h.flip, .int .i64 h.hash, v3] 26)
  have X0 := Bx.new w v1 v2 v3 h 26
  have C := specHeapOk_c _ h _ (hv.later hb0) hro hke
  have GN : Hid (fldB h x i = false → getC h x i = 0) := (fun q => by unfold getC; rw [q]; rfl : fldB h x i = false → getC h x i = 0)
  cases hk : okC h
  · have N : fldB h x i = false := by unfold fldB; rw [hk]; rfl
    rw [hk] at C
    clear X0 i1 i2 i3 hv
    go_enter Tryz.func11, Tryz.ntmps11
    go_wp2_with fail
    refine C.mono ?_
    rintro e w1 ⟨rfl, hb1⟩
    go_wp2
    exact bodyPost_ret (v := .tuple #[.int .i64 0, .bool false]) (by simp [results, Tryz.results11, go_sem]) rfl ⟨by rw [GN.out N, N], bel_after hb0 hb1⟩
  rw [hk] at C
  have R := c_right hk
  have hl := R.1.1
  obtain ⟨b, o, cap, rfl, hcap, hW⟩ := i1.ws (by omega)
  have L8 := fun W hb => l8At_c _ h x W (hv.later hb) hk hx
  have FB : Hid (∀ a : Nat, refB h x = true → x / 2 = a → fldB h x i = decide (0 ≤ i ∧ i < gw h.words a) ∧ (fldB h x i = true → getC h x i = gw h.words (a + 4 + i.toNat))) := (fun a r ea => by
    refine ⟨?_, fun q => ?_⟩
    · unfold fldB; rw [hk, r, ea]; rfl
    · unfold getC; rw [q, ea]; rfl : ∀ a : Nat, refB h x = true → x / 2 = a → fldB h x i = decide (0 ≤ i ∧ i < gw h.words a) ∧ (fldB h x i = true → getC h x i = gw h.words (a + 4 + i.toNat)))
  have FN : Hid (refB h x = false → fldB h x i = false) := (fun r => by unfold fldB; rw [r]; simp : refB h x = false → fldB h x i = false)
  have HWS : Hid (∀ W, Below w.heap.size w W → ∀ j, j < 3200 → W.cell? ⟨b, o + j, none⟩ = some (.int .i64 (gw h.words j))) := fun W hb j hj => (hW.later hb) j (by omega)
  have AT : Hid (atC h x = if refB h x = true then x / 2 else -1) := (rfl : _ = _)
  have RM : Hid (refB h x = true → ∃ a : Nat, x / 2 = a ∧ a + 4 ≤ 3200 ∧ (0 ≤ gw h.words a ∧ gw h.words a ≤ 60) ∧ a + 4 + (gw h.words a).toNat ≤ 3200) := (fun r => by
    obtain ⟨_, a, ha, e⟩ := ref_mem r
    obtain ⟨q1, q2, q3⟩ := R.1.obj ha
    exact ⟨a, e, q1, size_of q3, q2⟩ : refB h x = true → ∃ a : Nat, x / 2 = a ∧ a + 4 ≤ 3200 ∧ (0 ≤ gw h.words a ∧ gw h.words a ≤ 60) ∧ a + 4 + (gw h.words a).toNat ≤ 3200)
  clear R i1 i2 i3 hv hW
  replace hl : Hid (h.words.length = 3200) := hl
  generalize atC h x = at8 at *
  generalize fldB h x i = fb at *
  generalize getC h x i = gc at *
  go_enter Tryz.func11, Tryz.ntmps11
  go_wp2_with fail
  refine C.mono ?_
  rintro e w1 ⟨rfl, hb1⟩
  have hbw1 := bel_after hb0 hb1
  obtain ⟨c0, c1, c2, c3, c4, c5, c6, c7⟩ := X0.later hb1
  go_wp2_with fail
  refine (L8 _ hbw1).mono ?_
  rintro e w2 ⟨rfl, hb2⟩
  have hbw2 := bel_after hbw1 hb2
  have d0 := cell_later hb2 c0
  clear c0 c1 c2 c3 c4 c5 c6 c7 C L8 X0
  cases hr : refB h x
  · have N := FN.out hr
    rw [hr] at AT
    obtain rfl : at8 = -1 := AT.out
    go_wp2
    exact bodyPost_ret (v := .tuple #[.int .i64 0, .bool false]) (by simp [results, Tryz.results11, go_sem]) rfl ⟨by rw [GN.out N, N], hbw2⟩
  · rw [hr, if_pos rfl] at AT
    obtain ⟨a, ea, q1, q4, q2⟩ := RM.out hr
    obtain rfl : at8 = a := AT.out.trans ea
    obtain ⟨F1, F2⟩ := FB.out a hr ea
    have ca := HWS.out w2 hbw2 a (by omega)
    rw [hl.out] at d0
    have LI := fun W => wl1In_any i 0 (gw h.words a - 1) W
    have hai : (a : Int) < 3200 := by omega
    have ha3 : a < 3200 := by omega
    have hna : ¬ (a : Int) < 0 := by omega
    by_cases hi : 0 ≤ i ∧ i ≤ gw h.words a - 1
    · rw [decide_eq_true hi] at LI
      obtain ⟨k, rfl⟩ : ∃ k : Nat, i = k := ⟨i.toNat, by omega⟩
      rw [decide_eq_true (by omega)] at F1
      have ck := HWS.out w2 hbw2 (a + 4 + k) (by omega)
      have GE := F2 F1
      rw [Int.toNat_natCast] at GE
      have k3 : a + 4 + k < 3200 := by omega
      have k3i : (a : Int) + 4 + k < 3200 := by omega
      have k3n : 0 ≤ (a : Int) + 4 + k := by omega
      replace GE : Hid (gc = gw h.words (a + 4 + k)) := GE
      replace F1 : Hid (fb = true) := F1
      clear F2 FB FN HWS AT RM GN hr ea hi
      generalize gw h.words (a + 4 + k) = y at *
      generalize gw h.words a = n at *
      obtain ⟨q4a, q4b⟩ := q4
      go_wp2_with (go_at_call 29; refine (LI _).mono ?_; rintro e wq ⟨rfl, hq⟩; obtain rfl := hq.symm)
      exact bodyPost_ret (v := .tuple #[.int .i64 y, .bool true]) (by simp [results, Tryz.results11, go_sem]) rfl ⟨by rw [F1.out, GE.out], hbw2⟩
    · rw [decide_eq_false hi] at LI
      rw [decide_eq_false (by omega)] at F1
      have GE := GN.out F1
      clear F2 FB FN HWS AT RM GN hr ea hi
      generalize gw h.words a = n at *
      obtain ⟨q4a, q4b⟩ := q4
      go_wp2_with (go_at_call 29; refine (LI _).mono ?_; rintro e wq ⟨rfl, hq⟩; obtain rfl := hq.symm)
      exact bodyPost_ret (v := .tuple #[.int .i64 0, .bool false]) (by simp [results, Tryz.results11, go_sem]) rfl ⟨by rw [F1, GE], hbw2⟩



end Go.Proofs.YtklafifiphbibaaGreat
