/- Reached of the model and of the program. -/
import Derived.Test.YtabkiihlafhanaaZGShS
import Derived.Test.YtabkiihlafhanaaZGTourO
namespace Go.Proofs.Ytabkiihlafhanaa
open Go.RowKit

def rsum (W : List Int) (l : List Nat) : Int := (l.map fun a => (nx W a : Int) - a).sum
theorem rsum_snoc (W : List Int) (l : List Nat) (k : Nat) (h : k < l.length) : rsum W (l.take (k + 1)) = rsum W (l.take k) + ((nx W (l.getD k 0) : Int) - (l.getD k 0 : Nat)) := by
  unfold rsum
  rw [ltake_snoc l k h, List.map_append, List.sum_append]
  simp
theorem rsum_range {W : List Int} {l : List Nat} (h : ∀ a, a ∈ l → nx W a ≤ a + 64) : 0 ≤ rsum W l ∧ rsum W l ≤ 64 * l.length := by
  induction l with
  | nil => simp [rsum]
  | cons a l ih =>
    obtain ⟨h1, h2⟩ := ih fun b hb => h b (by simp [hb])
    have h3 := h a (by simp)
    have h4 : a ≤ nx W a := by unfold nx; omega
    have e : rsum W (a :: l) = ((nx W a : Int) - a) + rsum W l := by simp [rsum]
    rw [e, List.length_cons]
    omega
theorem reach_c (h : Hp) : reC h = if okC h = true then rsum h.words (ordF h.words h.roots) else -1 := rfl
/-- What Reached needs of each object. -/
theorem reach_need {h : Hp} {l : List Nat} (r : RightAt h l) {k : Nat} (hk : k < (ordF h.words h.roots).length) :
    ∃ m : Nat, m ≤ 60 ∧ gw h.words ((ordF h.words h.roots).getD k 0) = (m : Int) ∧ (ordF h.words h.roots).getD k 0 + 4 + m ≤ 3200 ∧ nx h.words ((ordF h.words h.roots).getD k 0) = (ordF h.words h.roots).getD k 0 + 4 + m ∧
      rsum h.words ((ordF h.words h.roots).take (k + 1)) = rsum h.words ((ordF h.words h.roots).take k) + (4 + m) := by
  obtain ⟨q1, q2, q3⟩ := r.1.obj (ord_sub r (lget_mem _ _ hk))
  have q4 := size_of q3
  obtain ⟨m, hm⟩ := Int.eq_ofNat_of_zero_le q4.1
  have hn : nx h.words ((ordF h.words h.roots).getD k 0) = (ordF h.words h.roots).getD k 0 + 4 + m := by unfold nx; rw [hm]; rfl
  rw [hn] at q2
  refine ⟨m, by omega, hm, q2, hn, ?_⟩
  rw [rsum_snoc _ _ _ hk, hn]
  omega
theorem reach_small {h : Hp} {l : List Nat} (r : RightAt h l) (k : Nat) : 0 ≤ rsum h.words ((ordF h.words h.roots).take k) ∧ rsum h.words ((ordF h.words h.roots).take k) ≤ 204800 := by
  have h3 := ord_len r
  obtain ⟨h1, h2⟩ := rsum_range (W := h.words) (l := (ordF h.words h.roots).take k) fun a ha => by
    obtain ⟨q1, q2, q3⟩ := r.1.obj (ord_sub r (List.mem_of_mem_take ha))
    have q4 := size_of q3
    unfold nx
    omega
  rw [List.length_take] at h2
  omega

set_option maxRecDepth 100000 in
set_option maxHeartbeats 1600000 in
theorem implReached_c (v : Value) (h : Hp) (w : World) (hv : HR w v h) (hro : h.roots.length ≤ 1000000000000) (hke : h.kept.length ≤ 1000000000000) :
    Calls Try.prog 15 #[v] w fun x w' => x = .returned (.int .i64 (reC h)) ∧ Below w.heap.size w w' := by
  obtain ⟨v1, v2, v3, rfl, i1, i2, i3⟩ := id hv
  have hb0 := bel_one w (.cells #[v1, v2, .int .i64 h.old, .int .i64 h.eden, .int .i64 h.surv, .bool h.flip, .int .i64 h.hash, v3] 30)
  have X0 := Bx.new w v1 v2 v3 h 30
  have C := implHeapOk_c _ h _ (hv.later hb0) hro hke
  have E := reach_c h
  obtain ⟨c0, c1, c2, c3, c4, c5, c6, c7⟩ := id X0
  cases hk : okC h
  · rw [hk] at C E
    have E' : Hid (reC h = -1) := E
    clear E i1 i2 i3
    go_enter Try.func15, Try.ntmps15
    go_wp2_with fail
    refine C.mono ?_
    rintro x w1 ⟨rfl, hb1⟩
    go_wp2
    go_ret
    exact ⟨wret_int E'.out.symm, bel_after hb0 hb1⟩
  · rw [hk] at C E
    have E' : Hid (reC h = rsum h.words (ordF h.words h.roots)) := E
    have r := c_right hk
    have TF := fun W (hb : Below w.heap.size w W) => tourOf_any _ h (obC h) W (hv.later hb) r
    have hlen := r.1.1
    obtain ⟨b, o, cap, hv1, hcap, hW⟩ := i1.ws (by omega)
    subst hv1
    rw [hlen] at c0 X0 C hcap TF hb0 c1 c2 c3 c4 c5 c6 c7 ⊢
    have HLN : Hid (h.words.length = 3200) := hlen
    clear E hk i1 i2 i3 hv hlen
    go_enter Try.func15, Try.ntmps15
    go_wp2_with fail
    refine C.mono ?_
    rintro x w1 ⟨rfl, hb1⟩
    have X1 := X0.later hb1
    have hbw1 := bel_after hb0 hb1
    clear c0 c1 c2 c3 c4 c5 c6 c7
    obtain ⟨c0, c1, c2, c3, c4, c5, c6, c7⟩ := id X1
    go_wp2_with fail
    refine (TF w1 hbw1).mono ?_
    rintro x w2 ⟨ov, M, n, rfl, ho, _, _, _, hb2⟩
    have X2 := X1.later hb2
    have hbw2 := bel_after hbw1 hb2
    clear c0 c1 c2 c3 c4 c5 c6 c7
    obtain ⟨c0, c1, c2, c3, c4, c5, c6, c7⟩ := id X2
    have fld : (Instr.field 43 (.agg #[ov, .map (some M)]) 0).run Try.prog w2 = .ok ov w2 := by
      obtain ⟨oa, oc, rfl⟩ := own_shape ho
      kernel_rfl
    obtain ⟨oa, oc, hov, hoc⟩ := intsI (IR_of_owns' ho)
    subst hov
    have hW2 := hW.later hbw2
    have h3 := ord_len r
    go_wp2
    go_loopw [3, 13] (fun yv kv wr => ∃ k : Nat, k ≤ (ordF h.words h.roots).length ∧ kv = .int .i64 k ∧ yv = .int .i64 (rsum h.words ((ordF h.words h.roots).take k)) ∧ wr = w2) (fun _ kv _ => (ordF h.words h.roots).length - (intOf kv).toNat)
    case atStart => exact ⟨0, Nat.zero_le _, rfl, rfl, rfl⟩
    case round =>
      obtain ⟨k, hk, rfl, rfl, hwr⟩ := hrel
      obtain rfl := hwr.symm
      clear hwr
      by_cases hkl : k < (ordF h.words h.roots).length
      · obtain ⟨ob, oo, rfl, ci⟩ := hoc k hkl
        obtain ⟨m, m60, hm, hn, hx, hs⟩ := reach_need r hkl
        obtain ⟨r1, r2⟩ := reach_small r k
        have BH := behind_any b o cap h.words ((ordF h.words h.roots).getD k 0) w2 hW2 HLN.out (by omega) (by omega)
        rw [hx] at BH
        have HS : Hid (rsum h.words ((ordF h.words h.roots).take (k + 1)) = rsum h.words ((ordF h.words h.roots).take k) + (4 + m)) := hs
        clear hm hx hs hoc
        generalize (ordF h.words h.roots).getD k 0 = a at *
        generalize rsum h.words ((ordF h.words h.roots).take k) = s at *
        have hki : (k : Int) < (ordF h.words h.roots).length := by omega
        go_wp2_with (go_at_call 31; refine BH.mono ?_; rintro e wq ⟨rfl, hq⟩; obtain rfl := hq.symm)
        exact ⟨⟨k + 1, by omega, by go_num, by rw [HS.out]; congr 1; omega, trivial⟩, by simp [intOf]; omega⟩
      · obtain rfl : k = (ordF h.words h.roots).length := by omega
        rw [List.take_length]
        go_wp2
        go_ret
        exact ⟨wret_int E'.out.symm, hbw2⟩

end Go.Proofs.Ytabkiihlafhanaa
