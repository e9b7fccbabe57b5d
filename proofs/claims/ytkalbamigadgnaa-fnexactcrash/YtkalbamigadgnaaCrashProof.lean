/- The law on Crash holds: for every disk and every slice of flags, of whatever make, and every number, the call returns true and the disk and the flags read as before; there are no conditions. -/
import Derived.Test.YtkalbamigadgnaaLawCrash
import Derived.Test.YtkalbamigadgnaaOpen
namespace Go.Proofs.Ytkalbamigadgnaa
open Go.ChangeShapes Go.WideShapes Go.ChangeAt Go.RowKit Go.Deep

theorem reach_eq : reachBytes = 140737488351232 := rfl
theorem Try.cells4 : Try.prog.cellsOf 4 = 1 := by kernel_rfl
theorem Try.bytes4 : Try.prog.bytesOf 4 = 1 := by kernel_rfl

theorem open_flags {H : Type} {enc : TypeId × Value → H} {W : World} {b0 : Nat} {v : Value} {d : DataW H} {p : List MemPlace} (hv : Value.okWide Try.prog W .any b0 43 v)
    (h : DataW.Trod enc Try.prog W 0 (fun _ => true) true 43 v d p) (hsz : ∀ x ∈ DataW.weights Try.prog 43 d, x ≤ 140737488351232) :
    ∃ bs, LR W v bs ∧ bs.length ≤ 200000000000000 := by
  obtain ⟨va, vn, vc, rfl⟩ := okWide_slice Try.underlying43 hv
  obtain ⟨n, hn⟩ := h
  rcases open_slice1 Try.underlying43 Try.cells4 hn with ⟨hcs, _⟩ | ⟨a, len, cap, m, k, V, D, Pl, hcs, _, hl, hm, hmm, hx, hc⟩
  · obtain ⟨rfl, rfl, rfl⟩ : va = none ∧ vn = 0 ∧ vc = 0 := by simpa [Value.cells] using hcs
    exact ⟨[], ⟨none, 0, rfl, fun i hi => by simp at hi⟩, by simp⟩
  · obtain ⟨rfl, rfl, rfl⟩ : va = some a ∧ vn = len ∧ vc = cap := by simpa [Value.cells] using hcs
    have hmc : m = vc := by simpa using hmm
    have hlen : vn ≤ 140737488351232 := by
      obtain ⟨rfl, rfl⟩ := Prod.mk.inj hx
      have := hsz ((((List.range vn).map D).length + ((List.range (m - vn)).map fun j => D (vn + j)).length) * Try.prog.bytesOf 4) (by
        simp [DataW.weights, Try.underlying43])
      rw [Try.bytes4] at this
      simp at this
      omega
    obtain ⟨f, hf⟩ : ∃ f : Nat → Bool, ∀ i, i < vn → V i = .bool (f i) := by
      have hh : ∀ i, i < vn → ∃ x : Bool, V i = .bool x := fun i hi => by
        obtain ⟨_, t0⟩ := hc i (by omega)
        obtain ⟨z, hz, _⟩ := DataW.trod_bool Try.underlying4 t0
        exact ⟨z, by simpa using hz⟩
      exact ⟨fun i => if hi : i < vn then Classical.choose (hh i hi) else false, fun i hi => by simp only [dif_pos hi]; exact Classical.choose_spec (hh i hi)⟩
    refine ⟨(List.range vn).map f, ⟨some a, vc, by simp, fun i hi => ?_⟩, by simp; omega⟩
    simp only [List.length_map, List.length_range] at hi
    have hc0 := (hc i (by omega)).1
    obtain ⟨b, o, rfl⟩ := spotless (hc 0 (by omega)).1
    rw [add_eq] at hc0
    refine ⟨b, o, rfl, ?_⟩
    rw [getD_map_range _ _ _ _ hi, ← hf i hi]
    exact hc0

set_option maxRecDepth 100000 in
theorem crash_lifted (os : Os) (started : os.Started) (H : Type) (enc : TypeId × Value → H) :
    ReturnsInHanded {} Try.checked os 8 .any (Rows.fnExactCrashSpec.pre6 enc Try.prog Try.f8 Rows.fnExactCrashRow.domain false) (Rows.fnExactCrashSpec.post enc Try.prog Try.f8 false true false false) := by
  refine returnsInHanded_of_change_sized (C := Try.checked) own started (by kernel_rfl) Try.func8
    (ChangeSpec.witness6 (enc := enc) (C := Try.checked) false ⟨#[], #[.agg #[.slice none 0 0, .slice none 0 0], .slice none 0 0, .int .i64 0], []⟩ 8 (by kernel_rfl) (by kernel_rfl) (by kernel_rfl) (by kernel_rfl)) ?_
  intro W base args ds gs before hval0 hW hcnd hsz0 _
  have hval : ∀ (j : Nat) t v, Try.f8.params[j]? = some t → args[j]? = some v → Value.okWide Try.prog W .any base t v := hval0
  have hsz : (DataW.weightsEach Try.prog (Try.f8.params.toList ++ Rows.fnExactCrashSpec.plain.varTypes Try.prog) (ds ++ gs)).all (· ≤ reachBytes) = true := hsz0
  have hW' := hW
  obtain ⟨p, q, hA0, hV, rfl, hfz, hnd⟩ := hW
  have hA : DataW.TrodAll enc Try.prog W 0 (fun _ => true) true Try.f8.params.toList args.toList ds p := hA0
  rw [Try.params8] at hA hval hsz
  obtain ⟨v0, v1, v2, d0, d1, d2, p0, p1, p2, rfl, rfl, rfl, h0, h1, h2⟩ := trodAll_three hA
  obtain ⟨rfl, rfl⟩ := trodVars_none hV
  have k0 := h0
  have k1 := h1
  have lt1 : ∀ x ∈ p1, x.block < W.heap.size := by obtain ⟨m, hm⟩ := k1; exact DataW.trod_lt m _ _ _ hm
  have lt0 : ∀ x ∈ p0, x.block < W.heap.size := by obtain ⟨m, hm⟩ := k0; exact DataW.trod_lt m _ _ _ hm
  obtain ⟨c0, c1, ss, ws, rfl, hs, hws, l1, l2⟩ := open_disk (hval 0 25 v0 rfl rfl) h0 (fun x hx => by
    have := List.all_eq_true.1 hsz _ (DataW.weights_mem_each (j := 0) (t := 25) rfl rfl x hx)
    rw [reach_eq] at this
    exact of_decide_eq_true this)
  obtain ⟨bs, hl, l3⟩ := open_flags (hval 1 43 v1 rfl rfl) h1 (fun x hx => by
    have := List.all_eq_true.1 hsz _ (DataW.weights_mem_each (j := 1) (t := 43) rfl rfl x hx)
    rw [reach_eq] at this
    exact of_decide_eq_true this)
  obtain ⟨z, rfl, rfl, rfl, wz⟩ := open_int Try.underlying2 (hval 2 2 v2 rfl rfl) h2
  clear hA0 hval0 hsz0
  refine (lawCrash_any c0 c1 v1 ss ws bs z W hs hws hl l1 l2 l3).mono fun e W' ⟨he, bel⟩ => ?_
  subst he
  exact ⟨_, rfl, _, _, _, [], _, [], hW', trodAll_mk1 (shut_bool Try.underlying4 _), trodAll_mk3 (Below.trod laidOut (by kernel_rfl) (of_decide_eq_true (by kernel_rfl)) k0 bel lt0) (Below.trod laidOut (by kernel_rfl) (of_decide_eq_true (by kernel_rfl)) k1 bel lt1) (shut_int Try.underlying2 wz), rfl, bel.frame _, fun h => by cases h⟩

/-- The statement. -/
theorem crash_holds : Rows.FnExactCrashSaid :=
  OpenClaim.holds_of_wide 8 Try.f8 rfl rfl rfl rfl rfl rfl rfl ⟨rfl, rfl, rfl, rfl, rfl⟩ rfl rfl rfl rfl rfl (by kernel_rfl) Try.func8 (by kernel_rfl)
    (of_decide_eq_true (by kernel_rfl)) (by unfold Func.isWrapper; first | (rw [if_pos (by decide +kernel)]; kernel_rfl) | (rw [if_neg (by decide +kernel)]; exact ⟨rfl, rfl⟩))
    (fun os started H enc _ => crash_lifted os started H enc)

#print axioms crash_holds
end Go.Proofs.Ytkalbamigadgnaa
