/- The law on Cut holds: for every disk, every list of texts and every slice of flags, of whatever make, and every two numbers, the call returns true and the arguments and the named variables read as before; what is listed of the package-level variables is tied to the program's text. There are no other conditions. -/
import Derived.Test.YtfcenohgfhefiaaGreatDoorZLawCut
import Derived.Test.YtfcenohgfhefiaaGreatDoorZOpen11
import Derived.Test.YtfcenohgfhefiaaGreatDoorCards
import Derived.Test.YtfcenohgfhefiaaGreatDoorTie
import Derived.SevenTiedAt
import Derived.ChangeMaps5
namespace Go.Proofs.YtfcenohgfhefiaaGreatDoor
open Go.ChangeShapes Go.WideShapes Go.ChangeAt Go.RowKit Go.Deep

theorem trodAll_five {H : Type} {enc : TypeId × Value → H} {P : Program} {w : World} {base : Nat} {spare : Nat → Bool} {held : Bool} {t t' t'' t3 t4 : TypeId} {args : Array Value} {ds : List (DataW H)} {ps : List MemPlace} (h : DataW.TrodAll enc P w base spare held [t, t', t'', t3, t4] args.toList ds ps) :
    ∃ v v' v'' v3 v4 d d' d'' d3 d4 p p' p'' p3 p4, args = #[v, v', v'', v3, v4] ∧ ds = [d, d', d'', d3, d4] ∧ ps = p ++ (p' ++ (p'' ++ (p3 ++ p4))) ∧ DataW.Trod enc P w base spare held t v d p ∧ DataW.Trod enc P w base spare held t' v' d' p' ∧ DataW.Trod enc P w base spare held t'' v'' d'' p'' ∧ DataW.Trod enc P w base spare held t3 v3 d3 p3 ∧ DataW.Trod enc P w base spare held t4 v4 d4 p4 := by
  obtain ⟨v, vs, d, ds', p, q, hargs, rfl, rfl, hd, hrest⟩ := trodAll_cons h
  obtain ⟨v', vs', d', ds'', p', q', rfl, rfl, rfl, hd', hrest'⟩ := trodAll_cons hrest
  obtain ⟨v'', vs'', d'', dsx, p'', q'', rfl, rfl, rfl, hd'', hrest''⟩ := trodAll_cons hrest'
  obtain ⟨v3, vs3, d3, ds3, p3, q3, rfl, rfl, rfl, hd3, hrest3⟩ := trodAll_cons hrest''
  obtain ⟨v4, vs4, d4, ds4, p4, q4, rfl, rfl, rfl, hd4, hrest4⟩ := trodAll_cons hrest3
  obtain ⟨rfl, rfl, rfl⟩ := trodAll_nil hrest4
  exact ⟨v, v', v'', v3, v4, d, d', d'', d3, d4, p, p', p'', p3, p4, by cases args; simp_all, rfl, by simp, hd, hd', hd'', hd3, hd4⟩
theorem Tryz.bytes4 : Tryz.prog.bytesOf 4 = 1 := by kernel_rfl
theorem Tryz.cells4' : Tryz.prog.cellsOf 4 = 1 := by kernel_rfl

set_option maxRecDepth 100000 in
theorem open_flags {H : Type} {enc : TypeId × Value → H} {W : World} {b0 : Nat} {v : Value} {d : DataW H} {p : List MemPlace} (hv : Value.okWide Tryz.prog W .any b0 41 v)
    (h : DataW.Trod enc Tryz.prog W 0 (fun _ => true) true 41 v d p) (hsz : ∀ x ∈ DataW.weights Tryz.prog 41 d, x ≤ 140737488351232) :
    ∃ bs, Disk.LR W v bs ∧ bs.length ≤ 200000000000000 := by
  obtain ⟨va, vn, vc, rfl⟩ := okWide_slice Disk.Tryz.under43 hv
  obtain ⟨n, hn⟩ := h
  rcases open_slice1 Disk.Tryz.under43 Tryz.cells4' hn with ⟨hcs, _⟩ | ⟨a, len, cap, m, k, V, D, Pl, hcs, _, hl, hm, hmm, hx, hc⟩
  · obtain ⟨rfl, rfl, rfl⟩ : va = none ∧ vn = 0 ∧ vc = 0 := by simpa [Value.cells] using hcs
    exact ⟨[], ⟨none, 0, rfl, fun i hi => by simp at hi⟩, by simp⟩
  · obtain ⟨rfl, rfl, rfl⟩ : va = some a ∧ vn = len ∧ vc = cap := by simpa [Value.cells] using hcs
    have hmc : m = vc := by simpa using hmm
    have hlen : vn ≤ 140737488351232 := by
      obtain ⟨rfl, rfl⟩ := Prod.mk.inj hx
      have := hsz ((((List.range vn).map D).length + ((List.range (m - vn)).map fun j => D (vn + j)).length) * Tryz.prog.bytesOf 4) (by
        simp [DataW.weights])
      rw [Tryz.bytes4] at this
      simp at this
      omega
    obtain ⟨f, hf⟩ : ∃ f : Nat → Bool, ∀ i, i < vn → V i = .bool (f i) := by
      have hh : ∀ i, i < vn → ∃ x : Bool, V i = .bool x := fun i hi => by
        obtain ⟨_, t0⟩ := hc i (by omega)
        obtain ⟨z, hz, _⟩ := DataW.trod_bool Tryz.underlying4 t0
        exact ⟨z, by simpa using hz⟩
      exact ⟨fun i => if hi : i < vn then Classical.choose (hh i hi) else false, fun i hi => by simp only [dif_pos hi]; exact Classical.choose_spec (hh i hi)⟩
    refine ⟨(List.range vn).map f, ⟨some a, vc, by simp, fun i hi => ?_⟩, by simp; omega⟩
    simp only [List.length_map, List.length_range] at hi
    have hc0 := (hc i (by omega)).1
    obtain ⟨b, o, rfl⟩ := Disk.spotless (hc 0 (by omega)).1
    rw [Disk.add_eq] at hc0
    refine ⟨b, o, rfl, ?_⟩
    rw [Disk.getD_map_range _ _ _ _ hi, ← hf i hi]
    exact hc0
theorem cut_reach : reachBytes = 140737488351232 := rfl
theorem cut_split {W : World} (h : laidMetH Tryz.prog Rows.fnExactCutRow.laid W) : laidMet Tryz.prog L11 W ∧ handlesMet Tryz.prog [(nmO 3, Rows.laid_errors_errorType)] W := h

/-- The door's own heap meets the condition. -/
theorem cut_met (os : Os) (args : Array Value) : laidMetH Tryz.prog Rows.fnExactCutRow.laid ((World.doorLaid Tryz.prog 400 os).forCall (fun _ _ => 0) ⟨#[], args, []⟩).memory :=
  laidMetH_of_parts3 (fuel := 8) (laidMet_of_run' 8 (by kernel_rfl) (by kernel_rfl)) (by kernel_rfl) (by kernel_rfl)

set_option maxRecDepth 100000 in
theorem cut_lifted (os : Os) (started : os.Started) (H : Type) (enc : TypeId × Value → H) :
    ReturnsInHanded {} Tryz.checked os 8 .any (fun w args => (Rows.fnExactCutSpec.pre enc Tryz.prog Tryz.f8 [] false w args ∧ laidMetH Tryz.prog Rows.fnExactCutRow.laid w) ∧ sizedMet enc Tryz.prog Tryz.f8 (OpenSpec.ofChange Rows.fnExactCutSpec) false w args)
      (Rows.fnExactCutSpec.post enc Tryz.prog Tryz.f8 false true false false) := by
  refine handed_both (C := Tryz.checked) (X := fun w _ => laidMetH Tryz.prog Rows.fnExactCutRow.laid w) (fun _ _ _ hh h => h.of_heap hh) Disk.own started (by kernel_rfl) Tryz.func8
    (ChangeSpec.witness_shaped (enc := enc) (C := Tryz.checked) (os := os) (X := fun w _ => laidMetH Tryz.prog Rows.fnExactCutRow.laid w) false (World.doorLaid Tryz.prog 400 os) #[.agg #[.slice none 0 0, .slice none 0 0], .slice none 0 0, .int .i64 0, .slice none 0 0, .int .i64 0] 8 rfl (World.shaped_of_RefB (by kernel_rfl) (by kernel_rfl)) (by kernel_rfl) (by kernel_rfl) (by kernel_rfl) (cut_met os _)) ?_
  intro W base args ds gs before hval0 hW _ hsz0 hL hsh _
  have hval : ∀ (j : Nat) t v, Tryz.f8.params[j]? = some t → args[j]? = some v → Value.okWide Tryz.prog W .any base t v := hval0
  have hsz : (DataW.weightsEach Tryz.prog (Tryz.f8.params.toList ++ Rows.fnExactCutSpec.plain.varTypes Tryz.prog) (ds ++ gs)).all (· ≤ reachBytes) = true := hsz0
  have hW' := hW
  obtain ⟨p, q, hA0, hV0, rfl, hfz, hnd⟩ := hW
  have hA : DataW.TrodAll enc Tryz.prog W 0 (fun _ => true) true Tryz.f8.params.toList args.toList ds p := hA0
  have hV : DataW.TrodVars enc Tryz.prog W (fun _ => true) [nmG, nmO 9, nmO 6, nmO 7, nmO 8] gs q := hV0
  rw [Tryz.params8] at hA hval hsz
  obtain ⟨v0, v1, v2, v3, v4, d0, d1, d2, d3, d4, p0, p1, p2, p3, p4, rfl, rfl, rfl, h0, h1, h2, h3, h4⟩ := trodAll_five hA
  have k0 := h0
  have k1 := h1
  have k3 := h3
  have lt0 : ∀ x ∈ p0, x.block < W.heap.size := by obtain ⟨m, hm⟩ := k0; exact DataW.trod_lt m _ _ _ hm
  have lt1 : ∀ x ∈ p1, x.block < W.heap.size := by obtain ⟨m, hm⟩ := k1; exact DataW.trod_lt m _ _ _ hm
  have lt3 : ∀ x ∈ p3, x.block < W.heap.size := by obtain ⟨m, hm⟩ := k3; exact DataW.trod_lt m _ _ _ hm
  obtain ⟨c0, c1, ss, ws, rfl, hs, hws, l1, l2⟩ := Disk.open_disk (hval 0 56 v0 rfl rfl) h0 (fun x hx => by
    have := List.all_eq_true.1 hsz _ (DataW.weights_mem_each (j := 0) (t := 56) rfl rfl x hx)
    rw [cut_reach] at this
    exact of_decide_eq_true this)
  obtain ⟨bs, hbs, l3⟩ := open_texts (hval 1 24 v1 rfl rfl) h1 (fun x hx => by
    have := List.all_eq_true.1 hsz _ (DataW.weights_mem_each (j := 1) (t := 24) rfl rfl x hx)
    rw [cut_reach] at this
    exact of_decide_eq_true this)
  obtain ⟨ls, hls, l4⟩ := open_flags (hval 3 41 v3 rfl rfl) h3 (fun x hx => by
    have := List.all_eq_true.1 hsz _ (DataW.weights_mem_each (j := 3) (t := 41) rfl rfl x hx)
    rw [cut_reach] at this
    exact of_decide_eq_true this)
  obtain ⟨z2, rfl, rfl, rfl, wz2⟩ := open_int Tryz.underlying2 (hval 2 2 v2 rfl rfl) h2
  obtain ⟨z4, rfl, rfl, rfl, wz4⟩ := open_int Tryz.underlying2 (hval 4 2 v4 rfl rfl) h4
  obtain ⟨a0, a1, a2, a3, hC, w8, w9, w6, w7⟩ := ctx_of_met (cut_split hL).1 (cut_split hL).2 hsh
  obtain ⟨bg, wg⟩ := given_of_met (cut_split hL).1
  obtain ⟨rfl, rfl⟩ := hV.unique (vars_read5 enc Tryz.underlying118 gG tGG wg trivial gO9 tG1 w9 trivial gO6 tG2 w6 trivial gO7 tG3 w7 trivial gO8 tG0 w8 trivial _)
  have hgv : W.cell? ⟨0, 0, none⟩ = some (.iface 222 (.pointer (some bg))) := by simpa using World.var?_cell gG wg 0
  clear hA0 hV0 hval0 hsz0
  refine (lawCut_any c0 c1 v1 v3 ss ws bs z2 ls z4 a0 a1 a2 a3 _ _ W hs hws hbs hls l1 l2 l3 l4 hC hgv).mono fun x W' ⟨he, bel⟩ => ?_
  subst he
  exact ⟨_, rfl, _, _, _, [], _, [.cell 0 0, .cell 3 0, .cell 4 0, .cell 5 0, .cell 1 0], hW', trodAll_mk1 (shut_bool Tryz.underlying4 _), trodAll_cons_mk (Below.trod Disk.laidOut (by kernel_rfl) (of_decide_eq_true (by kernel_rfl)) k0 bel lt0) (trodAll_cons_mk (Below.trod Disk.laidOut (by kernel_rfl) (of_decide_eq_true (by kernel_rfl)) k1 bel lt1) (trodAll_mk3 (shut_int Tryz.underlying2 wz2) (Below.trod Disk.laidOut (by kernel_rfl) (of_decide_eq_true (by kernel_rfl)) k3 bel lt3) (shut_int Tryz.underlying2 wz4))),
    vars_read5 enc Tryz.underlying118 gG tGG (var_later wg bel) trivial gO9 tG1 (var_later w9 bel) trivial gO6 tG2 (var_later w6 bel) trivial gO7 tG3 (var_later w7 bel) trivial gO8 tG0 (var_later w8 bel) trivial _, bel.frame _, fun h => by cases h⟩

theorem cut_said : Rows.FnExactCutSaid :=
  OpenClaim.holds_of_wide 8 Tryz.f8 rfl rfl rfl rfl rfl rfl rfl ⟨rfl, rfl, rfl, rfl, rfl⟩ rfl rfl rfl rfl rfl (by kernel_rfl) Tryz.func8 (by kernel_rfl)
    (of_decide_eq_true (by kernel_rfl)) (by unfold Func.isWrapper; first | (rw [if_pos (by decide +kernel)]; kernel_rfl) | (rw [if_neg (by decide +kernel)]; exact ⟨rfl, rfl⟩))
    (fun os started H enc _ => cut_lifted os started H enc)

/-- The statement. -/
theorem cut_holds : Rows.FnExactCutCardSaid :=
  Claim7.holds_tied_plain_at .later [] [.data, .data, .data, .handle, .sentinel, .sentinel, .sentinel, .sentinel, .sentinel, .sentinel, .sentinel] true Rows.fnExactCutCard.stood.harness true
    cut_said (fun _ h => by cases h) (by kernel_rfl) (fun _ h => by cases h) fnExactCut_row_tie rfl ⟨rfl, rfl⟩ (by kernel_rfl) rfl
    (fun f fn hf hfn => by
      obtain rfl : f = 8 := Option.some.inj ((show Tryz.prog.funcNamed Rows.fnExactCutRow.func = some 8 by kernel_rfl).symm.trans hf) |>.symm
      obtain rfl : fn = Tryz.f8 := (Option.some.inj (Tryz.func8.symm.trans hfn)).symm
      exact ⟨by kernel_rfl, fun j t ht => by
        rw [Tryz.params8] at ht
        have h3 : t = 56 ∨ t = 24 ∨ t = 2 ∨ t = 41 := by
          rcases j with _ | _ | _ | _ | _ | j
          · exact .inl (by simpa using ht.symm)
          · exact .inr (.inl (by simpa using ht.symm))
          · exact .inr (.inr (.inl (by simpa using ht.symm)))
          · exact .inr (.inr (.inr (by simpa using ht.symm)))
          · exact .inr (.inr (.inl (by simpa using ht.symm)))
          · simp at ht
        rcases h3 with rfl | rfl | rfl | rfl
        · exact (show Tryz.prog.wantsStandIn 56 = false by kernel_rfl)
        · exact (show Tryz.prog.wantsStandIn 24 = false by kernel_rfl)
        · exact (show Tryz.prog.wantsStandIn 2 = false by kernel_rfl)
        · exact (show Tryz.prog.wantsStandIn 41 = false by kernel_rfl)⟩)
    (by kernel_rfl)

#print axioms cut_holds
end Go.Proofs.YtfcenohgfhefiaaGreatDoor
