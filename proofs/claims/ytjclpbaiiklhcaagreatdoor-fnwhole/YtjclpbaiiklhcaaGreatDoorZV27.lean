import Derived.HandedShaped
import Derived.Stop.LaidTwo
import Derived.RowKitTokens
import Derived.Below
import Derived.Stop.Joined
import Derived.Test.YtjclpbaiiklhcaaGreatDoorZV12
import Derived.Test.YtjclpbaiiklhcaaGreatDoorZLaid
import Derived.LaidHandle
import Derived.Test.YtjclpbaiiklhcaaGreatDoorZDBase
import Derived.Test.YtjclpbaiiklhcaaGreatDoorZV3
import Derived.ChangeSlices
/- A builder that keeps both what is listed of the variables and the world's shape; lists with one left out; four variables read. -/
namespace Go.Proofs.YtjclpbaiiklhcaaGreatDoor
open Go Go.RowKit Go.ChangeShapes
variable {H : Type} {enc : TypeId × Value → H}

theorem handed_both {a : Assume} {C : Checked} {os : Os} {f : FuncId} {fn : Func} {s : ChangeSpec} {conds : List PathCond} {apart fresh handsOn again : Bool} {X : World → Array Value → Prop}
    (hX : ∀ (w w' : World) (args : Array Value), w.heap = w'.heap → X w args → X w' args)
    (own : ownKnob C.prog.godebug = none) (started : os.Started) (noInit : C.prog.inits.idxOf? f = none) (hfn : C.prog.funcs[f]? = some fn)
    (witness : ∃ (w : World) (tape : Tape) (i : Input), w.os = os ∧ (w.forCall tape i).Shaped C.prog ∧ i.vars = [] ∧ Input.okWide C.prog (w.forCall tape i) .any w.heap.size f i ∧
      ((s.pre enc C.prog fn conds apart (w.forCall tape i).memory i.args ∧ X (w.forCall tape i).memory i.args) ∧ sizedMet enc C.prog fn (OpenSpec.ofChange s) apart (w.forCall tape i).memory i.args) ∧ a.holds C.prog (lone (Frame.enter C.prog f i.args .normal) [] (w.forCall tape i)))
    (contract : ∀ (W : World) (base : Nat) (args : Array Value) (ds gs : List (DataW H)) (before : List MemPlace),
      (∀ (j : Nat) t v, fn.params[j]? = some t → args[j]? = some v → Value.okWide C.prog W .any base t v) →
      DataW.Whole enc C.prog fn.params.toList s.vars apart W args.toList ds gs before →
      conds.all (PathCond.test C.prog ⟨fn.params.toList, ds, s.plain.varTypes C.prog, gs⟩) = true →
      (DataW.weightsEach C.prog (fn.params.toList ++ s.plain.varTypes C.prog) (ds ++ gs)).all (· ≤ reachBytes) = true → X W args → W.ShapedOpen C.prog →
      a.holds C.prog (lone (Frame.enter C.prog f args .normal) [] W) →
      Calls C.prog f args W fun e W' => ∃ v, e = .returned v ∧ s.post enc C.prog fn apart fresh handsOn again W args v W') :
    ReturnsInHanded a C os f .any (fun w args => (s.pre enc C.prog fn conds apart w args ∧ X w args) ∧ sizedMet enc C.prog fn (OpenSpec.ofChange s) apart w args) (s.post enc C.prog fn apart fresh handsOn again) := by
  refine returnsInHanded_of_calls own started noInit witness ?_
  intro w tape i _ hsh _ hok hpre hholds
  obtain ⟨_, _, _, fn', hfn', _, _, _, _, hval⟩ := hok
  have e : fn' = fn := Option.some.inj (hfn'.symm.trans hfn)
  subst e
  obtain ⟨⟨⟨ds, gs, before, hw, hc⟩, hx⟩, hz⟩ := hpre
  have hw' := DataW.Whole.of_heap (w' := w.forCall tape i) (by rfl) hw
  refine (contract (w.forCall tape i) w.heap.size i.args ds gs before hval hw' hc (hz.weights hw) (hX _ _ _ (by rfl) hx) hsh hholds).mono fun e W' ⟨v, he, hp⟩ => ?_
  subst he
  exact ChangeSpec.post_blind hp

/-- The second of a list left out. -/
theorem laid_skip {P : Program} {x y : String × DataW Unit} {r : List (String × DataW Unit)} {w : World} (h : laidMet P (x :: y :: r) w) : laidMet P (x :: r) w := by
  obtain ⟨ps, hv, hnd, hrows⟩ := h
  obtain ⟨n, d⟩ := x
  obtain ⟨n', d'⟩ := y
  obtain ⟨g, t, cs, fuel, p, q, h1, h2, h3, h4, ⟨g', t', cs', fuel', p', q', _, _, _, _, hq, rfl⟩, rfl⟩ := hv
  have sub : List.Sublist (MemPlace.row ⟨g, 0, none⟩ cs.size ++ p ++ q') (MemPlace.row ⟨g, 0, none⟩ cs.size ++ p ++ (MemPlace.row ⟨g', 0, none⟩ cs'.size ++ p' ++ q')) :=
    List.Sublist.append (List.Sublist.refl _) (List.sublist_append_right _ _)
  exact ⟨_, ⟨g, t, cs, fuel, p, q', h1, h2, h3, h4, hq, rfl⟩, List.Nodup.sublist sub hnd, fun b off hm => hrows b off (sub.subset hm)⟩

theorem vars_read4 {H : Type} (enc : TypeId × Value → H) {P : Program} {W : World} {n0 n1 n2 n3 : String} {g0 g1 g2 g3 : Nat} {t : TypeId} {ms : Array (String × TypeId)} {x0 x1 x2 x3 : Value}
    (hi : P.underlying t = some (.interface ms))
    (hg0 : P.globalNamed n0 = some g0) (ht0 : (P.globals[g0]?).map (·.type) = some t) (h0 : W.var? P n0 = some #[x0]) (i0 : IsIface x0)
    (hg1 : P.globalNamed n1 = some g1) (ht1 : (P.globals[g1]?).map (·.type) = some t) (h1 : W.var? P n1 = some #[x1]) (i1 : IsIface x1)
    (hg2 : P.globalNamed n2 = some g2) (ht2 : (P.globals[g2]?).map (·.type) = some t) (h2 : W.var? P n2 = some #[x2]) (i2 : IsIface x2)
    (hg3 : P.globalNamed n3 = some g3) (ht3 : (P.globals[g3]?).map (·.type) = some t) (h3 : W.var? P n3 = some #[x3]) (i3 : IsIface x3) (sp : Nat → Bool) :
    DataW.TrodVars enc P W sp [n0, n1, n2, n3] [tok enc x0, tok enc x1, tok enc x2, tok enc x3] [.cell g0 0, .cell g1 0, .cell g2 0, .cell g3 0] :=
  ⟨g0, t, #[x0], 1, [], [.cell g1 0, .cell g2 0, .cell g3 0], hg0, ht0, h0, trod_held hi i0 0, ⟨g1, t, #[x1], 1, [], [.cell g2 0, .cell g3 0], hg1, ht1, h1, trod_held hi i1 0, ⟨g2, t, #[x2], 1, [], [.cell g3 0], hg2, ht2, h2, trod_held hi i2 0, ⟨g3, t, #[x3], 1, [], [], hg3, ht3, h3, trod_held hi i3 0, rfl, rfl⟩, rfl⟩, rfl⟩, rfl⟩

theorem var_later {P : Program} {W W' : World} {n : String} {x : Array Value} (h : W.var? P n = some x) (hb : Below W.heap.size W W') : W'.var? P n = some x := by
  unfold World.var? at *
  cases hg : P.globalNamed n with
  | none => simp [hg] at h
  | some g =>
    simp only [hg, Option.bind_some] at h ⊢
    have hlt : g < W.heap.size := by
      rcases Nat.lt_or_ge g W.heap.size with h' | h'
      · exact h'
      · rw [Array.getElem?_eq_none h'] at h; simp at h
    rw [hb.block g hlt]
    exact h

end Go.Proofs.YtjclpbaiiklhcaaGreatDoor

/- What the listed variables give OpenPage's walk. -/
namespace Go.Proofs.YtjclpbaiiklhcaaGreatDoor
open Go.ChangeShapes Go.WideShapes Go.ChangeAt Go.RowKit

def nmO (i : Nat) : String := (Rows.fnCommittedRow.laid.map (·.1)).getD i ""
theorem gO3 : Tryz.prog.globalNamed (nmO 3) = some 6 := by kernel_rfl
theorem gO4 : Tryz.prog.globalNamed (nmO 4) = some 11 := by kernel_rfl
theorem gO5 : Tryz.prog.globalNamed (nmO 5) = some 10 := by kernel_rfl
theorem gO6 : Tryz.prog.globalNamed (nmO 6) = some 3 := by kernel_rfl
theorem gO7 : Tryz.prog.globalNamed (nmO 7) = some 4 := by kernel_rfl
theorem gO8 : Tryz.prog.globalNamed (nmO 8) = some 1 := by kernel_rfl
theorem gO9 : Tryz.prog.globalNamed (nmO 9) = some 2 := by kernel_rfl
theorem tG0 : (Tryz.prog.globals[1]?).map (·.type) = some 92 := by kernel_rfl
theorem tG1 : (Tryz.prog.globals[2]?).map (·.type) = some 92 := by kernel_rfl
theorem tG2 : (Tryz.prog.globals[3]?).map (·.type) = some 92 := by kernel_rfl
theorem tG3 : (Tryz.prog.globals[4]?).map (·.type) = some 92 := by kernel_rfl
theorem tG9 : (Tryz.prog.globals[10]?).map (·.type) = some 92 := by kernel_rfl
theorem tG10 : (Tryz.prog.globals[11]?).map (·.type) = some 92 := by kernel_rfl
theorem Tryz.rt : (Tryz.prog.cutTypes.find? (·.1 == "internal/reflectlite.rtype")).map (·.2) = some 176 := by kernel_rfl
theorem Tryz.oneRow : ((List.range 231).filter fun t => Tryz.prog.rowNamed t [101, 114, 114, 111, 114]) = [92] := by kernel_rfl
theorem Tryz.size : Tryz.prog.types.size = 231 := by kernel_rfl

theorem hd_of_laid {W : World} (h : handlesMet Tryz.prog [(nmO 3, Rows.laid_errors_errorType)] W) : Hd W := by
  obtain ⟨name, u, ty, e1, e2, e3, e4, e5⟩ := h _ (List.mem_singleton.2 rfl)
  have en : name = [101, 114, 114, 111, 114] := (Option.some.inj e1).symm
  subst en
  obtain rfl := Option.some.inj (Tryz.rt.symm.trans e2)
  have hm : ty ∈ (List.range 231).filter fun t => Tryz.prog.rowNamed t [101, 114, 114, 111, 114] := List.mem_filter.2 ⟨List.mem_range.2 (by rw [← Tryz.size]; exact e3), e4⟩
  rw [Tryz.oneRow] at hm
  obtain rfl := List.mem_singleton.1 hm
  have hh : typeHandle Tryz.prog 92 = .pointer (some ⟨12, 92, none⟩) := by kernel_rfl
  rw [hh] at e5
  unfold Hd
  simpa using World.var?_cell gO3 e5 0

abbrev L9r (r : List (String × DataW Unit)) : List (String × DataW Unit) := (nmO 0, Rows.laid_math_bits_deBruijn32tab) :: (nmO 1, Rows.laid_math_bits_deBruijn64tab) :: (powName, Rows.laid_internal_strconv_uint64pow10) :: (nmO 4, Rows.laid_strconv_ErrRange) :: (nmO 5, Rows.laid_strconv_ErrSyntax) ::
  (nmO 6, Rows.laid_loop_example_g00140_impl_errEmptyText) :: (nmO 7, Rows.laid_loop_example_g00140_impl_errPageForm) :: (nmO 8, Rows.laid_loop_example_g00140_impl_errPageRange) :: (nmO 9, Rows.laid_loop_example_g00140_impl_errPageSum) :: r
theorem inj_addr {a b : Addr} {x : Option (Array Value)} (h : x = some #[.iface 200 (.pointer (some a))]) (k : x = some #[.iface 200 (.pointer (some b))]) : a = b := by
  have e := h.symm.trans k
  simpa using e

set_option maxRecDepth 100000 in
theorem ctx_of_met {W : World} {r : List (String × DataW Unit)} (hL : laidMet Tryz.prog (L9r r) W) (hH : handlesMet Tryz.prog [(nmO 3, Rows.laid_errors_errorType)] W) (hsh : W.ShapedOpen Tryz.prog) :
    ∃ a0 a1 a2 a3, Ctx a0 a1 a2 a3 W ∧ W.var? Tryz.prog (nmO 8) = some #[.iface 200 (.pointer (some a0))] ∧ W.var? Tryz.prog (nmO 9) = some #[.iface 200 (.pointer (some a1))] ∧
      W.var? Tryz.prog (nmO 6) = some #[.iface 200 (.pointer (some a2))] ∧ W.var? Tryz.prog (nmO 7) = some #[.iface 200 (.pointer (some a3))] := by
  have hT : Tb W := tb_of_met (laidMet.tail (laidMet.tail hL))
  have L4 := laidMet.tail (laidMet.tail (laidMet.tail hL))
  obtain ⟨b4, _, v4, _, _, _⟩ := laid_sentinel (n := nmO 4) L4 gO4 tG10 Tryz.underlying92 row138 Tryz.underlying200 Tryz.underlying202 rfl rfl Tryz.underlying9 Tryz.cells140 Tryz.cells9
  have L5 := laidMet.tail L4
  obtain ⟨b5, _, v5, _, _, _⟩ := laid_sentinel (n := nmO 5) L5 gO5 tG9 Tryz.underlying92 row138 Tryz.underlying200 Tryz.underlying202 rfl rfl Tryz.underlying9 Tryz.cells140 Tryz.cells9
  have L6 := laidMet.tail L5
  obtain ⟨a2, a3, _, _, _, _, _, _, v6, v7, _, _, _, _, _, _, n23, r2, r3⟩ := laid_sentinels2 (n0 := nmO 6) (n1 := nmO 7) L6 gO6 tG2 gO7 tG3 Tryz.underlying92 row138 Tryz.underlying200 Tryz.underlying202 rfl rfl Tryz.underlying9 Tryz.cells140 Tryz.cells9
  obtain ⟨a0, a1, _, _, _, _, _, _, v8, v9, _, _, _, _, _, _, n01, r0, r1⟩ := laid_sentinels2 (n0 := nmO 8) (n1 := nmO 9) (laidMet.tail (laidMet.tail L6)) gO8 tG0 gO9 tG1 Tryz.underlying92 row138 Tryz.underlying200 Tryz.underlying202 rfl rfl Tryz.underlying9 Tryz.cells140 Tryz.cells9
  have n20 : a2 ≠ a0 := by
    obtain ⟨x, y, _, _, _, _, _, _, vx, vy, _, _, _, _, _, _, n, _, _⟩ := laid_sentinels2 (n0 := nmO 6) (n1 := nmO 8) (laid_skip L6) gO6 tG2 gO8 tG0 Tryz.underlying92 row138 Tryz.underlying200 Tryz.underlying202 rfl rfl Tryz.underlying9 Tryz.cells140 Tryz.cells9
    rw [inj_addr v6 vx, inj_addr v8 vy]; exact n
  have n21 : a2 ≠ a1 := by
    obtain ⟨x, y, _, _, _, _, _, _, vx, vy, _, _, _, _, _, _, n, _, _⟩ := laid_sentinels2 (n0 := nmO 6) (n1 := nmO 9) (laid_skip (laid_skip L6)) gO6 tG2 gO9 tG1 Tryz.underlying92 row138 Tryz.underlying200 Tryz.underlying202 rfl rfl Tryz.underlying9 Tryz.cells140 Tryz.cells9
    rw [inj_addr v6 vx, inj_addr v9 vy]; exact n
  have n30 : a3 ≠ a0 := by
    obtain ⟨x, y, _, _, _, _, _, _, vx, vy, _, _, _, _, _, _, n, _, _⟩ := laid_sentinels2 (n0 := nmO 7) (n1 := nmO 8) (laidMet.tail L6) gO7 tG3 gO8 tG0 Tryz.underlying92 row138 Tryz.underlying200 Tryz.underlying202 rfl rfl Tryz.underlying9 Tryz.cells140 Tryz.cells9
    rw [inj_addr v7 vx, inj_addr v8 vy]; exact n
  have n31 : a3 ≠ a1 := by
    obtain ⟨x, y, _, _, _, _, _, _, vx, vy, _, _, _, _, _, _, n, _, _⟩ := laid_sentinels2 (n0 := nmO 7) (n1 := nmO 9) (laid_skip (laidMet.tail L6)) gO7 tG3 gO9 tG1 Tryz.underlying92 row138 Tryz.underlying200 Tryz.underlying202 rfl rfl Tryz.underlying9 Tryz.cells140 Tryz.cells9
    rw [inj_addr v7 vx, inj_addr v9 vy]; exact n
  refine ⟨a0, a1, a2, a3, ⟨⟨hT, ⟨200, .pointer (some b5), by simpa using World.var?_cell gO5 v5 0⟩, ⟨200, .pointer (some b4), by simpa using World.var?_cell gO4 v4 0⟩, Tryz.laysM145.s1_3 W hsh⟩,
    ⟨by simpa using World.var?_cell gO8 v8 0, by simpa using World.var?_cell gO9 v9 0, by simpa using World.var?_cell gO6 v6 0, by simpa using World.var?_cell gO7 v7 0⟩,
    ⟨⟨_, _, r0⟩, ⟨_, _, r1⟩, ⟨_, _, r2⟩, ⟨_, _, r3⟩⟩, hd_of_laid hH, ⟨n01, n20.symm, n30.symm, n21.symm, n31.symm, n23⟩⟩, v8, v9, v6, v7⟩

end Go.Proofs.YtjclpbaiiklhcaaGreatDoor

/- What the eleven listed variables give the walks of a commit; a list of texts that came in as an argument. -/
namespace Go.Proofs.YtjclpbaiiklhcaaGreatDoor
open Go.ChangeShapes Go.WideShapes Go.ChangeAt Go.RowKit Go.Deep

def nmG : String := (Rows.fnCommittedRow.laid.map (·.1)).getD 10 ""
theorem gG : Tryz.prog.globalNamed nmG = some 0 := by kernel_rfl
theorem tGG : (Tryz.prog.globals[0]?).map (·.type) = some 92 := by kernel_rfl
abbrev L11 : List (String × DataW Unit) := L9r [(nmG, Rows.laid_loop_example_g00140_impl_errGivenUp)]

set_option maxRecDepth 100000 in
theorem given_of_met {W : World} (hL : laidMet Tryz.prog L11 W) : ∃ b, W.var? Tryz.prog nmG = some #[.iface 200 (.pointer (some b))] := by
  have L := laidMet.tail (laidMet.tail (laidMet.tail (laidMet.tail (laidMet.tail (laidMet.tail (laidMet.tail (laidMet.tail (laidMet.tail hL))))))))
  obtain ⟨b4, _, v4, _, _, _⟩ := laid_sentinel (n := nmG) L gG tGG Tryz.underlying92 row138 Tryz.underlying200 Tryz.underlying202 rfl rfl Tryz.underlying9 Tryz.cells140 Tryz.cells9
  exact ⟨b4, v4⟩
theorem vars_read5 {H : Type} (enc : TypeId × Value → H) {P : Program} {W : World} {n0 n1 n2 n3 n4 : String} {g0 g1 g2 g3 g4 : Nat} {t : TypeId} {ms : Array (String × TypeId)} {x0 x1 x2 x3 x4 : Value}
    (hi : P.underlying t = some (.interface ms))
    (hg0 : P.globalNamed n0 = some g0) (ht0 : (P.globals[g0]?).map (·.type) = some t) (h0 : W.var? P n0 = some #[x0]) (i0 : IsIface x0)
    (hg1 : P.globalNamed n1 = some g1) (ht1 : (P.globals[g1]?).map (·.type) = some t) (h1 : W.var? P n1 = some #[x1]) (i1 : IsIface x1)
    (hg2 : P.globalNamed n2 = some g2) (ht2 : (P.globals[g2]?).map (·.type) = some t) (h2 : W.var? P n2 = some #[x2]) (i2 : IsIface x2)
    (hg3 : P.globalNamed n3 = some g3) (ht3 : (P.globals[g3]?).map (·.type) = some t) (h3 : W.var? P n3 = some #[x3]) (i3 : IsIface x3)
    (hg4 : P.globalNamed n4 = some g4) (ht4 : (P.globals[g4]?).map (·.type) = some t) (h4 : W.var? P n4 = some #[x4]) (i4 : IsIface x4) (sp : Nat → Bool) :
    DataW.TrodVars enc P W sp [n0, n1, n2, n3, n4] [tok enc x0, tok enc x1, tok enc x2, tok enc x3, tok enc x4] [.cell g0 0, .cell g1 0, .cell g2 0, .cell g3 0, .cell g4 0] :=
  ⟨g0, t, #[x0], 1, [], [.cell g1 0, .cell g2 0, .cell g3 0, .cell g4 0], hg0, ht0, h0, trod_held hi i0 0, vars_read4 enc hi hg1 ht1 h1 i1 hg2 ht2 h2 i2 hg3 ht3 h3 i3 hg4 ht4 h4 i4 sp, rfl⟩

set_option maxRecDepth 100000 in
theorem open_texts {H : Type} {enc : TypeId × Value → H} {W : World} {b0 : Nat} {v : Value} {d : DataW H} {p : List MemPlace} (hv : Value.okWide Tryz.prog W .any b0 24 v)
    (h : DataW.Trod enc Tryz.prog W 0 (fun _ => true) true 24 v d p) (hsz : ∀ x ∈ DataW.weights Tryz.prog 24 d, x ≤ 140737488351232) : ∃ ss, Disk.SR W v ss ∧ ss.length ≤ 10000000000000 := by
  obtain ⟨a0, len0, cap0, rfl⟩ := okWide_slice Tryz.underlying24 hv
  obtain ⟨fuel, hf⟩ := h
  rcases open_strs Tryz.underlying24 Tryz.underlying9 Tryz.cells9 hf with ⟨hcs, _⟩ | ⟨a, len, cap, m, Sx, hcs, _, hl, hm, hmm, hx, hc⟩
  · simp [Value.cells] at hcs
    obtain ⟨rfl, rfl, rfl⟩ := hcs
    exact ⟨[], ⟨none, 0, rfl, fun i hi => by simp at hi⟩, by simp⟩
  · simp [Value.cells] at hcs
    obtain ⟨rfl, rfl, rfl⟩ := hcs
    have hmc : m = cap0 := by simpa using hmm
    have hlen : len0 ≤ 10000000000000 := by
      have := hsz ((((List.range len0).map fun i => DataW.lit (H := H) (.string (Sx i).data.toList)).length + ((List.range (m - len0)).map fun j => DataW.lit (H := H) (.string (Sx (len0 + j)).data.toList)).length) * Tryz.prog.bytesOf 9) (by
        have hx' : d = _ := congrArg Prod.fst hx
        rw [hx']
        simp [DataW.weights, Tryz.underlying24])
      rw [Disk.Tryz.bytes9] at this
      simp at this
      omega
    refine ⟨(List.range len0).map Sx, ⟨some a, cap0, by simp, fun i hi => ?_⟩, by simpa using hlen⟩
    simp only [List.length_map, List.length_range] at hi
    have hci := (hc i (by omega)).1
    obtain ⟨b, o, rfl⟩ := Disk.spotless (hc 0 (by omega)).1
    refine ⟨b, o, rfl, ?_⟩
    rw [Disk.add_eq] at hci
    rw [Disk.getD_map_range _ _ _ _ hi]
    exact hci

end Go.Proofs.YtjclpbaiiklhcaaGreatDoor

/- A slice of bytes that came in as an argument. -/
namespace Go.Proofs.YtjclpbaiiklhcaaGreatDoor
open Go.ChangeShapes Go.WideShapes Go.ChangeAt Go.RowKit

theorem Tryz.cells5 : Tryz.prog.cellsOf 5 = 1 := by kernel_rfl
theorem add_eq (b o i : Nat) : (⟨b, o, none⟩ : Addr).add i = ⟨b, o + i, none⟩ := by
  unfold Addr.add
  by_cases h : i = 0
  · simp [h]
  · simp [h]
theorem spotless {w : World} {a : Addr} {v : Value} (h : w.cell? (a.add 0) = some v) : ∃ b o, a = ⟨b, o, none⟩ := by
  obtain ⟨b, o, s⟩ := a
  have : s = none := by simpa [Addr.add] using World.cell?_spot h
  exact ⟨b, o, by rw [this]⟩

set_option maxRecDepth 100000 in
theorem open_bytes {H : Type} {enc : TypeId × Value → H} {W : World} {b0 : Nat} {v : Value} {d : DataW H} {p : List MemPlace} (hv : Value.okWide Tryz.prog W .any b0 22 v)
    (h : DataW.Trod enc Tryz.prog W 0 (fun _ => true) true 22 v d p) : ∃ l, BR W v l := by
  obtain ⟨a0, len, cap, rfl⟩ := okWide_slice Tryz.underB hv
  obtain ⟨fuel, hf⟩ := h
  rcases open_ints Tryz.underB Tryz.underlying5 Tryz.cells5 hf with ⟨hcs, hx⟩ | ⟨a, len', cap', zs, hcs, _, hl, hm, hz, hx, hcell, hwz⟩
  · simp [Value.cells] at hcs
    obtain ⟨rfl, rfl, rfl⟩ := hcs
    exact ⟨[], none, 0, rfl, Nat.le_refl _, fun i hi => by simp at hi⟩
  · simp [Value.cells] at hcs
    obtain ⟨rfl, rfl, rfl⟩ := hcs
    simp only [if_true] at hz
    have e : ((zs.take len).map fun z => UInt8.ofNat z.toNat).length = len := by rw [List.length_map, List.length_take]; omega
    refine ⟨(zs.take len).map fun z => UInt8.ofNat z.toNat, some a, cap, by rw [e], by rw [e]; exact hl, fun i hi => ?_⟩
    have hi' : i < len := by omega
    obtain ⟨b, o, rfl⟩ := spotless (hcell 0 (by omega))
    have hci := hcell i (by omega)
    rw [add_eq] at hci
    refine ⟨b, o, rfl, ?_⟩
    rw [hci]
    have hzi : i < zs.length := by omega
    have hw := hwz zs[i] (List.getElem_mem hzi)
    have hr : 0 ≤ zs[i] ∧ zs[i] ≤ 255 := by
      have m0 : IntKind.u8.min = 0 := by rfl
      have m1 : IntKind.u8.max = 255 := by rfl
      simp only [Lit.wf, Bool.and_eq_true, decide_eq_true_eq, m0, m1] at hw
      exact hw
    have e2 := byte_of zs[i] hr.1 hr.2
    simp [List.getD_eq_getElem?_getD, hzi, List.getElem_map, List.getElem_take]
    omega

end Go.Proofs.YtjclpbaiiklhcaaGreatDoor
