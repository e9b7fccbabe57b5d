
import Derived.Test.YtboiknllmnfipaaDoorZU7
import Derived.Test.YtboiknllmnfipaaDoorZShelf
import Derived.Laws.MakeOwn
import Derived.Lib.ItoaLen
import Derived.Deep.RegionHeld3
/- Concat, joinNumbers and nodeText of the program: the text of a node. -/
namespace Go.Proofs.YtboiknllmnfipaaDoor
open Go.RowKit

theorem run_append_none (g n cap c : Nat) (ty : TypeId) (w : World) (h : n ≤ cap) : (Builtin.append_ #[24, 24] ty #[.slice (some ⟨g, 0, none⟩) n cap, .slice none 0 c]).run Tryd.prog w = .ok (.slice (some ⟨g, 0, none⟩) n cap) w := by
  obtain ⟨i, hi, hzz⟩ := Option.map_eq_some_iff.1 Tryd.infoI
  simp only [Prod.mk.injEq] at hzz
  obtain ⟨hz, hsz, hby⟩ := hzz
  simp [Builtin.append_, run_underlying Tryd.underlying24, sizeOf, typeInfo, hi, Builtin.lenOf, h, run_firstCells_none, storeCells]

section
variable {ops : Array Oper} {rest : List Oper} {o : Oper} {a : Act} {Q : Exit → Act → World → Prop}
/-- Numbers that a slice reads as, behind a row that is owned. -/
theorem app_ir (w : World) (hgd : o.guard = none) (s x : Operand) (ho : o.op = .call { callee := .builtin .append, args := #[s, x], argTypes := #[24, 24] }) (B g n cap : Nat) (xs : List Value) (hs : a.eval s = .slice (some ⟨g, 0, none⟩) n cap) (hown : w.ownsRow B 2 1 (.slice (some ⟨g, 0, none⟩) n cap) n xs)
    (u : Value) (l : List Int) (hx : a.eval x = u) (hu : IR w u l) (hn : n + l.length ≤ 1000000000) (hB : B ≤ w.heap.size)
    (h : ∀ g' cap' w', w'.ownsRow B 2 1 (.slice (some ⟨g', 0, none⟩) (n + l.length) cap') (n + l.length) (xs ++ icells l) → w.grownBy w' (some g) → wpList Tryd.prog ops Q rest (a.put o.dst (.slice (some ⟨g', 0, none⟩) (n + l.length) cap')) w') : wpList Tryd.prog ops Q (o :: rest) a w := by
  obtain ⟨i, hi, hzz⟩ := Option.map_eq_some_iff.1 Tryd.infoI
  simp only [Prod.mk.injEq] at hzz
  obtain ⟨hz, hsz, hby⟩ := hzz
  obtain ⟨ua, uc, rfl, _, huc⟩ := hu
  cases ua with
  | none =>
    have hl : l = [] := by
      cases l with
      | nil => rfl
      | cons y r => obtain ⟨_, _, e, _⟩ := huc 0 (by simp); cases e
    subst hl
    have hc : n ≤ cap := by
      rcases hown.2 with ⟨e, _⟩ | ⟨_, _, _, e, _, _, hle, _⟩
      · cases e
      · cases e; exact hle
    refine wpList_plain hgd fun K hK => ?_
    unfold Oper.wp execOp
    simp only [ho, resolve, invoke, builtin, Sem.run_bind, Sem.run_pure, Result.andThen_ok, List.map_toArray, List.map_cons, List.map_nil, hs, hx, List.length_nil, run_append_none g n cap uc _ w hc]
    exact hK _ _ (h g cap w (by simpa [icells] using hown) (World.grownBy.refl _ _))
  | some ad =>
    refine wpList_append_own_at w hgd s x 24 ho B 2 i _ 1 8 Tryd.underlying24 hi hz hsz hby rfl (by omega) _ n xs hs hown ad l.length uc (icells l) hx (by simp [icells]) (fun j y hj => ?_) (fun y hy => ?_) (by unfold maxLen; omega) (by omega) hB (fun v' w' h1 h2 h3 _ => ?_)
    · have hj' : j < l.length := by
        rcases Nat.lt_or_ge j l.length with k | k
        · exact k
        · rw [List.getElem?_eq_none (by simpa [icells] using k)] at hj; cases hj
      obtain ⟨b, o, e2, hcell⟩ := huc j hj'
      simp only [Option.some.injEq] at e2
      subst e2
      have hy : y = .int .i64 (l.getD j 0) := by
        simp [icells, hj'] at hj
        rw [← hj]
        simp [hj']
      rw [hy, ← hcell]
      unfold Addr.add
      split
      · subst j; rfl
      · simp
    · obtain ⟨z, _, rfl⟩ := List.mem_map.1 hy
      rfl
    · rcases h1.2 with ⟨e, _⟩ | ⟨g', cap', cur, e, r⟩
      · exact absurd (h3.1 e).1 (by simp)
      · subst e
        exact h g' cap' w' h1 h2
end

set_option maxHeartbeats 1600000 in
theorem concat_any (sb : Nat) (va vb : Value) (la lb : List Int) (w : World) (c0 : w.cell? ⟨sb, 0, none⟩ = some va) (c1 : w.cell? ⟨sb, 1, none⟩ = some vb) (ha : IR w va la) (hb : IR w vb lb) (h0 : 0 < la.length) (hn : la.length + lb.length ≤ 100000000) :
    Calls Tryd.prog 33 #[.slice (some ⟨sb, 0, none⟩) 2 2] w fun e w' => (∃ v', e = .returned v' ∧ w'.ownsRow w.heap.size 2 1 v' (la.length + lb.length) (icells (la ++ lb))) ∧ Below w.heap.size w w' := by
  obtain ⟨aa, ac, rfl, _, _⟩ := id ha
  obtain ⟨ba, bc, rfl, _, _⟩ := id hb
  have G := grow_any (la.length + lb.length) (by omega) (by omega) w
  have n1 : ¬ (la.length : Int) < 0 := by omega
  have n2 : ¬ (la.length : Int) + (lb.length : Int) < 0 := by omega
  have ec : (((la.length + lb.length : Nat) : Int)) = (la.length : Int) + (lb.length : Int) := by omega
  rw [ec] at G
  clear ec
  go_enter Tryd.func33, Tryd.ntmps33
  go_wp2
  refine wp_loop_rounds 3 ?_
  rw [rounds_succ]
  go_wp2
  rw [rounds_succ]
  go_wp2
  rw [rounds_succ]
  go_wp2_with fail
  refine G.mono ?_
  rintro e w1 ⟨⟨cap, rfl, ho⟩, hb1⟩
  have s1 := hb1.size
  have k0 := cell_later hb1 c0
  have k1 := cell_later hb1 c1
  have ha1 := ha.later hb1
  have step : ∀ (g' cap' : Nat) (w2 : World), w2.ownsRow w.heap.size 2 1 (.slice (some ⟨g', 0, none⟩) (0 + la.length) cap') (0 + la.length) ([] ++ icells la) → w1.grownBy w2 (some w.heap.size) → w2.cell? ⟨sb, 1, none⟩ = some (.slice ba lb.length bc) ∧ IR w2 (.slice ba lb.length bc) lb ∧ Below w.heap.size w w2 := fun g' cap' w2 _ q => by
    have b2 : Below w.heap.size w w2 := Below.grown hb1 q s1 (fun k e => by cases e; exact Nat.le_refl _)
    exact ⟨cell_later b2 c1, hb.later b2, b2⟩
  go_wp2
  refine wp_loop_rounds 3 ?_
  rw [rounds_succ]
  go_wp2_with (at_builtin; refine app_ir _ rfl _ _ rfl w.heap.size _ 0 cap [] rfl ho _ la rfl ha1 (by omega) s1 ?_; intro g2 cap2 w2 o2 gr2; (obtain ⟨k12, hb12, bb2⟩ := step g2 cap2 w2 o2 gr2); rw [Nat.zero_add, List.nil_append] at o2; rw [Nat.zero_add])
  rw [rounds_succ]
  go_wp2_with (at_builtin; refine app_ir _ rfl _ _ rfl w.heap.size _ la.length cap2 (icells la) rfl o2 _ lb rfl hb12 (by omega) bb2.size ?_; intro g3 cap3 w3 o3 gr3)
  rw [rounds_succ]
  go_wp2
  go_ret
  refine ⟨⟨_, rfl, ?_⟩, Below.grown bb2 gr3 bb2.size (fun k e => by cases e; exact (o2.lt _ rfl).1)⟩
  have e : icells (la ++ lb) = icells la ++ icells lb := by simp [icells]
  rw [e]
  exact o3

/-! Texts -/
theorem Tryd.infoS : (Tryd.prog.info? 9).map (fun i => (i.zero, i.size, i.bytes)) = some (some (.string ⟨#[]⟩), 1, 16) := by kernel_rfl
theorem make_strs (n B : Nat) (hn : n ≤ 1000000000) (w : World) (hB : B ≤ w.heap.size) : ∃ w', (Instr.makeSlice 79 (.int .i64 0) (.int .i64 (n : Int))).run Tryd.prog w = .ok (.slice (some ⟨w.heap.size, 0, none⟩) 0 n) w' ∧ w'.ownsRow B 9 1 (.slice (some ⟨w.heap.size, 0, none⟩) 0 n) 0 [] ∧ Below w.heap.size w w' := by
  obtain ⟨i, hi, hzz⟩ := Option.map_eq_some_iff.1 Tryd.infoS
  simp only [Prod.mk.injEq] at hzz
  obtain ⟨hz, hsz, hby⟩ := hzz
  obtain ⟨w', h1, h2, h3⟩ := run_make_own (P := Tryd.prog) w B 79 9 i _ 1 Tryd.underlying79 hi hz hsz .i64 .i64 n (by rw [hby]; omega) (by unfold maxLen; omega) hB
  exact ⟨w', h1, h2, ⟨h3.os, h3.tape, h3.output, h3.size, fun k hk => h3.block k hk (by simp)⟩⟩
theorem app_str {ops : Array Oper} {rest : List Oper} {o : Oper} {a : Act} {Q : Exit → Act → World → Prop} (w : World) (hgd : o.guard = none) (s x : Operand)
    (ho : o.op = .call { callee := .builtin .append, args := #[s, x], argTypes := #[79, 79] }) (B g0 cap n : Nat) (xs : List Value) (hs : a.eval s = .slice (some ⟨g0, 0, none⟩) n cap) (hown : w.ownsRow B 9 1 (.slice (some ⟨g0, 0, none⟩) n cap) n xs)
    (g c : Nat) (z : ByteArray) (hx : a.eval x = .slice (some ⟨g, 0, none⟩) 1 c) (hc : w.cell? ⟨g, 0, none⟩ = some (.string z)) (hn : n ≤ 1000000000) (hB : B ≤ w.heap.size)
    (h : ∀ g' cap' w', w'.ownsRow B 9 1 (.slice (some ⟨g', 0, none⟩) (n + 1) cap') (n + 1) (xs ++ [.string z]) → w.grownBy w' (some g0) → wpList Tryd.prog ops Q rest (a.put o.dst (.slice (some ⟨g', 0, none⟩) (n + 1) cap')) w') : wpList Tryd.prog ops Q (o :: rest) a w := by
  obtain ⟨i, hi, hzz⟩ := Option.map_eq_some_iff.1 Tryd.infoS
  simp only [Prod.mk.injEq] at hzz
  obtain ⟨hz, hsz, hby⟩ := hzz
  refine wpList_append_own_at w hgd s x 79 ho B 9 i _ 1 16 Tryd.underlying79 hi hz hsz hby rfl (by omega) _ n xs hs hown ⟨g, 0, none⟩ 1 c [.string z] hx rfl (fun j u hj => ?_) (fun u hu => ?_) (by unfold maxLen; omega) (by omega) hB (fun v' w' h1 h2 h3 _ => ?_)
  · match j, hj with
    | 0, hj => simp at hj; subst hj; simpa [Addr.add] using hc
  · simp at hu; subst hu; rfl
  · rcases h1.2 with ⟨e, _⟩ | ⟨g', cap', cur, e, r⟩
    · exact absurd (h3.1 e).1 (by simp)
    · subst e
      exact h g' cap' w' h1 h2

def gpow : String := (Rows.fnGraphsRow.laid.map (·.1)).getD 2 ""
/-- The table of the powers of ten holds what its initialiser lays. -/
def GTb (w : World) : Prop := Lib.TabIs Tryd.prog w gpow .u64 Lib.pow10Tab
theorem GTb.later {w w' : World} (h : GTb w) (hb : Below w.heap.size w w') : GTb w' := by
  unfold GTb Lib.TabIs World.var? at *
  cases hg : Tryd.prog.globalNamed gpow with
  | none => simp [hg] at h
  | some g =>
    simp only [hg, Option.bind_some] at h ⊢
    have hlt : g < w.heap.size := by
      rcases Nat.lt_or_ge g w.heap.size with h' | h'
      · exact h'
      · rw [Array.getElem?_eq_none h'] at h; simp at h
    rw [hb.block g hlt]
    exact h
theorem gbel_grow (w : World) (q : Nat) (os : Array Obj) : Below w.heap.size w (Sort.grow (w.drewN q) os) :=
  ⟨rfl, rfl, rfl, by simp [Sort.grow], fun i hi => by
    show ((w.drewN q).heap ++ os)[i]? = _
    rw [Array.getElem?_append_left (by show i < w.heap.size; omega)]
    rfl⟩
def gitoa (n : Int) : ByteArray := ⟨(Lib.itoa n).toArray⟩
def g64 (x : Int) : Prop := -9223372036854775808 ≤ x ∧ x ≤ 9223372036854775807
theorem gfmt_any (n : Int) (w : World) (h : g64 n) (ht : GTb w) :
    Calls Tryd.prog 45 #[.int .i64 n, .int .i64 10] w fun e w' => e = .returned (.string (gitoa n)) ∧ Below w.heap.size w w' :=
  (Any.strconv_FormatInt_10 Tryd.laysM173 n h.1 h.2 w ht).mono fun _ _ ⟨he, _, _, hw⟩ => ⟨he, by rw [hw]; exact gbel_grow _ _ _⟩
def textB (l : List Int) : ByteArray := ⟨(Lib.join (l.map Lib.itoa) [32]).toArray⟩

set_option maxHeartbeats 1600000 in
theorem joinNumbers_any (v : Value) (l : List Int) (w : World) (hv : IR w v l) (hl : l.length ≤ 100000000) (h64 : ∀ x, x ∈ l → g64 x) (ht : GTb w) :
    Calls Tryd.prog 32 #[v] w fun e w' => e = .returned (.string (textB l)) ∧ Below w.heap.size w w' := by
  obtain ⟨va, vc, rfl, _, hvc⟩ := hv
  obtain ⟨wm, hrun, hown, hbm⟩ := make_strs l.length w.heap.size (by omega) w (Nat.le_refl _)
  have HOW : Hid (wm.ownsRow w.heap.size 9 1 (.slice (some ⟨w.heap.size, 0, none⟩) 0 l.length) 0 []) := hown
  clear hown
  go_enter Tryd.func32, Tryd.ntmps32
  go_wp2
  go_loopw [3, 11] (fun ovv iv wr => ∃ (j g cap : Nat), j ≤ l.length ∧ iv = .int .i64 j ∧ ovv = .slice (some ⟨g, 0, none⟩) j cap ∧ wr.ownsRow w.heap.size 9 1 (.slice (some ⟨g, 0, none⟩) j cap) j ((l.take j).map fun x => .string (gitoa x)) ∧ Below w.heap.size w wr) (fun _ iv _ => l.length - (intOf iv).toNat)
  case atStart => exact ⟨0, _, _, Nat.zero_le _, rfl, rfl, HOW.out, hbm⟩
  case round =>
    obtain ⟨j, g, cap, hj, rfl, rfl, ho, hb⟩ := hrel
    clear hrun HOW
    by_cases hjl : j < l.length
    · obtain ⟨vb, vo, rfl, hcw⟩ := hvc j hjl
      have hcr := cell_later hb hcw
      have TS : Hid ((l.take (j + 1)).map (fun x => Value.string (gitoa x)) = (l.take j).map (fun x => Value.string (gitoa x)) ++ [.string (gitoa (l.getD j 0))]) := (by
        rw [List.take_succ_eq_append_getElem hjl, List.map_append]
        congr 1
        simp [List.getD_eq_getElem?_getD, hjl] : (l.take (j + 1)).map (fun x => Value.string (gitoa x)) = (l.take j).map (fun x => Value.string (gitoa x)) ++ [.string (gitoa (l.getD j 0))])
      have FM := gfmt_any (l.getD j 0) wr (h64 _ (by simp [hjl])) (ht.later hb)
      generalize gitoa (l.getD j 0) = z at *
      generalize l.getD j 0 = x at *
      have hji : (j : Int) < l.length := by omega
      clear hcw hvc h64 ht
      go_wp2_with fail
      refine FM.mono ?_
      rintro e w1 ⟨rfl, hb1⟩
      have al := bel_one w1 (.cells #[.string z] 9)
      have ho2 := own_later (own_later ho hb1) al
      have hc : ∀ W : World, (W.alloc (.cells #[.string z] 9)).cell? ⟨W.heap.size, 0, none⟩ = some (.string z) := fun W => by simp
      have hbw := bel_after (hb.trans (hb1.mono hb.size)) al
      have sz := hbw.size
      go_wp2_with (at_builtin; refine app_str _ rfl _ _ rfl w.heap.size _ cap j _ rfl ho2 _ 1 z rfl (hc _) (by omega) sz ?_; intro g4 cap4 w4 o4 gr4)
      exact ⟨⟨j + 1, g4, cap4, by omega, by go_num, rfl, by rw [TS.out]; exact o4, Below.grown hbw gr4 sz (fun k e => by cases e; exact (ho.lt _ rfl).1)⟩, by simp [intOf]; omega⟩
    · obtain rfl : j = l.length := by omega
      rw [List.take_length] at ho
      have hg := (ho.lt g rfl).2
      have JN := Any.strings_Join Tryd.lays156 Tryd.Builder_Extra_156 g 0 cap (l.map gitoa) ⟨#[32]⟩ wr (fun i x hx => by
        obtain ⟨ao, c, e, _, hcell⟩ := own_cell ho
        have hi : i < l.length := by
          rcases Nat.lt_or_ge i l.length with k | k
          · exact k
          · rw [List.getElem?_eq_none (by simpa using k)] at hx; cases hx
        obtain ⟨b, e2, hci⟩ := hcell i hi
        simp only [Value.slice.injEq] at e
        rw [← e.1] at e2
        cases e2
        rw [Nat.zero_add, hci]
        simp [hi] at hx ⊢
        exact hx) hg (by rw [List.length_map]; omega) (by
          rw [List.length_map]
          obtain ⟨_, _, e, hle, _⟩ := own_cell ho
          simp only [Value.slice.injEq] at e
          omega) (by
          have e : (l.map gitoa).map (fun b => b.data.toList) = l.map Lib.itoa := by simp [gitoa]
          rw [e]
          have := join_len l (fun z hz => Lib.itoa_length_le z (h64 z hz).1 (h64 z hz).2)
          show (Lib.join (l.map Lib.itoa) [32]).length ≤ _
          omega)
      have JE : Hid (∀ e : Ending, e = .returned (.string ⟨(Lib.join ((l.map gitoa).map (fun b => b.data.toList)) (⟨#[32]⟩ : ByteArray).data.toList).toArray⟩) → e = .returned (.string (textB l))) := fun e he => by
        rw [he]
        have e2 : (l.map gitoa).map (fun b => b.data.toList) = l.map Lib.itoa := by simp [gitoa]
        rw [e2]
        rfl
      rw [List.length_map] at JN
      clear ho hvc h64
      go_wp2_with fail
      refine JN.mono ?_
      rintro e w2 ⟨he, hb2⟩
      have he2 := JE.out e he
      clear he JE
      subst he2
      go_wp2
      go_ret
      exact ⟨rfl, hb.trans (hb2.mono hb.size)⟩

/-- The text of a node. -/
def ndTx (n : Nd) : ByteArray := textB (n.cls :: n.hash :: n.fl)
theorem ndTx_inj {a b : Nd} (h : ndTx a = ndTx b) : a = b := by
  unfold ndTx textB at h
  have h2 := congrArg (fun x => x.data.toList) h
  simp only at h2
  have := join_inj h2
  obtain ⟨c, z, f⟩ := a
  obtain ⟨c', z', f'⟩ := b
  simp only [List.cons.injEq] at this
  obtain ⟨rfl, rfl, rfl⟩ := this
  rfl
def nd64 (n : Nd) : Prop := g64 n.cls ∧ g64 n.hash ∧ ∀ x, x ∈ n.fl → g64 x

theorem nodeText_any (n : Nd) (fv : Value) (w : World) (hv : IR w fv n.fl) (hl : n.fl.length ≤ 10000000) (h64 : nd64 n) (ht : GTb w) :
    Calls Tryd.prog 21 #[.agg #[.int .i64 n.cls, .int .i64 n.hash, fv]] w fun e w' => e = .returned (.string (ndTx n)) ∧ Below w.heap.size w w' := by
  obtain ⟨c, z, f⟩ := n
  simp only at hv hl ⊢
  obtain ⟨fa, fc, rfl, _⟩ := id hv
  have b1 := bel_one w (.cells #[.int .i64 c, .int .i64 z, .slice fa f.length fc] 37)
  have b2 := bel_one (w.alloc (.cells #[.int .i64 c, .int .i64 z, .slice fa f.length fc] 37)) (.cells #[.int .i64 c, .int .i64 z] 2)
  have b3 := bel_one ((w.alloc (.cells #[.int .i64 c, .int .i64 z, .slice fa f.length fc] 37)).alloc (.cells #[.int .i64 c, .int .i64 z] 2)) (.cells #[.slice (some ⟨w.heap.size + 1, 0, none⟩) 2 2, .slice fa f.length fc] 24)
  have bb := bel_after (bel_after b1 b2) b3
  have p0 : ((w.alloc (.cells #[.int .i64 c, .int .i64 z, .slice fa f.length fc] 37)).alloc (.cells #[.int .i64 c, .int .i64 z] 2)).cell? ⟨w.heap.size + 1, 0, none⟩ = some (.int .i64 c) := cell_new _ _ 2 _ (by simp) 0 _ rfl
  have p1 : ((w.alloc (.cells #[.int .i64 c, .int .i64 z, .slice fa f.length fc] 37)).alloc (.cells #[.int .i64 c, .int .i64 z] 2)).cell? ⟨w.heap.size + 1, 1, none⟩ = some (.int .i64 z) := cell_new _ _ 2 _ (by simp) 1 _ rfl
  have q0 := cell_later b3 p0
  have q1 := cell_later b3 p1
  have r0 : (((w.alloc (.cells #[.int .i64 c, .int .i64 z, .slice fa f.length fc] 37)).alloc (.cells #[.int .i64 c, .int .i64 z] 2)).alloc (.cells #[.slice (some ⟨w.heap.size + 1, 0, none⟩) 2 2, .slice fa f.length fc] 24)).cell? ⟨w.heap.size + 1 + 1, 0, none⟩ = some (.slice (some ⟨w.heap.size + 1, 0, none⟩) 2 2) := cell_new _ _ 24 _ (by simp) 0 _ rfl
  have r1 : (((w.alloc (.cells #[.int .i64 c, .int .i64 z, .slice fa f.length fc] 37)).alloc (.cells #[.int .i64 c, .int .i64 z] 2)).alloc (.cells #[.slice (some ⟨w.heap.size + 1, 0, none⟩) 2 2, .slice fa f.length fc] 24)).cell? ⟨w.heap.size + 1 + 1, 1, none⟩ = some (.slice fa f.length fc) := cell_new _ _ 24 _ (by simp) 1 _ rfl
  have CC := concat_any (w.heap.size + 1 + 1) (.slice (some ⟨w.heap.size + 1, 0, none⟩) 2 2) (.slice fa f.length fc) [c, z] f _ r0 r1 ⟨_, 2, rfl, Nat.le_refl _, fun i hi => by
    match i, hi with
    | 0, _ => exact ⟨_, 0, rfl, q0⟩
    | 1, _ => exact ⟨_, 0, rfl, q1⟩⟩ (hv.later bb) (by simp) (by simp; omega)
  have JN := fun v W (hb : Below w.heap.size w W) hv => joinNumbers_any v ([c, z] ++ f) W hv (by simp; omega) (fun x hx => by
    simp only [List.cons_append, List.nil_append, List.mem_cons] at hx
    rcases hx with rfl | rfl | hx
    · exact h64.1
    · exact h64.2.1
    · exact h64.2.2 x hx) (ht.later hb)
  have LE : Hid (([c, z] ++ f).length = [c, z].length + f.length) := List.length_append
  clear hv p0 p1 q0 q1 r0 r1
  go_enter Tryd.func21, Tryd.ntmps21
  go_wp2_with fail
  refine CC.mono ?_
  rintro e w1 ⟨⟨v', rfl, ho⟩, hb1⟩
  have hbw := bel_after bb hb1
  rw [← LE.out] at ho
  go_wp2_with fail
  refine (JN v' w1 hbw (IR_of_owns ho)).mono ?_
  rintro e w2 ⟨rfl, hb2⟩
  go_wp2
  go_ret
  exact ⟨rfl, bel_after hbw hb2⟩

end Go.Proofs.YtboiknllmnfipaaDoor

/- sameNode, slices.EqualFunc and SameGraph of the program. -/
namespace Go.Proofs.YtboiknllmnfipaaDoor
open Go.RowKit

theorem keepN {W a b : World} {N M : Nat} {u0 u1 u2 x0 x1 x2 : Value} (k : Below a.heap.size a b) (h : Below W.heap.size W a ∧ (a.cell? ⟨N, 0, none⟩ = some u0 ∧ a.cell? ⟨N, 1, none⟩ = some u1 ∧ a.cell? ⟨N, 2, none⟩ = some u2) ∧ (a.cell? ⟨M, 0, none⟩ = some x0 ∧ a.cell? ⟨M, 1, none⟩ = some x1 ∧ a.cell? ⟨M, 2, none⟩ = some x2)) :
    Below W.heap.size W b ∧ (b.cell? ⟨N, 0, none⟩ = some u0 ∧ b.cell? ⟨N, 1, none⟩ = some u1 ∧ b.cell? ⟨N, 2, none⟩ = some u2) ∧ (b.cell? ⟨M, 0, none⟩ = some x0 ∧ b.cell? ⟨M, 1, none⟩ = some x1 ∧ b.cell? ⟨M, 2, none⟩ = some x2) :=
  ⟨bel_after h.1 k, ⟨cell_later k h.2.1.1, cell_later k h.2.1.2.1, cell_later k h.2.1.2.2⟩, cell_later k h.2.2.1, cell_later k h.2.2.2.1, cell_later k h.2.2.2.2⟩

noncomputable def ndEq (a b : Nd) : Bool := @decide (a = b) (Classical.propDecidable _)
theorem ndEq_text (a b : Nd) : ((ndTx a).toList == (ndTx b).toList) = ndEq a b := by
  unfold ndEq
  by_cases h : a = b
  · subst h
    rw [@decide_eq_true _ (Classical.propDecidable _) rfl]
    simp
  · rw [@decide_eq_false _ (Classical.propDecidable _) h]
    rw [Bool.eq_false_iff]
    intro q
    refine h (ndTx_inj (ByteArray.ext ?_))
    simp at q
    rw [ByteArray.toList_eq, ByteArray.toList_eq] at q
    exact Array.toList_inj.1 q

set_option maxHeartbeats 1600000 in
theorem sameNode_any (m n : Nd) (fu fv : Value) (w : World) (hu : IR w fu m.fl) (hv : IR w fv n.fl) (lu : m.fl.length ≤ 10000000) (lv : n.fl.length ≤ 10000000) (mu : nd64 m) (mv : nd64 n) (ht : GTb w) :
    Calls Tryd.prog 15 #[.agg #[.int .i64 m.cls, .int .i64 m.hash, fu], .agg #[.int .i64 n.cls, .int .i64 n.hash, fv]] w fun e w' => e = .returned (.bool (ndEq m n)) ∧ Below w.heap.size w w' := by
  obtain ⟨ua, uc, rfl, _⟩ := id hu
  obtain ⟨va, vc, rfl, _⟩ := id hv
  have b1 := bel_one w (.cells #[.int .i64 m.cls, .int .i64 m.hash, .slice ua m.fl.length uc] 37)
  have b2 := bel_one (w.alloc (.cells #[.int .i64 m.cls, .int .i64 m.hash, .slice ua m.fl.length uc] 37)) (.cells #[.int .i64 n.cls, .int .i64 n.hash, .slice va n.fl.length vc] 37)
  have bb := bel_after b1 b2
  have C0 : ∀ i x, #[Value.int .i64 m.cls, .int .i64 m.hash, .slice ua m.fl.length uc][i]? = some x → ((w.alloc (.cells #[.int .i64 m.cls, .int .i64 m.hash, .slice ua m.fl.length uc] 37)).alloc (.cells #[.int .i64 n.cls, .int .i64 n.hash, .slice va n.fl.length vc] 37)).cell? ⟨w.heap.size, i, none⟩ = some x := fun i x hx => cell_later b2 (cell_new w _ 37 _ rfl i x hx)
  have C1 : ∀ i x, #[Value.int .i64 n.cls, .int .i64 n.hash, .slice va n.fl.length vc][i]? = some x → ((w.alloc (.cells #[.int .i64 m.cls, .int .i64 m.hash, .slice ua m.fl.length uc] 37)).alloc (.cells #[.int .i64 n.cls, .int .i64 n.hash, .slice va n.fl.length vc] 37)).cell? ⟨w.heap.size + 1, i, none⟩ = some x := fun i x hx => cell_new _ _ 37 _ (by simp) i x hx
  have p0 := C0 0 _ rfl
  have p1 := C0 1 _ rfl
  have p2 := C0 2 _ rfl
  have q0 := C1 0 _ rfl
  have q1 := C1 1 _ rfl
  have q2 := C1 2 _ rfl
  have TM := fun W (h : Below w.heap.size w W) => nodeText_any m _ W (hu.later h) lu mu (ht.later h)
  have TN := fun W (h : Below w.heap.size w W) => nodeText_any n _ W (hv.later h) lv mv (ht.later h)
  have NE : Hid (∀ x, x = ((ndTx m).toList == (ndTx n).toList) → x = ndEq m n) := fun x e => by rw [e, ndEq_text]
  clear C0 C1 hu hv
  generalize ndTx m = s at *
  generalize ndTx n = t at *
  go_enter Tryd.func15, Tryd.ntmps15
  go_wp2_with fail
  generalize hW0 : (w.alloc (.cells #[.int .i64 m.cls, .int .i64 m.hash, .slice ua m.fl.length uc] 37)).alloc (.cells #[.int .i64 n.cls, .int .i64 n.hash, .slice va n.fl.length vc] 37) = W0 at *
  have l0 := World.block_lt_of_cell? _ _ p0
  have l1 := World.block_lt_of_cell? _ _ q0
  go_region_held3 (fun w' => Below W0.heap.size W0 w' ∧ (w'.cell? ⟨w.heap.size, 0, none⟩ = some (.int .i64 m.cls) ∧ w'.cell? ⟨w.heap.size, 1, none⟩ = some (.int .i64 m.hash) ∧ w'.cell? ⟨w.heap.size, 2, none⟩ = some (.slice ua m.fl.length uc)) ∧ (w'.cell? ⟨w.heap.size + 1, 0, none⟩ = some (.int .i64 n.cls) ∧ w'.cell? ⟨w.heap.size + 1, 1, none⟩ = some (.int .i64 n.hash) ∧ w'.cell? ⟨w.heap.size + 1, 2, none⟩ = some (.slice va n.fl.length vc)))
    (first | assumption | exact ⟨(Below.refl _ _).drew, ⟨p0, p1, p2⟩, q0, q1, q2⟩ | exact keepN (by assumption) (by assumption))
    (first
      | (go_at_call 21; with_reducible refine (TM _ (bel_after bb (And.left (by assumption)))).mono ?_; rintro e w2 ⟨rfl, hb2⟩)
      | (go_at_call 21; with_reducible refine (TN _ (bel_after bb (And.left (by assumption)))).mono ?_; rintro e w3 ⟨rfl, hb3⟩))
  all_goals go_wp2
  all_goals go_ret
  all_goals exact ⟨congrArg (fun x => Ending.returned (.bool x)) (NE.out _ rfl), bel_after bb (bel_after (bel_after (Below.refl _ _).drew hb2) hb3)⟩

/-- Are these nodes the same, each with each? -/
theorem ndEq_true {a b : Nd} : ndEq a b = true ↔ a = b := by
  unfold ndEq
  exact ⟨fun h => @of_decide_eq_true _ (Classical.propDecidable _) h, fun h => @decide_eq_true _ (Classical.propDecidable _) h⟩
noncomputable def nsEq (a b : List Nd) : Bool := @decide (a = b) (Classical.propDecidable _)
theorem nsEq_no {a b : List Nd} (h : a ≠ b) : nsEq a b = false := @decide_eq_false _ (Classical.propDecidable _) h
theorem nsEq_yes {a b : List Nd} (h : a = b) : nsEq a b = true := @decide_eq_true _ (Classical.propDecidable _) h
theorem ndlists_eq {a b : List Nd} (hl : a.length = b.length) (h : ∀ j, j < a.length → a.getD j nd0 = b.getD j nd0) : a = b := by
  refine List.ext_getElem hl fun i h1 h2 => ?_
  have := h i h1
  simpa [List.getD_eq_getElem?_getD, h1, h2] using this
/-- All numbers of the nodes are numbers. -/
def ns64 (l : List Nd) : Prop := ∀ n, n ∈ l → nd64 n ∧ n.fl.length ≤ 10000000

set_option maxHeartbeats 1600000 in
theorem equalFunc_any (v u : Value) (a b : List Nd) (w : World) (hv : NR w v a) (hu : NR w u b) (h1 : a.length ≤ 1000000000) (sa : ns64 a) (sb : ns64 b) (ht : GTb w) :
    Calls Tryd.prog 14 #[v, u, .func (.func 15) #[] #[]] w fun e w' => e = .returned (.bool (nsEq a b)) ∧ Below w.heap.size w w' := by
  obtain ⟨va, vc, rfl, _, hvc⟩ := hv
  obtain ⟨ua, uc, rfl, _, huc⟩ := hu
  by_cases hl : a.length = b.length
  · have hl' : ((a.length : Int) != (b.length : Int)) = false := by simp [hl]
    have HL : Hid (a.length = b.length) := hl
    clear hl
    go_enter Tryd.func14, Tryd.ntmps14
    go_wp2
    go_loopw [17] (fun iv wr => ∃ k : Nat, iv = .int .i64 k ∧ k ≤ a.length ∧ Hid (∀ j, j < k → a.getD j nd0 = b.getD j nd0) ∧ Below w.heap.size w wr) (fun iv _ => a.length - (intOf iv).toNat)
    case atStart => exact ⟨0, rfl, Nat.zero_le _, fun j hj => absurd hj (by omega), Below.refl _ _⟩
    case round =>
      obtain ⟨k, rfl, hk, hj, hb⟩ := hrel
      by_cases hkl : k < a.length
      · obtain ⟨vb, vo, fa, fn, fc, rfl, c0, c1, c2, cr⟩ := hvc k hkl
        obtain ⟨ub, uo, ga, gn, gc, rfl, d0, d1, d2, dr⟩ := huc k (by rw [← HL.out]; exact hkl)
        have ma := sa (a.getD k nd0) (by simp [hkl])
        have hkb' : k < b.length := by rw [← HL.out]; exact hkl
        have mb := sb (b.getD k nd0) (by simp [hkb'])
        have e0 := cell_later hb c0
        have e1 := cell_later hb c1
        have e2 := cell_later hb c2
        have g0 := cell_later hb d0
        have g1 := cell_later hb d1
        have g2 := cell_later hb d2
        have hkb : (k : Int) < b.length := by have := HL.out; omega
        have hki : (k : Int) < a.length := by omega
        have SN := fun W (q : Below wr.heap.size wr W) => sameNode_any (a.getD k nd0) (b.getD k nd0) (.slice fa fn fc) (.slice ga gn gc) W ((cr.later hb).later q) ((dr.later hb).later q) ma.2 mb.2 ma.1 mb.1 ((ht.later hb).later q)
        have YES : Hid (ndEq (a.getD k nd0) (b.getD k nd0) = true → ∀ j, j < k + 1 → a.getD j nd0 = b.getD j nd0) := fun e => all_upto hj.out (ndEq_true.1 e)
        have NO : Hid (ndEq (a.getD k nd0) (b.getD k nd0) = false → nsEq a b = false) := fun e => nsEq_no (fun q => by rw [q, ndEq_true.2 rfl] at e; cases e)
        have al1 := bel_one wr (.cells #[.int .i64 (a.getD k nd0).cls, .int .i64 (a.getD k nd0).hash, .slice fa fn fc] 37)
        have al2 := bel_one (wr.alloc (.cells #[.int .i64 (a.getD k nd0).cls, .int .i64 (a.getD k nd0).hash, .slice fa fn fc] 37)) (.cells #[.int .i64 (b.getD k nd0).cls, .int .i64 (b.getD k nd0).hash, .slice ga gn gc] 37)
        have SN2 := SN _ (bel_after al1 al2)
        have lu := World.block_lt_of_cell? _ _ g0
        have hbb := bel_after hb (bel_after al1 al2)
        generalize (a.getD k nd0).cls = x at *
        generalize (a.getD k nd0).hash = y at *
        generalize (b.getD k nd0).cls = x' at *
        generalize (b.getD k nd0).hash = y' at *
        generalize ndEq (a.getD k nd0) (b.getD k nd0) = r at *
        clear c0 c1 c2 d0 d1 d2 cr dr hvc huc SN sa sb ma mb hj ht
        go_wp2_with fail
        refine SN2.mono ?_
        rintro e w2 ⟨rfl, hb2⟩
        cases r
        · have G := NO.out rfl
          have HG : Hid (nsEq a b = false) := G
          clear G NO YES
          go_wp2
          go_ret
          exact ⟨ret_bool HG.out.symm, bel_after hbb hb2⟩
        · have G := YES.out rfl
          clear NO YES
          go_wp2
          exact ⟨⟨k + 1, by go_num, by omega, G, bel_after hbb hb2⟩, by simp [intOf]; omega⟩
      · obtain rfl : k = a.length := by omega
        have HG : Hid (nsEq a b = true) := nsEq_yes (ndlists_eq HL.out hj.out)
        clear hvc huc
        go_wp2
        go_ret
        exact ⟨ret_bool HG.out.symm, hb⟩
  · have hl' : ((a.length : Int) != (b.length : Int)) = true := by simp; omega
    have HG : Hid (nsEq a b = false) := nsEq_no (fun e => hl (by rw [e]))
    clear hvc huc hl
    go_enter Tryd.func14, Tryd.ntmps14
    go_wp2
    go_ret
    exact ⟨ret_bool HG.out.symm, Below.refl _ _⟩

end Go.Proofs.YtboiknllmnfipaaDoor

/- The numbers of a right heap's shape are of 64 bits. -/
namespace Go.Proofs.YtboiknllmnfipaaDoor
open Go.RowKit

theorem kind_64 {x : Int} (h : ¬ kindW x = 0) : -10000000000 ≤ x ∧ x ≤ 10000000000 := by
  by_cases e : x % 2 = 0
  · rw [kind_even e] at h
    split at h
    · rename_i q
      unfold numB at q
      simp at q
      omega
    · exact absurd rfl h
  · rw [kind_odd e] at h
    split at h
    · rename_i q
      unfold adrB at q
      simp at q
      omega
    · exact absurd rfl h
theorem ren_64 {F : List Nat} {x : Int} (hF : F.length ≤ 100000) (h : ¬ kindW x = 0) : g64 (ren F x) := by
  have b := kind_64 h
  unfold ren g64
  split
  · have : F.idxOf (x / 2).toNat ≤ F.length := List.idxOf_le_length
    omega
  · omega
theorem sh_64 {h : Hp} (k : okC h = true) : ns64 (shC h).nodes := by
  have R := c_right k
  have SM := sh_small k
  intro n hn
  refine ⟨?_, by have := SM.2.2 n hn; omega⟩
  have e : (shC h).nodes = (ordF h.words h.roots).map (ndOf h.words (ordF h.words h.roots)) := by
    unfold shC
    rw [if_pos k]
    rfl
  rw [e] at hn
  obtain ⟨a, ha, rfl⟩ := List.mem_map.1 hn
  have ho := ord_sub R ha
  have hd := (R.1.obj ho).2.2
  unfold headB at hd
  simp only [Bool.and_eq_true, decide_eq_true_eq] at hd
  have h1 := R.2.2.2.1 a ho
  have h2 := R.2.2.2.2.1.1 a ho
  have h3 := R.2.2.1.2
  have hl := ord_len R
  refine ⟨?_, ?_, ?_⟩
  · show g64 (gw h.words (a + 1))
    unfold g64
    omega
  · show g64 (gw h.words (a + 2))
    unfold g64
    omega
  · intro x hx
    obtain ⟨y, hy, rfl⟩ := List.mem_map.1 hx
    exact ren_64 (by omega) (fit_kind ((fld_mem (p := fitB (obC h))).2 (R.2.2.2.2.2.2.2.1 a ho) y hy))

end Go.Proofs.YtboiknllmnfipaaDoor
