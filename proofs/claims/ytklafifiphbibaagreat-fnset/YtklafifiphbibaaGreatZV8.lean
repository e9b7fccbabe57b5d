
import Derived.Test.YtklafifiphbibaaGreatZV2
import Derived.Test.YtklafifiphbibaaGreatZCReach
import Derived.Test.YtklafifiphbibaaGreatZV5
import Derived.BigQuiet
import Derived.Test.YtklafifiphbibaaGreatZHBase
import Derived.Deep.MidRow
/- markHeap, heldHeap and NewHeap. -/
namespace Go.Proofs.YtklafifiphbibaaGreat
open Go.RowKit

/-- w' is w with new blocks, and with writes to three rows alone. -/
structure Thr (w w' : World) (r1 r2 r3 : Option Nat) : Prop where
  os : w'.os = w.os
  tape : w'.tape = w.tape
  output : w'.output = w.output
  size : w.heap.size ≤ w'.heap.size
  block : ∀ k, k < w.heap.size → some k ≠ r1 → some k ≠ r2 → some k ≠ r3 → w'.heap[k]? = w.heap[k]?
theorem Thr.below {w w' : World} {r1 r2 r3 : Option Nat} {B : Nat} (h : Thr w w' r1 r2 r3) (hB : B ≤ w.heap.size) (h1 : ∀ k, r1 = some k → B ≤ k) (h2 : ∀ k, r2 = some k → B ≤ k) (h3 : ∀ k, r3 = some k → B ≤ k) : Below B w w' :=
  ⟨h.os, h.tape, h.output, h.size, fun k hk => h.block k (by omega) (fun e => by have := h1 k e.symm; omega) (fun e => by have := h2 k e.symm; omega) (fun e => by have := h3 k e.symm; omega)⟩
theorem apart {w : World} {t s n m : Nat} {v u : Value} (d : ∀ b, Disk.rowOf v n = some b → Disk.rowOf u m ≠ some b) (hu : Disk.OS w t s u m) : m = 0 ∨ u.ownBlock ≠ Disk.rowOf v n := by
  by_cases hm : m = 0
  · exact .inl hm
  · refine .inr fun e => ?_
    obtain ⟨ao, cap, rfl, h⟩ := hu
    obtain ⟨b, N, f, rfl, _, _⟩ := h.resolve_left hm
    have e1 : Disk.rowOf v n = some b := by rw [← e]; rfl
    exact d b e1 (by unfold Disk.rowOf; rw [if_neg hm]; rfl)
def newW : List Int := List.replicate 3200 0
def newH : Hp := ⟨newW, [], 0, 2000, 2600, false, 1, []⟩
theorem makeW (w : World) : (Instr.makeSlice 24 (.int .i64 3200) (.int .i64 3200)).run Tryz.prog w = .ok (.slice (some ⟨w.heap.size, 0, none⟩) 3200 3200) (w.alloc (.cells (madeCells #[.int .i64 0] 3200) 2)) := make28 3200 (by omega) w
end Go.Proofs.YtklafifiphbibaaGreat

/- Where each object goes, in the model: l10Moves. -/
namespace Go.Proofs.YtklafifiphbibaaGreat
open Go.RowKit

theorem went_ri (w : World) : RI (w.alloc (.cells (madeCells #[.int .i64 0] 3200) 2)) w.heap.size (ints went0) 3200 := by
  have e : ints went0 = List.replicate 3200 (0 : Int) := by
    unfold ints went0
    rw [List.map_replicate]
    rfl
  rw [e]
  exact made_ri w 3200
theorem ints_set (s : List Nat) (a x : Nat) : ints (s.set a x) = (ints s).set a (x : Int) := by
  unfold ints
  rw [List.map_set]

/-- What l10Moves answers: where each object goes, and where the last one ends. -/
def MvOut (h : Hp) (l : List Nat) (B : Nat) (e : Ending) (w' : World) : Prop := ∃ g i, e = .returned (.tuple #[.slice (some ⟨g, 0, none⟩) 3200 3200, .int .i64 ((gtS h.words (rcS h i).2 l l.length).2 : Nat)]) ∧ B ≤ g ∧ i = (rcS h i).1.length ∧ GT h.words l (gtS h.words (rcS h i).2 l l.length) l.length ∧ RI w' g (ints (gtS h.words (rcS h i).2 l l.length).1) 3200

set_option maxRecDepth 100000 in
set_option maxHeartbeats 3200000 in
theorem l10Moves_any (v : Value) (h : Hp) (l : List Nat) (R : RightAt h l) (w : World) (hv : HR w v h) :
    Calls Tryz.prog 107 #[v] w fun e w' => MvOut h l w.heap.size e w' ∧ Below w.heap.size w w' := by
  obtain ⟨ok, ob⟩ := c_yes R
  obtain ⟨v1, v2, v3, rfl, i1, i2, i3⟩ := id hv
  have HL : Hid (h.words.length = 3200) := R.1.1
  obtain ⟨b, o, c1, rfl, hc1, hW⟩ := i1.ws (by have := R.1.1; omega)
  rw [R.1.1] at hc1 hv ⊢
  have hb0 := bel_one w (.cells #[.slice (some ⟨b, o, none⟩) 3200 c1, v2, .int .i64 h.old, .int .i64 h.eden, .int .i64 h.surv, .bool h.flip, .int .i64 h.hash, v3] 26)
  have X0 := Bx.new w (.slice (some ⟨b, o, none⟩) 3200 c1) v2 v3 h 26
  have C := l10Reached_any _ h l R _ (hv.later hb0)
  have A := fun W (hb : Below w.heap.size w W) => all_c _ h W (hv.later hb) ok
  rw [ob] at A
  have ls := R.1.short
  have hmk := makeW
  clear i1 i2 i3 hv ok ob
  go_enter Tryz.func107, Tryz.ntmps107
  go_wp2_with fail
  refine C.mono ?_
  rintro e w1 ⟨⟨gS, ix, rfl, gS0, ei, sl, SN⟩, hb1⟩
  have ei' : Hid (ix = (rcS h ix).1.length) := ei
  clear ei C
  generalize hsn : (rcS h ix).2 = sn at *
  have hbw1 := bel_after hb0 hb1
  obtain ⟨k0, k1, k2, k3, k4, k5, k6, k7⟩ := X0.later hb1
  go_wp2_with fail
  refine (A w1 hbw1).mono ?_
  rintro e w2 ⟨⟨lv, rfl, IL0⟩, hb2⟩
  clear A
  have hbw2 := bel_after hbw1 hb2
  have y0 := cell_later hb2 k0
  have SN2 := SN.of_block (hb2.block _ SN.lt)
  have hW2 := hW.later hbw2
  obtain ⟨la, lc, rfl, hlc⟩ := intsI IL0
  have ltS : gS < w2.heap.size := SN2.lt
  have sw : w.heap.size < w2.heap.size := World.block_lt_of_cell? _ _ y0
  clear k0 k1 k2 k3 k4 k5 k6 k7 X0 SN hb1 hb2 IL0 hW hbw1 hb0
  go_wp2
  go_loopw [7, 8] (fun av iv wr => ∃ k : Nat, k ≤ l.length ∧ iv = .int .i64 k ∧ av = .int .i64 ((gtS h.words sn l k).2 : Nat) ∧ GT h.words l (gtS h.words sn l k) k ∧ RI wr w2.heap.size (ints (gtS h.words sn l k).1) 3200 ∧ Below w2.heap.size w2 wr) (fun _ iv _ => l.length - (intOf iv).toNat)
  case atStart => exact ⟨0, Nat.zero_le _, rfl, rfl, gt_start _ _ _, went_ri w2, bel_one _ _⟩
  case round =>
    obtain ⟨k, hk, rfl, rfl, G, RT, hb⟩ := hrel
    clear hmk
    by_cases hlt : k < l.length
    · have E : gtS h.words sn l (k + 1) = gt1 h.words sn (gtS h.words sn l k) (l.getD k 0) := rfl
      have G' := gt_step R sn G hlt
      rw [← E] at G'
      unfold gt1 at E
      obtain ⟨lb, lo, rfl, cl⟩ := hlc k hlt
      have ha := get_mem l k hlt
      have cl2 := cell_later hb cl
      have ltl : lb < w2.heap.size := World.block_lt_of_cell? _ _ cl
      generalize l.getD k 0 = a at *
      generalize gtS h.words sn l k = s at *
      obtain ⟨o1, o2, o3⟩ := R.1.obj ha
      have cs := cell_later hb (SN2.cell (i := a) (by omega))
      have sz := size_of o3
      obtain ⟨m, hm⟩ := Int.eq_ofNat_of_zero_le sz.1
      have m60 : m ≤ 60 := by omega
      have ca := cell_later hb (hW2 a (by rw [HL.out]; omega))
      rw [hm] at ca
      have bxx := cell_later hb y0
      have lta : (a : Int) < 3200 := by omega
      have top := G.top
      have hb64 : s.2 ≤ 204800 := by omega
      have ltk : (k : Int) < (l.length : Int) := by omega
      have hmn : (gw h.words a).toNat = m := by rw [hm]; rfl
      rw [hmn] at E
      have lenT : (ints s.1).length = 3200 := by rw [ints_length]; exact G.len
      have RS := RT.set a ((s.2 + 1 : Nat) : Int)
      rw [← ints_set] at RS
      have fz := RT.frozen a
      have ct := RT.cell (i := a) (by rw [lenT]; omega)
      have hbS := hb.setCell (p := ⟨w2.heap.size, a, none⟩) (Nat.le_refl _) (.int .i64 ((s.2 + 1 : Nat) : Int))
      have bl : b < w2.heap.size := World.block_lt_of_cell? _ _ (hW2 0 (by rw [HL.out]; omega))
      have n1 : ¬ b = w2.heap.size := by omega
      have n2 : ¬ lb = w2.heap.size := by omega
      have n3 : ¬ w.heap.size = w2.heap.size := by omega
      cases hs : sn.getD a false
      · rw [if_neg (by rw [hs]; simp)] at E
        rw [hs] at cs
        have E' : Hid (gtS h.words sn l (k + 1) = s) := E
        clear E hm hmn sz o3 RS ct lenT hbS ha hW2 hlc SN2 R hsn sl hs
        go_wp2
        exact ⟨⟨k + 1, by omega, by go_num, by rw [E'.out], G', by rw [E'.out]; exact RT, hb⟩, by simp [intOf]; omega⟩
      · rw [if_pos hs] at E
        rw [hs] at cs
        have E' : Hid (gtS h.words sn l (k + 1) = (s.1.set a (s.2 + 1), s.2 + 4 + m)) := E
        have RS' : Hid (RI (wr.setCell ⟨w2.heap.size, a, none⟩ (.int .i64 ((s.2 : Int) + 1))) w2.heap.size (ints (s.1.set a (s.2 + 1))) 3200) := RS
        have hbS' : Hid (Below w2.heap.size w2 (wr.setCell ⟨w2.heap.size, a, none⟩ (.int .i64 ((s.2 : Int) + 1)))) := hbS
        clear E hm hmn sz o3 RS lenT hbS ha hW2 hlc SN2 R hsn sl RT hb G hs
        go_wp2
        go_quiet (fail)
        go_wp2
        exact ⟨⟨k + 1, by omega, by go_num, by rw [E'.out]; go_num, G', by rw [E'.out]; exact RS'.out.later (below_drewN (Below.refl _ _) _), below_drewN hbS'.out _⟩, by simp [intOf]; omega⟩
    · obtain rfl : k = l.length := by omega
      clear SN2 hW2 hlc sl R
      subst hsn
      have hbb := hbw2.trans (hb.mono hbw2.size)
      go_wp2
      exact bodyPost_ret (v := .tuple #[.slice (some ⟨w2.heap.size, 0, none⟩) 3200 3200, .int .i64 ((gtS h.words (rcS h ix).2 l l.length).2 : Nat)]) (by simp [results, Tryz.results107, go_sem]) rfl ⟨⟨_, ix, rfl, by omega, ei'.out, G, RT⟩, hbb⟩

end Go.Proofs.YtklafifiphbibaaGreat

/- Worlds that have grown outside of some blocks. -/
namespace Go.Proofs.YtklafifiphbibaaGreat
open Go.RowKit

/-- w' is w with new blocks, and with writes to blocks of S alone. -/
structure Grew (w w' : World) (S : Nat → Prop) : Prop where
  os : w'.os = w.os
  tape : w'.tape = w.tape
  output : w'.output = w.output
  size : w.heap.size ≤ w'.heap.size
  block : ∀ k, k < w.heap.size → ¬ S k → w'.heap[k]? = w.heap[k]?
theorem Grew.refl (w : World) (S : Nat → Prop) : Grew w w S := ⟨rfl, rfl, rfl, Nat.le_refl _, fun _ _ _ => rfl⟩
theorem Grew.mono {w w' : World} {S T : Nat → Prop} (h : Grew w w' S) (k : ∀ b, b < w.heap.size → S b → T b) : Grew w w' T :=
  ⟨h.os, h.tape, h.output, h.size, fun b hb hn => h.block b hb (fun s => hn (k b hb s))⟩
theorem Grew.trans {a b c : World} {S : Nat → Prop} (h : Grew a b S) (k : Grew b c S) : Grew a c S :=
  ⟨k.os.trans h.os, k.tape.trans h.tape, k.output.trans h.output, Nat.le_trans h.size k.size, fun i hi hn => (k.block i (Nat.lt_of_lt_of_le hi h.size) hn).trans (h.block i hi hn)⟩
theorem Grew.trans' {a b c : World} {S T : Nat → Prop} (h : Grew a b S) (k : Grew b c T) (hT : ∀ x, T x → S x ∨ a.heap.size ≤ x) : Grew a c S :=
  ⟨k.os.trans h.os, k.tape.trans h.tape, k.output.trans h.output, Nat.le_trans h.size k.size, fun i hi hn => (k.block i (Nat.lt_of_lt_of_le hi h.size) (fun q => (hT i q).elim hn (fun z => by omega))).trans (h.block i hi hn)⟩
theorem Grew.new {w w' : World} (h : Below w.heap.size w w') (S : Nat → Prop) : Grew w w' S := ⟨h.os, h.tape, h.output, h.size, fun k hk _ => h.block k hk⟩
theorem Grew.grown {w w' : World} {row : Option Nat} (h : w.grownBy w' row) : Grew w w' (fun k => row = some k) := ⟨h.os, h.tape, h.output, h.size, fun k hk hn => h.block k hk (fun e => hn e.symm)⟩
theorem Grew.set (w : World) (b i : Nat) (v : Value) : Grew w (w.setCell ⟨b, i, none⟩ v) (fun k => k = b) :=
  ⟨rfl, rfl, rfl, by simp [World.setCell], fun k _ hn => Below.heap_setCell _ _ _ _ hn⟩
theorem Grew.below {w w' : World} {S : Nat → Prop} {B : Nat} (h : Grew w w' S) (hB : B ≤ w.heap.size) (k : ∀ b, b < w.heap.size → S b → B ≤ b) : Below B w w' :=
  ⟨h.os, h.tape, h.output, h.size, fun b hb => h.block b (by omega) (fun s => by have := k b (by omega) s; omega)⟩
theorem Grew.drew {w w' : World} {S : Nat → Prop} (h : Grew w w' S) : Grew w w'.drew S := ⟨h.os, h.tape, h.output, h.size, h.block⟩
theorem Grew.cell {w w' : World} {S : Nat → Prop} {b o : Nat} {v : Value} (h : Grew w w' S) (hc : w.cell? ⟨b, o, none⟩ = some v) (hn : ¬ S b) : w'.cell? ⟨b, o, none⟩ = some v :=
  (World.cell?_of_block (w := w) (h.block b (World.block_lt_of_cell? _ _ hc) hn)).trans hc
theorem Grew.row {w w' : World} {S : Nat → Prop} {b t n : Nat} {f : Nat → Value} (h : Grew w w' S) (hr : w.rowIs b t n f) (hn : ¬ S b) : w'.rowIs b t n f := hr.of_block (h.block b hr.lt hn)
theorem Grew.own {w w' : World} {S : Nat → Prop} {B e size n : Nat} {v : Value} {xs : List Value} (h : Grew w w' S) (ho : w.ownsRow B e size v n xs) (hn : ∀ b, v.ownBlock = some b → ¬ S b) : w'.ownsRow B e size v n xs := by
  have hlt := ho.lt
  obtain ⟨hl, ho⟩ := ho
  refine ⟨hl, ?_⟩
  rcases ho with ho | ⟨g, cap, cur, rfl, hB, hh, h1⟩
  · exact .inl ho
  · exact .inr ⟨g, cap, cur, rfl, hB, (h.block g (hlt g rfl).2 (hn g rfl)).trans hh, h1⟩
/-- The cells of a slice that has some lie in this block. -/
def inB (v : Value) (b : Nat) : Prop := ∃ o n c, v = .slice (some ⟨b, o, none⟩) n c ∧ 0 < n
theorem IR.inlt {w : World} {v : Value} {l : List Int} (h : IR w v l) {b : Nat} (k : inB v b) : b < w.heap.size := by
  obtain ⟨o, n, c, e, hn⟩ := k
  exact h.lt _ _ _ e hn
theorem Grew.ir {w w' : World} {S : Nat → Prop} {v : Value} {l : List Int} (h : Grew w w' S) (hv : IR w v l) (hn : ∀ b, inB v b → ¬ S b) : IR w' v l := by
  obtain ⟨ao, cap, rfl, hle, hc⟩ := hv
  refine ⟨ao, cap, rfl, hle, fun i hi => ?_⟩
  obtain ⟨b, o, rfl, q⟩ := hc i hi
  exact ⟨b, o, rfl, h.cell q (hn b ⟨o, _, _, rfl, by omega⟩)⟩
theorem inB_own {w : World} {B e size n b : Nat} {v : Value} {xs : List Value} (h : w.ownsRow B e size v n xs) (k : inB v b) : v.ownBlock = some b := by
  obtain ⟨o, m, c, rfl, hm⟩ := k
  rcases h.2 with ⟨e0, _⟩ | ⟨g, cap, cur, e0, _⟩
  · cases e0
  · injection e0 with e1
    injection e1 with e1
    injection e1 with e1
    subst e1
    rfl
theorem own_shape {w : World} {B e size n : Nat} {v : Value} {xs : List Value} (h : w.ownsRow B e size v n xs) : ∃ ao cap, v = .slice ao n cap := by
  rcases h.2 with ⟨rfl, rfl⟩ | ⟨g, cap, cur, rfl, _⟩
  · exact ⟨none, 0, rfl⟩
  · exact ⟨_, cap, rfl⟩

/-! Maps -/
end Go.Proofs.YtklafifiphbibaaGreat

/- A struct is stored into a box: as one step. -/
namespace Go.Proofs.YtklafifiphbibaaGreat
open Go.RowKit

theorem run_store_box (w : World) (t t' : TypeId) (b n : Nat) (cs : Array Value) (f : Nat → Value) (hR : w.rowIs b t' n f) (hn : cs.size = n) (hi : (Tryz.prog.info? t).map (·.size) = some n) (h1 : cs.all (·.oneCell') = true) :
    (Instr.storeAt t (.pointer (some ⟨b, 0, none⟩)) (.agg cs)).run Tryz.prog w = .ok () (w.setRow b cs) := by
  obtain ⟨cur, hb, hc, _⟩ := hR
  have hst := run_storeCells_at Tryz.prog b 0 t' cs.toList 0 cur w hb (by simp; omega) (fun v hv => by
    have q := Array.all_eq_true'.1 h1 v (by simpa using hv)
    exact q)
  have e : (cur.toList.take (0 + 0) ++ cs.toList ++ cur.toList.drop (0 + 0 + cs.toList.length)).toArray = cs := by
    rw [Nat.add_zero, List.take_zero, List.nil_append, List.drop_eq_nil_of_le (by simp; omega)]
    simp
  rw [e] at hst
  obtain ⟨i, hi', hs⟩ := Option.map_eq_some_iff.1 hi
  simp [Instr.storeAt, Instr.sureAddr, storeVar, sizeOf, typeInfo, hi', hs, hn, Value.cells, hst]

theorem row_set (w : World) (b t n : Nat) (cs : Array Value) (f : Nat → Value) (hR : w.rowIs b t n f) (hn : cs.size = n) : (w.setRow b cs).rowIs b t n (fun i => cs[i]?.getD undef) := by
  obtain ⟨cur, hb, hc, _⟩ := hR
  exact ⟨cs, setRow_heap w b cur _ t _ hb, hn, fun i hi => by
    have q : i < cs.size := by omega
    simp [q]⟩

/-- A struct goes into a box that may be written. -/
theorem store_box {ops : Array Oper} {rest : List Oper} {o : Oper} {a : Act} {Q : Exit → Act → World → Prop} (w : World) (hgd : o.guard = none) (p s : Operand) (t : TypeId)
    (ho : o.op = .store t p s) (t' : TypeId) (b n : Nat) (cs : Array Value) (f : Nat → Value) (hp : a.eval p = .pointer (some ⟨b, 0, none⟩)) (hs : a.eval s = .agg cs) (hR : w.rowIs b t' n f) (hn : cs.size = n)
    (hi : (Tryz.prog.info? t).map (·.size) = some n) (h1 : cs.all (·.oneCell') = true)
    (h : ∀ w', w'.rowIs b t' n (fun i => cs[i]?.getD undef) → w.grownBy w' (some b) → wpList Tryz.prog ops Q rest (a.put o.dst undef) w') : wpList Tryz.prog ops Q (o :: rest) a w := by
  refine wpList_plain hgd fun K hK => ?_
  have hrun := run_store_box w t t' b n cs f hR hn hi h1
  unfold Oper.wp
  simp [execOp, ho, hp, hs, hrun, Result.andThen]
  exact hK _ _ (h _ (row_set w b t' n cs f hR hn) (grown_setRow w b cs))

end Go.Proofs.YtklafifiphbibaaGreat
