/- sameNode, slices.EqualFunc and SameGraph of the program. -/
import Derived.Test.YtnppoeifhmkphaaGreatDoorZGStr
import Derived.Deep.RegionHeld3
namespace Go.Proofs.YtnppoeifhmkphaaGreatDoor
open Go.RowKit

theorem keepN {W a b : World} {N M : Nat} {u0 u1 u2 x0 x1 x2 : Value} (k : Below a.heap.size a b) (h : Below W.heap.size W a ∧ (a.cell? ⟨N, 0, none⟩ = some u0 ∧ a.cell? ⟨N, 1, none⟩ = some u1 ∧ a.cell? ⟨N, 2, none⟩ = some u2) ∧ (a.cell? ⟨M, 0, none⟩ = some x0 ∧ a.cell? ⟨M, 1, none⟩ = some x1 ∧ a.cell? ⟨M, 2, none⟩ = some x2)) :
    Below W.heap.size W b ∧ (b.cell? ⟨N, 0, none⟩ = some u0 ∧ b.cell? ⟨N, 1, none⟩ = some u1 ∧ b.cell? ⟨N, 2, none⟩ = some u2) ∧ (b.cell? ⟨M, 0, none⟩ = some x0 ∧ b.cell? ⟨M, 1, none⟩ = some x1 ∧ b.cell? ⟨M, 2, none⟩ = some x2) :=
  ⟨bel_after h.1 k, ⟨cell_later k h.2.1.1, cell_later k h.2.1.2.1, cell_later k h.2.1.2.2⟩, cell_later k h.2.2.1, cell_later k h.2.2.2.1, cell_later k h.2.2.2.2⟩

noncomputable def ndEq (a b : Nd) : Bool := @decide (a = b) (Classical.propDecidable _)
theorem ndEq_text (a b : Nd) : ((ndTx a).toList == (ndTx b).toList) = ndEq a b := by
  unfold ndEq
  by_cases h : a = b
  · subst h
    rw [@decide_eq_true _ (Classical.propDecidable _) rfl]
    simp
  · rw [@decide_eq_false _ (Classical.propDecidable _) h]
    rw [Bool.eq_false_iff]
    intro q
    refine h (ndTx_inj (ByteArray.ext ?_))
    simp at q
    rw [ByteArray.toList_eq, ByteArray.toList_eq] at q
    exact Array.toList_inj.1 q

set_option maxHeartbeats 1600000 in
theorem sameNode_any (m n : Nd) (fu fv : Value) (w : World) (hu : IR w fu m.fl) (hv : IR w fv n.fl) (lu : m.fl.length ≤ 10000000) (lv : n.fl.length ≤ 10000000) (mu : nd64 m) (mv : nd64 n) (ht : GTb w) :
    Calls Tryz.prog 47 #[.agg #[.int .i64 m.cls, .int .i64 m.hash, fu], .agg #[.int .i64 n.cls, .int .i64 n.hash, fv]] w fun e w' => e = .returned (.bool (ndEq m n)) ∧ Below w.heap.size w w' := by
  obtain ⟨ua, uc, rfl, _⟩ := id hu
  obtain ⟨va, vc, rfl, _⟩ := id hv
  have b1 := bel_one w (.cells #[.int .i64 m.cls, .int .i64 m.hash, .slice ua m.fl.length uc] 45)
  have b2 := bel_one (w.alloc (.cells #[.int .i64 m.cls, .int .i64 m.hash, .slice ua m.fl.length uc] 45)) (.cells #[.int .i64 n.cls, .int .i64 n.hash, .slice va n.fl.length vc] 45)
  have bb := bel_after b1 b2
  have C0 : ∀ i x, #[Value.int .i64 m.cls, .int .i64 m.hash, .slice ua m.fl.length uc][i]? = some x → ((w.alloc (.cells #[.int .i64 m.cls, .int .i64 m.hash, .slice ua m.fl.length uc] 45)).alloc (.cells #[.int .i64 n.cls, .int .i64 n.hash, .slice va n.fl.length vc] 45)).cell? ⟨w.heap.size, i, none⟩ = some x := fun i x hx => cell_later b2 (cell_new w _ 45 _ rfl i x hx)
  have C1 : ∀ i x, #[Value.int .i64 n.cls, .int .i64 n.hash, .slice va n.fl.length vc][i]? = some x → ((w.alloc (.cells #[.int .i64 m.cls, .int .i64 m.hash, .slice ua m.fl.length uc] 45)).alloc (.cells #[.int .i64 n.cls, .int .i64 n.hash, .slice va n.fl.length vc] 45)).cell? ⟨w.heap.size + 1, i, none⟩ = some x := fun i x hx => cell_new _ _ 45 _ (by simp) i x hx
  have p0 := C0 0 _ rfl
  have p1 := C0 1 _ rfl
  have p2 := C0 2 _ rfl
  have q0 := C1 0 _ rfl
  have q1 := C1 1 _ rfl
  have q2 := C1 2 _ rfl
  have TM := fun W (h : Below w.heap.size w W) => nodeText_any m _ W (hu.later h) lu mu (ht.later h)
  have TN := fun W (h : Below w.heap.size w W) => nodeText_any n _ W (hv.later h) lv mv (ht.later h)
  have NE : Hid (∀ x, x = ((ndTx m).toList == (ndTx n).toList) → x = ndEq m n) := fun x e => by rw [e, ndEq_text]
  clear C0 C1 hu hv
  generalize ndTx m = s at *
  generalize ndTx n = t at *
  go_enter Tryz.func47, Tryz.ntmps47
  go_wp2_with fail
  generalize hW0 : (w.alloc (.cells #[.int .i64 m.cls, .int .i64 m.hash, .slice ua m.fl.length uc] 45)).alloc (.cells #[.int .i64 n.cls, .int .i64 n.hash, .slice va n.fl.length vc] 45) = W0 at *
  have l0 := World.block_lt_of_cell? _ _ p0
  have l1 := World.block_lt_of_cell? _ _ q0
  go_region_held3 (fun w' => Below W0.heap.size W0 w' ∧ (w'.cell? ⟨w.heap.size, 0, none⟩ = some (.int .i64 m.cls) ∧ w'.cell? ⟨w.heap.size, 1, none⟩ = some (.int .i64 m.hash) ∧ w'.cell? ⟨w.heap.size, 2, none⟩ = some (.slice ua m.fl.length uc)) ∧ (w'.cell? ⟨w.heap.size + 1, 0, none⟩ = some (.int .i64 n.cls) ∧ w'.cell? ⟨w.heap.size + 1, 1, none⟩ = some (.int .i64 n.hash) ∧ w'.cell? ⟨w.heap.size + 1, 2, none⟩ = some (.slice va n.fl.length vc)))
    (first | assumption | exact ⟨(Below.refl _ _).drew, ⟨p0, p1, p2⟩, q0, q1, q2⟩ | exact keepN (by assumption) (by assumption))
    (first
      | (go_at_call 57; with_reducible refine (TM _ (bel_after bb (And.left (by assumption)))).mono ?_; rintro e w2 ⟨rfl, hb2⟩)
      | (go_at_call 57; with_reducible refine (TN _ (bel_after bb (And.left (by assumption)))).mono ?_; rintro e w3 ⟨rfl, hb3⟩))
  all_goals go_wp2
  all_goals go_ret
  all_goals exact ⟨congrArg (fun x => Ending.returned (.bool x)) (NE.out _ rfl), bel_after bb (bel_after (bel_after (Below.refl _ _).drew hb2) hb3)⟩

/-- Are these nodes the same, each with each? -/
theorem ndEq_true {a b : Nd} : ndEq a b = true ↔ a = b := by
  unfold ndEq
  exact ⟨fun h => @of_decide_eq_true _ (Classical.propDecidable _) h, fun h => @decide_eq_true _ (Classical.propDecidable _) h⟩
noncomputable def nsEq (a b : List Nd) : Bool := @decide (a = b) (Classical.propDecidable _)
theorem nsEq_no {a b : List Nd} (h : a ≠ b) : nsEq a b = false := @decide_eq_false _ (Classical.propDecidable _) h
theorem nsEq_yes {a b : List Nd} (h : a = b) : nsEq a b = true := @decide_eq_true _ (Classical.propDecidable _) h
theorem ndlists_eq {a b : List Nd} (hl : a.length = b.length) (h : ∀ j, j < a.length → a.getD j nd0 = b.getD j nd0) : a = b := by
  refine List.ext_getElem hl fun i h1 h2 => ?_
  have := h i h1
  simpa [List.getD_eq_getElem?_getD, h1, h2] using this
/-- All numbers of the nodes are numbers. -/
def ns64 (l : List Nd) : Prop := ∀ n, n ∈ l → nd64 n ∧ n.fl.length ≤ 10000000

set_option maxHeartbeats 1600000 in
theorem equalFunc_any (v u : Value) (a b : List Nd) (w : World) (hv : NR w v a) (hu : NR w u b) (h1 : a.length ≤ 1000000000) (sa : ns64 a) (sb : ns64 b) (ht : GTb w) :
    Calls Tryz.prog 46 #[v, u, .func (.func 47) #[] #[]] w fun e w' => e = .returned (.bool (nsEq a b)) ∧ Below w.heap.size w w' := by
  obtain ⟨va, vc, rfl, _, hvc⟩ := hv
  obtain ⟨ua, uc, rfl, _, huc⟩ := hu
  by_cases hl : a.length = b.length
  · have hl' : ((a.length : Int) != (b.length : Int)) = false := by simp [hl]
    have HL : Hid (a.length = b.length) := hl
    clear hl
    go_enter Tryz.func46, Tryz.ntmps46
    go_wp2
    go_loopw [17] (fun iv wr => ∃ k : Nat, iv = .int .i64 k ∧ k ≤ a.length ∧ Hid (∀ j, j < k → a.getD j nd0 = b.getD j nd0) ∧ Below w.heap.size w wr) (fun iv _ => a.length - (intOf iv).toNat)
    case atStart => exact ⟨0, rfl, Nat.zero_le _, fun j hj => absurd hj (by omega), Below.refl _ _⟩
    case round =>
      obtain ⟨k, rfl, hk, hj, hb⟩ := hrel
      by_cases hkl : k < a.length
      · obtain ⟨vb, vo, fa, fn, fc, rfl, c0, c1, c2, cr⟩ := hvc k hkl
        obtain ⟨ub, uo, ga, gn, gc, rfl, d0, d1, d2, dr⟩ := huc k (by rw [← HL.out]; exact hkl)
        have ma := sa (a.getD k nd0) (by simp [hkl])
        have hkb' : k < b.length := by rw [← HL.out]; exact hkl
        have mb := sb (b.getD k nd0) (by simp [hkb'])
        have e0 := cell_later hb c0
        have e1 := cell_later hb c1
        have e2 := cell_later hb c2
        have g0 := cell_later hb d0
        have g1 := cell_later hb d1
        have g2 := cell_later hb d2
        have hkb : (k : Int) < b.length := by have := HL.out; omega
        have hki : (k : Int) < a.length := by omega
        have SN := fun W (q : Below wr.heap.size wr W) => sameNode_any (a.getD k nd0) (b.getD k nd0) (.slice fa fn fc) (.slice ga gn gc) W ((cr.later hb).later q) ((dr.later hb).later q) ma.2 mb.2 ma.1 mb.1 ((ht.later hb).later q)
        have YES : Hid (ndEq (a.getD k nd0) (b.getD k nd0) = true → ∀ j, j < k + 1 → a.getD j nd0 = b.getD j nd0) := fun e => all_upto hj.out (ndEq_true.1 e)
        have NO : Hid (ndEq (a.getD k nd0) (b.getD k nd0) = false → nsEq a b = false) := fun e => nsEq_no (fun q => by rw [q, ndEq_true.2 rfl] at e; cases e)
        have al1 := bel_one wr (.cells #[.int .i64 (a.getD k nd0).cls, .int .i64 (a.getD k nd0).hash, .slice fa fn fc] 45)
        have al2 := bel_one (wr.alloc (.cells #[.int .i64 (a.getD k nd0).cls, .int .i64 (a.getD k nd0).hash, .slice fa fn fc] 45)) (.cells #[.int .i64 (b.getD k nd0).cls, .int .i64 (b.getD k nd0).hash, .slice ga gn gc] 45)
        have SN2 := SN _ (bel_after al1 al2)
        have lu := World.block_lt_of_cell? _ _ g0
        have hbb := bel_after hb (bel_after al1 al2)
        generalize (a.getD k nd0).cls = x at *
        generalize (a.getD k nd0).hash = y at *
        generalize (b.getD k nd0).cls = x' at *
        generalize (b.getD k nd0).hash = y' at *
        generalize ndEq (a.getD k nd0) (b.getD k nd0) = r at *
        clear c0 c1 c2 d0 d1 d2 cr dr hvc huc SN sa sb ma mb hj ht
        go_wp2_with fail
        refine SN2.mono ?_
        rintro e w2 ⟨rfl, hb2⟩
        cases r
        · have G := NO.out rfl
          have HG : Hid (nsEq a b = false) := G
          clear G NO YES
          go_wp2
          go_ret
          exact ⟨ret_bool HG.out.symm, bel_after hbb hb2⟩
        · have G := YES.out rfl
          clear NO YES
          go_wp2
          exact ⟨⟨k + 1, by go_num, by omega, G, bel_after hbb hb2⟩, by simp [intOf]; omega⟩
      · obtain rfl : k = a.length := by omega
        have HG : Hid (nsEq a b = true) := nsEq_yes (ndlists_eq HL.out hj.out)
        clear hvc huc
        go_wp2
        go_ret
        exact ⟨ret_bool HG.out.symm, hb⟩
  · have hl' : ((a.length : Int) != (b.length : Int)) = true := by simp; omega
    have HG : Hid (nsEq a b = false) := nsEq_no (fun e => hl (by rw [e]))
    clear hvc huc hl
    go_enter Tryz.func46, Tryz.ntmps46
    go_wp2
    go_ret
    exact ⟨ret_bool HG.out.symm, Below.refl _ _⟩

end Go.Proofs.YtnppoeifhmkphaaGreatDoor
