/- Heaps whose rows are owned with their spare room. -/
import Derived.Test.YtgacacbncefeaaaGreatZMBase
namespace Go.Proofs.YtgacacbncefeaaaGreat
open Go.RowKit

/-- A heap of three rows of its own, spare room and all. -/
structure HM (B : Nat) (w : World) (v : Value) (h : Hp) : Prop where
  ex : ∃ v1 v2 v3, v = .agg #[v1, v2, .int .i64 h.old, .int .i64 h.eden, .int .i64 h.surv, .bool h.flip, .int .i64 h.hash, v3] ∧
    (w.ownsRow B 2 1 v1 h.words.length (icells h.words) ∧ w.ownsRow B 2 1 v2 h.roots.length (icells h.roots) ∧ w.ownsRow B 2 1 v3 h.kept.length (icells h.kept)) ∧
    (∀ b, v1.ownBlock = some b → v2.ownBlock ≠ some b ∧ v3.ownBlock ≠ some b) ∧ (∀ b, v2.ownBlock = some b → v3.ownBlock ≠ some b)
theorem row_own {v : Value} {n b : Nat} (h : Disk.rowOf v n = some b) : v.ownBlock = some b := by
  unfold Disk.rowOf at h
  split at h
  · cases h
  · exact h
theorem HM.hn {B : Nat} {w : World} {v : Value} {h : Hp} (k : HM B w v h) : HN B w v h := by
  obtain ⟨v1, v2, v3, e, ⟨o1, o2, o3⟩, d1, d2⟩ := k.ex
  exact ⟨v1, v2, v3, e, ⟨OS_of_owns o1, OS_of_owns o2, OS_of_owns o3⟩, ⟨IR_of_owns o1, IR_of_owns o2, IR_of_owns o3⟩, ⟨row_of_owns o1, row_of_owns o2, row_of_owns o3⟩,
    fun b q q' => (d1 b (row_own q)).1 (row_own q'), fun b q q' => (d1 b (row_own q)).2 (row_own q'), fun b q q' => d2 b (row_own q) (row_own q')⟩
theorem HM.hr {B : Nat} {w : World} {v : Value} {h : Hp} (k : HM B w v h) : HR w v h := k.hn.hr
theorem HM.later {B : Nat} {w w' : World} {v : Value} {h : Hp} (k : HM B w v h) (hb : Below w.heap.size w w') : HM B w' v h := by
  obtain ⟨v1, v2, v3, e, ⟨o1, o2, o3⟩, d1, d2⟩ := k.ex
  exact ⟨v1, v2, v3, e, ⟨own_later o1 hb, own_later o2 hb, own_later o3 hb⟩, d1, d2⟩
theorem own_keep {w w' : World} {B e size n : Nat} {v : Value} {xs : List Value} (h : w.ownsRow B e size v n xs) (hk : ∀ b, B ≤ b → b < w.heap.size → w'.heap[b]? = w.heap[b]?) : w'.ownsRow B e size v n xs := by
  have hlt := h.lt
  obtain ⟨hl, h⟩ := h
  refine ⟨hl, ?_⟩
  rcases h with h | ⟨g, cap, cur, rfl, hB, hh, h1⟩
  · exact .inl h
  · exact .inr ⟨g, cap, cur, rfl, hB, (hk g hB (hlt g rfl).2).trans hh, h1⟩
theorem HM.keep {B : Nat} {w w' : World} {v : Value} {h : Hp} (k : HM B w v h) (hk : ∀ b, B ≤ b → b < w.heap.size → w'.heap[b]? = w.heap[b]?) : HM B w' v h := by
  obtain ⟨v1, v2, v3, e, ⟨o1, o2, o3⟩, d1, d2⟩ := k.ex
  exact ⟨v1, v2, v3, e, ⟨own_keep o1 hk, own_keep o2 hk, own_keep o3 hk⟩, d1, d2⟩
theorem own_down {w : World} {B C e size n : Nat} {v : Value} {xs : List Value} (h : w.ownsRow B e size v n xs) (hC : C ≤ B) : w.ownsRow C e size v n xs := by
  obtain ⟨hl, h⟩ := h
  refine ⟨hl, ?_⟩
  rcases h with h | ⟨g, cap, cur, hv, hb, hh⟩
  · exact .inl h
  · exact .inr ⟨g, cap, cur, hv, Nat.le_trans hC hb, hh⟩
theorem HM.low {B C : Nat} {w : World} {v : Value} {h : Hp} (k : HM B w v h) (hC : C ≤ B) : HM C w v h := by
  obtain ⟨v1, v2, v3, e, ⟨o1, o2, o3⟩, d1, d2⟩ := k.ex
  exact ⟨v1, v2, v3, e, ⟨own_down o1 hC, own_down o2 hC, own_down o3 hC⟩, d1, d2⟩
theorem nil_owns (w : World) (B : Nat) : w.ownsRow B 2 1 (.slice none 0 0) 0 [] := ⟨by simp, .inl ⟨rfl, rfl⟩⟩
theorem zero_hm (B : Nat) (w : World) : HM B w (.agg #[.slice none 0 0, .slice none 0 0, .int .i64 0, .int .i64 0, .int .i64 0, .bool false, .int .i64 0, .slice none 0 0]) zeroH :=
  ⟨_, _, _, rfl, ⟨nil_owns _ _, nil_owns _ _, nil_owns _ _⟩, (fun b q => by cases q), (fun b q => by cases q)⟩
theorem zero_retm {h' : Hp} {b : Bool} {B : Nat} {w' : World} (k : b = false) (e : h' = zeroH) :
    Ending.returned (.tuple #[.agg #[.slice none 0 0, .slice none 0 0, .int .i64 0, .int .i64 0, .int .i64 0, .bool false, .int .i64 0, .slice none 0 0], .bool false]) = .returned (.tuple #[.agg #[.slice none 0 0, .slice none 0 0, .int .i64 0, .int .i64 0, .int .i64 0, .bool false, .int .i64 0, .slice none 0 0], .bool b]) ∧ HM B w' (.agg #[.slice none 0 0, .slice none 0 0, .int .i64 0, .int .i64 0, .int .i64 0, .bool false, .int .i64 0, .slice none 0 0]) h' := by
  subst k
  subst e
  exact ⟨rfl, zero_hm _ _⟩
theorem zero_ret3m {h' : Hp} {b : Bool} {B : Nat} {w' : World} {z : Int} (k : b = false) (e : h' = zeroH) (e' : z = 0) :
    Ending.returned (.tuple #[.agg #[.slice none 0 0, .slice none 0 0, .int .i64 0, .int .i64 0, .int .i64 0, .bool false, .int .i64 0, .slice none 0 0], .int .i64 0, .bool false]) = .returned (.tuple #[.agg #[.slice none 0 0, .slice none 0 0, .int .i64 0, .int .i64 0, .int .i64 0, .bool false, .int .i64 0, .slice none 0 0], .int .i64 z, .bool b]) ∧ HM B w' (.agg #[.slice none 0 0, .slice none 0 0, .int .i64 0, .int .i64 0, .int .i64 0, .bool false, .int .i64 0, .slice none 0 0]) h' := by
  subst k
  subst e
  subst e'
  exact ⟨rfl, zero_hm _ _⟩
theorem HM.of_owns {B n1 n2 n3 : Nat} {w : World} {h : Hp} {v1 v2 v3 : Value} (e1 : n1 = h.words.length) (o1 : w.ownsRow B 2 1 v1 n1 (icells h.words)) (e2 : n2 = h.roots.length) (o2 : w.ownsRow B 2 1 v2 n2 (icells h.roots)) (e3 : n3 = h.kept.length) (o3 : w.ownsRow B 2 1 v3 n3 (icells h.kept))
    (d1 : ∀ b, v1.ownBlock = some b → v2.ownBlock ≠ some b ∧ v3.ownBlock ≠ some b) (d2 : ∀ b, v2.ownBlock = some b → v3.ownBlock ≠ some b) :
    HM B w (.agg #[v1, v2, .int .i64 h.old, .int .i64 h.eden, .int .i64 h.surv, .bool h.flip, .int .i64 h.hash, v3]) h := by
  subst e1; subst e2; subst e3
  exact ⟨v1, v2, v3, rfl, ⟨o1, o2, o3⟩, d1, d2⟩
theorem own_lowM {w : World} {B e size n b : Nat} {v : Value} {xs : List Value} (h : w.ownsRow B e size v n xs) (hk : v.ownBlock = some b) : B ≤ b := by
  rcases h.2 with ⟨rfl, _⟩ | ⟨g, cap, cur, rfl, hg, _⟩
  · cases hk
  · cases hk; exact hg
theorem own_is {g n c b : Nat} (h : (Value.slice (some ⟨g, 0, none⟩) n c).ownBlock = some b) : g = b := Option.some.inj h
theorem HM.of_own3 {B B3 g1 g2 c1 c2 : Nat} {w : World} {v3 : Value} {h : Hp} (r1 : RI w g1 h.words c1) (r2 : RI w g2 h.roots c2) (m1 : c1 ≤ maxLen) (m2 : c2 ≤ maxLen) (o3 : w.ownsRow B3 2 1 v3 h.kept.length (icells h.kept))
    (b1 : B ≤ g1) (b2 : B ≤ g2) (b3 : B ≤ B3) (d12 : g1 ≠ g2) (d13 : g1 < B3) (d23 : g2 < B3) :
    HM B w (.agg #[.slice (some ⟨g1, 0, none⟩) h.words.length c1, .slice (some ⟨g2, 0, none⟩) h.roots.length c2, .int .i64 h.old, .int .i64 h.eden, .int .i64 h.surv, .bool h.flip, .int .i64 h.hash, v3]) h :=
  ⟨_, _, _, rfl, ⟨r1.owns b1 m1, r2.owns b2 m2, own_down o3 b3⟩, fun b q => ⟨fun e => d12 ((own_is q).trans (own_is e).symm), fun e => by have := own_lowM o3 e; have := own_is q; omega⟩, fun b q e => by have := own_lowM o3 e; have := own_is q; omega⟩
theorem HM.of_rows {B g1 g2 g3 c1 c2 c3 : Nat} {w : World} {h : Hp} (r1 : RI w g1 h.words c1) (r2 : RI w g2 h.roots c2) (r3 : RI w g3 h.kept c3) (m1 : c1 ≤ maxLen) (m2 : c2 ≤ maxLen) (m3 : c3 ≤ maxLen)
    (b1 : B ≤ g1) (b2 : B ≤ g2) (b3 : B ≤ g3) (d12 : g1 ≠ g2) (d13 : g1 ≠ g3) (d23 : g2 ≠ g3) :
    HM B w (.agg #[.slice (some ⟨g1, 0, none⟩) h.words.length c1, .slice (some ⟨g2, 0, none⟩) h.roots.length c2, .int .i64 h.old, .int .i64 h.eden, .int .i64 h.surv, .bool h.flip, .int .i64 h.hash, .slice (some ⟨g3, 0, none⟩) h.kept.length c3]) h :=
  ⟨_, _, _, rfl, ⟨r1.owns b1 m1, r2.owns b2 m2, r3.owns b3 m3⟩, fun b q => by cases q; exact ⟨fun e => d12 (Option.some.inj e).symm, fun e => d13 (Option.some.inj e).symm⟩, fun b q => by cases q; exact fun e => d23 (Option.some.inj e).symm⟩

end Go.Proofs.YtgacacbncefeaaaGreat
