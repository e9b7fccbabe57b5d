/- The writes of a commit, of the program. -/
import Derived.Test.YtddocjmjianajaaZImplScr
import Derived.Test.YtddocjmjianajaaZImplPack
import Derived.Test.YtddocjmjianajaaZImplNew
import Derived.Deep.RegionHeld3
import Derived.Deep.DeepCutAuto
namespace Go.Proofs.Ytddocjmjianajaa
open Go.RowKit

theorem Try.infoW : (Try.prog.info? 42).map (fun i => (i.zero, i.size, i.bytes)) = some (some (.agg #[.int .i64 0, .string ⟨#[]⟩]), 2, 24) := by kernel_rfl
theorem app_write {ops : Array Oper} {rest : List Oper} {o : Oper} {a : Act} {Q : Exit → Act → World → Prop} (w : World) (hgd : o.guard = none) (s x : Operand)
    (ho : o.op = .call { callee := .builtin .append, args := #[s, x], argTypes := #[25, 25] }) (B : Nat) (v : Value) (n : Nat) (xs : List Value) (hs : a.eval s = v) (hown : w.ownsRow B 42 2 v n xs)
    (g c : Nat) (z : Int) (t : ByteArray) (hx : a.eval x = .slice (some ⟨g, 0, none⟩) 1 c) (hc0 : w.cell? ⟨g, 0, none⟩ = some (.int .i64 z)) (hc1 : w.cell? ⟨g, 1, none⟩ = some (.string t)) (hn : n ≤ 1000000000000) (hB : B ≤ w.heap.size)
    (h : ∀ v' w', w'.ownsRow B 42 2 v' (n + 1) (xs ++ [.int .i64 z, .string t]) → w.grownBy w' v.ownBlock → wpList Try.prog ops Q rest (a.put o.dst v') w') : wpList Try.prog ops Q (o :: rest) a w := by
  obtain ⟨i, hi, hzz⟩ := Option.map_eq_some_iff.1 Try.infoW
  simp only [Prod.mk.injEq] at hzz
  obtain ⟨hz, hsz, hby⟩ := hzz
  refine wpList_append_own w hgd s x 25 ho B 42 i _ 2 24 (by kernel_rfl) hi hz hsz hby rfl (by omega) v n xs hs hown ⟨g, 0, none⟩ 1 c [.int .i64 z, .string t] hx rfl (fun j u hj => ?_) (fun u hu => ?_) (by unfold maxLen; omega) (by omega) hB (fun v' w' h1 h2 _ => h v' w' h1 h2)
  · match j, hj with
    | 0, hj => simp at hj; subst hj; simpa [Addr.add] using hc0
    | 1, hj => simp at hj; subst hj; simpa [Addr.add] using hc1
    | j + 2, hj => simp at hj
  · simp at hu; rcases hu with rfl | rfl <;> rfl
/-- Rows of two types lie apart. -/
theorem own_keep {w w' : World} {B B' e e' size size' n n' : Nat} {v v' : Value} {xs xs' : List Value} (h : w.ownsRow B e size v n xs) (h' : w.ownsRow B' e' size' v' n' xs') (hne : e ≠ e') (hg : w.grownBy w' v'.ownBlock) : w'.ownsRow B e size v n xs := by
  refine World.ownsRow.kept h hg ?_
  obtain ⟨_, h⟩ := h
  obtain ⟨_, h'⟩ := h'
  rcases h with ⟨rfl, _⟩ | ⟨g, cap, cur, rfl, hB, hh, _⟩
  · exact .inl rfl
  · rcases h' with ⟨rfl, _⟩ | ⟨g', cap', cur', rfl, hB', hh', _⟩
    · exact .inr (by simp [Value.ownBlock])
    · refine .inr (fun e => ?_)
      simp only [Value.ownBlock, Option.some.injEq] at e
      subst e
      rw [hh] at hh'
      cases hh'
      exact hne rfl

/-- What the commit's writes come to: they, or a panic. -/
def CwOut (ss : List ByteArray) (ws : List Disk.Wr) (bs : List ByteArray) (B : Nat) (tg : TypeId) (pg : Value) (x : Ending) (w' : World) : Prop :=
  if scrOk ss ws bs = true then ∃ v, x = .returned v ∧ w'.ownsRow B 42 2 v (scrW ss bs).length (Disk.lcells (scrW ss bs)) else x = .panicked [{ v := .iface tg pg, recovered := false }]
theorem cw_no {ss : List ByteArray} {ws : List Disk.Wr} {bs : List ByteArray} {B : Nat} {tg : TypeId} {pg : Value} {w' : World} (h : scrOk ss ws bs = false) : CwOut ss ws bs B tg pg (.panicked [{ v := .iface tg pg, recovered := false }]) w' := by unfold CwOut; rw [if_neg (by rw [h]; simp)]
theorem cw_yes {ss : List ByteArray} {ws : List Disk.Wr} {bs : List ByteArray} {B : Nat} {tg : TypeId} {pg : Value} {w' : World} {v : Value} (h : scrOk ss ws bs = true) (ho : w'.ownsRow B 42 2 v (scrW ss bs).length (Disk.lcells (scrW ss bs))) : CwOut ss ws bs B tg pg (.returned v) w' := by unfold CwOut; rw [if_pos h]; exact ⟨v, rfl, ho⟩

theorem keepC {W a b : World} {x y : Addr} {u v : Value} (k : Below a.heap.size a b) (h : Below W.heap.size W a ∧ a.cell? x = some u ∧ a.cell? y = some v) : Below W.heap.size W b ∧ b.cell? x = some u ∧ b.cell? y = some v := by
  have f : ∀ {x : Addr} {u : Value}, a.cell? x = some u → b.cell? x = some u := fun {x u} h => by
    have hlt : x.block < a.heap.size := by
      rcases Nat.lt_or_ge x.block a.heap.size with h' | h'
      · exact h'
      · simp [World.cell?, Array.getElem?_eq_none h'] at h
    rw [k.cell hlt]
    exact h
  exact ⟨bel_after h.1 k, f h.2.1, f h.2.2⟩
theorem keepAl {W a : World} {x y : Addr} {u v : Value} {o : Obj} (h : Below W.heap.size W a ∧ a.cell? x = some u ∧ a.cell? y = some v) : Below W.heap.size W (a.alloc o) ∧ (a.alloc o).cell? x = some u ∧ (a.alloc o).cell? y = some v := keepC (bel_one a o) h
theorem keepSt {W a : World} {D SB : Nat} {u v p q r : Value} (h : Below W.heap.size W a ∧ a.cell? ⟨D, 0, none⟩ = some u ∧ a.cell? ⟨D, 1, none⟩ = some v) (hS : W.heap.size ≤ SB) (hD : D < W.heap.size) :
    Below W.heap.size W (((a.setCell ⟨SB, 0, none⟩ p).setCell ⟨SB, 1, none⟩ q).setCell ⟨SB, 2, none⟩ r) ∧ (((a.setCell ⟨SB, 0, none⟩ p).setCell ⟨SB, 1, none⟩ q).setCell ⟨SB, 2, none⟩ r).cell? ⟨D, 0, none⟩ = some u ∧ (((a.setCell ⟨SB, 0, none⟩ p).setCell ⟨SB, 1, none⟩ q).setCell ⟨SB, 2, none⟩ r).cell? ⟨D, 1, none⟩ = some v := by
  obtain ⟨h0, h1, h2⟩ := h
  have hne : ∀ i j, (⟨D, i, none⟩ : Addr) ≠ ⟨SB, j, none⟩ := fun i j e => by cases e; omega
  refine ⟨((h0.setCell (p := ⟨SB, 0, none⟩) hS _).setCell (p := ⟨SB, 1, none⟩) hS _).setCell (p := ⟨SB, 2, none⟩) hS _, ?_, ?_⟩
  · rw [World.cell?_setCell_other _ _ _ _ (hne _ _).symm, World.cell?_setCell_other _ _ _ _ (hne _ _).symm, World.cell?_setCell_other _ _ _ _ (hne _ _).symm]; exact h1
  · rw [World.cell?_setCell_other _ _ _ _ (hne _ _).symm, World.cell?_setCell_other _ _ _ _ (hne _ _).symm, World.cell?_setCell_other _ _ _ _ (hne _ _).symm]; exact h2
theorem sb4 {a b : World} {R : Nat} {C : Prop} (c0 : a.cell? ⟨R, 0, none⟩ = some (.int .i64 0)) (c1 : a.cell? ⟨R, 1, none⟩ = some (.slice none 0 0)) (c2 : a.cell? ⟨R, 2, none⟩ = some (.slice none 0 0)) (f0 : a.frozen? ⟨R, 0, none⟩ = false) (f1 : a.frozen? ⟨R, 1, none⟩ = false) (f2 : a.frozen? ⟨R, 2, none⟩ = false) (lt : R < a.heap.size) (hb : Below a.heap.size a b)
    (k : b.cell? ⟨R, 0, none⟩ = some (.int .i64 0) → b.cell? ⟨R, 1, none⟩ = some (.slice none 0 0) → b.cell? ⟨R, 2, none⟩ = some (.slice none 0 0) → b.frozen? ⟨R, 0, none⟩ = false → b.frozen? ⟨R, 1, none⟩ = false → b.frozen? ⟨R, 2, none⟩ = false → R < b.heap.size → C) : C := by
  obtain ⟨x0, x1, x2, y0, y1, y2, z⟩ := Zs.later (w := a) ⟨c0, c1, c2, f0, f1, f2, lt⟩ hb
  exact k x0 x1 x2 y0 y1 y2 z
theorem sb3 {a b : World} {C : Prop} (hb : Below (a.alloc (.cells #[.int .i64 0, .slice none 0 0, .slice none 0 0] 0)).heap.size (a.alloc (.cells #[.int .i64 0, .slice none 0 0, .slice none 0 0] 0)) b)
    (k : b.cell? ⟨a.heap.size, 0, none⟩ = some (.int .i64 0) → b.cell? ⟨a.heap.size, 1, none⟩ = some (.slice none 0 0) → b.cell? ⟨a.heap.size, 2, none⟩ = some (.slice none 0 0) → b.frozen? ⟨a.heap.size, 0, none⟩ = false → b.frozen? ⟨a.heap.size, 1, none⟩ = false → b.frozen? ⟨a.heap.size, 2, none⟩ = false → a.heap.size < b.heap.size → C) : C := by
  obtain ⟨x0, x1, x2, y0, y1, y2, z⟩ := Zs.later (Zs.new a) hb
  exact k x0 x1 x2 y0 y1 y2 z
theorem sb3d {a b : World} {C : Prop} (hb : Below (a.alloc (.cells #[.int .i64 0, .slice none 0 0, .slice none 0 0] 0)).drew.heap.size (a.alloc (.cells #[.int .i64 0, .slice none 0 0, .slice none 0 0] 0)).drew b)
    (k : b.cell? ⟨a.heap.size, 0, none⟩ = some (.int .i64 0) → b.cell? ⟨a.heap.size, 1, none⟩ = some (.slice none 0 0) → b.cell? ⟨a.heap.size, 2, none⟩ = some (.slice none 0 0) → b.frozen? ⟨a.heap.size, 0, none⟩ = false → b.frozen? ⟨a.heap.size, 1, none⟩ = false → b.frozen? ⟨a.heap.size, 2, none⟩ = false → a.heap.size < b.heap.size → C) : C := by
  obtain ⟨x0, x1, x2, y0, y1, y2, z⟩ := Zs.later (w := (a.alloc (.cells #[.int .i64 0, .slice none 0 0, .slice none 0 0] 0)).drew) (R := a.heap.size) (by obtain ⟨c0, c1, c2, f0, f1, f2, lt⟩ := Zs.new a; exact ⟨c0, c1, c2, f0, f1, f2, lt⟩) hb
  exact k x0 x1 x2 y0 y1 y2 z
theorem wrap_small (e : Int) (h0 : 0 ≤ e) (h1 : e ≤ 1000000000) : IntKind.i64.wrap e = e := by
  simp [IntKind.wrap, IntKind.bits, IntKind.signed]
  omega
theorem SRo {w : World} {B : Nat} {v : Value} {l : List ByteArray} (h : w.ownsRow B 9 1 v l.length (tcells l)) : Disk.SR w v l := by
  obtain ⟨ao, cap, rfl, h1, h2⟩ := own_cell h
  refine ⟨ao, cap, rfl, fun i hi => ?_⟩
  obtain ⟨b, rfl, hc⟩ := h2 i hi
  refine ⟨b, 0, rfl, ?_⟩
  rw [Nat.zero_add, hc]
  simp [tcells, hi]
theorem str_bne {s t : ByteArray} (h : ¬ s = t) : (s.toList == t.toList) = false := by
  have := str_ne'' h
  simpa using this
theorem emod_two_range (e : Int) : 0 ≤ e % 2 ∧ e % 2 ≤ 1 := by omega


end Go.Proofs.Ytddocjmjianajaa
