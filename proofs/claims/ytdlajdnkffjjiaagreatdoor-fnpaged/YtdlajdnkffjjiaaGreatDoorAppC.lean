/- A byte ahead of a code, by append; the code may be nil. -/
import Derived.Test.YtdlajdnkffjjiaaGreatDoorPick
import Derived.Deep.AppendSrc
import Derived.Deep.RegionHeld3
import Derived.Deep.DrawnRows
namespace Go.Proofs.YtdlajdnkffjjiaaGreatDoor
open Go.RowKit Go.Deep

theorem BR_of_owns {w : World} {B : Nat} {v : Value} {l : List UInt8} (h : w.ownsRow B 5 1 v l.length (ucells l)) : BR w v l := by
  obtain ⟨ao, cap, rfl, h1, h2⟩ := own_cell h
  refine ⟨ao, cap, rfl, h1, fun i hi => ?_⟩
  obtain ⟨b, rfl, hc⟩ := h2 i hi
  refine ⟨b, 0, rfl, ?_⟩
  rw [Nat.zero_add, hc]
  simp [ucells, hi]

theorem run_code (w : World) (g : Nat) (cv : Value) (cs : List UInt8) (ty : TypeId) (ho : w.ownsRow g 5 1 (.slice (some ⟨g, 0, none⟩) 1 1) 1 [.int .u8 1]) (hc : BR w cv cs) (hl : cs.length ≤ 4096) (hg : g ≤ w.heap.size) :
    ∃ ao n cap w', (Builtin.append_ #[22, 22] ty #[.slice (some ⟨g, 0, none⟩) 1 1, cv]).run Tryz.prog w = .ok (.slice ao n cap) w' ∧ BR w' (.slice ao n cap) (1 :: cs) ∧ w.grownBy w' (some g) := by
  obtain ⟨i, hi, hzz⟩ := Option.map_eq_some_iff.1 Tryz.infoB
  simp only [Prod.mk.injEq] at hzz
  obtain ⟨hz, hs, hby⟩ := hzz
  obtain ⟨ao, cap, rfl, hcap, h⟩ := hc
  by_cases h0 : cs.length = 0
  · obtain rfl := List.length_eq_zero_iff.1 h0
    have hsrc : Src Tryz.prog 1 22 (.slice ao 0 cap) 0 [] w := by
      cases ao with
      | none => exact Src.ofNil w Tryz.underB cap
      | some a => exact Src.ofSlice w Tryz.underB a 0 cap [] rfl (fun j u hu => by simp at hu) (by simp)
    have hr := run_append_room_src (P := Tryz.prog) w 22 22 ty 5 i Tryz.underB hi g 0 1 1 (.slice ao 0 cap) 0 [] (by rw [hs]; exact hsrc) (by omega) (fun j hj => by simp at hj) (fun j hj => by simp at hj)
    exact ⟨_, _, _, _, hr, BR_of_owns (l := [1]) ho, World.grownBy.refl _ _⟩
  · obtain ⟨b, o, rfl, _⟩ := h 0 (by omega)
    have hnews : ∀ (j : Nat) (u : Value), (ucells cs)[j]? = some u → w.cell? ((⟨b, o, none⟩ : Addr).add j) = some u := fun j u hj => by
      have hj' : j < cs.length := by
        have := (List.getElem?_eq_some_iff.1 hj).1
        simpa [ucells] using this
      obtain ⟨b', o', e, hcell⟩ := h j hj'
      simp only [Option.some.injEq, Addr.mk.injEq, and_true] at e
      obtain ⟨rfl, rfl⟩ := e
      rw [Addr.add_lit, hcell, ← hj]
      simp [ucells, hj']
    have hone : ∀ u ∈ ucells cs, u.oneCell' = true := fun u hu => by
      obtain ⟨s, _, rfl⟩ := List.mem_map.1 hu
      rfl
    obtain ⟨v', w', hr, own, gr, _⟩ := run_append_own (P := Tryz.prog) w g 22 ty 5 i _ 1 1 Tryz.underB hi hz hs hby rfl (by omega) (.slice (some ⟨g, 0, none⟩) 1 1) 1 [.int .u8 1] ho ⟨b, o, none⟩ cs.length cap (ucells cs) (by simp [ucells]) hnews hone (by unfold maxLen; omega) (by omega) hg
    have own' : w'.ownsRow g 5 1 v' ((1 : UInt8) :: cs).length (ucells (1 :: cs)) := by
      have e : ((1 : UInt8) :: cs).length = 1 + cs.length := by simp; omega
      rw [e]
      exact own
    obtain ⟨ao', cap', rfl, _⟩ := own_cell own'
    exact ⟨_, _, _, _, hr, BR_of_owns own', gr⟩

theorem step_code {ops : Array Oper} {o : Oper} {a : Act} {w : World} {K : Act → World → Prop} {Q : Exit → Act → World → Prop} {E : Prop} (hgd : o.guard = none) (s x : Operand)
    (ho : o.op = .call { callee := .builtin .append, args := #[s, x], argTypes := #[22, 22] }) (g : Nat) (hs : a.eval s = .slice (some ⟨g, 0, none⟩) 1 1) (cv : Value) (cs : List UInt8) (hx : a.eval x = cv)
    (hown : w.ownsRow g 5 1 (.slice (some ⟨g, 0, none⟩) 1 1) 1 [.int .u8 1]) (hc : BR w cv cs) (hl : cs.length ≤ 4096) (hg : g ≤ w.heap.size)
    (h : ∀ ao n cap w', BR w' (.slice ao n cap) (1 :: cs) → w.grownBy w' (some g) → K (a.put o.dst (.slice ao n cap)) w') :
    if Region.wanted o (yielded ops a.tmps) = true then Oper.wp Tryz.prog o a w K Q else E := by
  have hw : Region.wanted o (yielded ops a.tmps) = true := by simp [Region.wanted, hgd]
  rw [if_pos hw]
  obtain ⟨ao, n, cap, w', hrun, hB, hb⟩ := run_code w g cv cs o.type hown hc hl hg
  unfold Oper.wp
  simp [execOp, ho, resolve, invoke, builtin, hs, hx, hrun, Result.andThen]
  exact h _ _ _ _ hB hb

end Go.Proofs.YtdlajdnkffjjiaaGreatDoor
