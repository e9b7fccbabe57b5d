/- wordsTaken of the program: the words that these objects take. -/
import Derived.Test.YtfcidgnjanidoaaZCThe
import Derived.Test.YtfcidgnjanidoaaZGTourO
namespace Go.Proofs.Ytfcidgnjanidoaa
open Go.RowKit

theorem szS_le {W : List Int} : ∀ {l : List Nat}, (∀ a, a ∈ l → 0 ≤ gw W a ∧ gw W a ≤ 60) → 0 ≤ szS W l ∧ szS W l ≤ 64 * l.length
  | [], _ => by simp [szS]
  | a :: l, h => by
    have ih := szS_le (l := l) fun b hb => h b (by simp [hb])
    have := h a (by simp)
    simp only [szS, List.length_cons]
    omega
/-- Objects of a right heap. -/
def Obs (W : List Int) (l : List Nat) : Prop := l.length ≤ 3200 ∧ ∀ a, a ∈ l → a + 4 ≤ 3200 ∧ 0 ≤ gw W a ∧ gw W a ≤ 60
theorem Obs.all {h : Hp} {l : List Nat} (r : RightAt h l) : Obs h.words l := ⟨r.1.short, fun a ha => by have q := r.1.obj ha; exact ⟨q.1, size_of q.2.2⟩⟩
theorem Obs.ord {h : Hp} {l : List Nat} (r : RightAt h l) : Obs h.words (ordF h.words h.roots) := ⟨ord_len r, fun a ha => (Obs.all r).2 a (ord_sub r ha)⟩

set_option maxRecDepth 100000 in
set_option maxHeartbeats 1600000 in
theorem wordsTaken_any (b o cap : Nat) (W : List Int) (lv : Value) (l : List Nat) (w : World) (hW : WS w b o W) (hl : W.length = 3200) (il : IR w lv (ints l)) (hob : Obs W l) :
    Calls Try.prog 30 #[.slice (some ⟨b, o, none⟩) 3200 cap, lv] w fun x w' => x = .returned (.int .i64 (szS W l)) ∧ w' = w := by
  obtain ⟨oa, oc, rfl, hoc⟩ := intsI il
  have HLN : Hid (W.length = 3200) := hl
  have ls := hob.1
  clear hl il
  go_enter Try.func30, Try.ntmps30
  go_wp2
  go_loopw [5, 10] (fun yv kv wr => ∃ k : Nat, k ≤ l.length ∧ kv = .int .i64 k ∧ yv = .int .i64 (szS W (l.take k)) ∧ wr = w) (fun _ kv _ => l.length - (intOf kv).toNat)
  case atStart => exact ⟨0, Nat.zero_le _, rfl, rfl, rfl⟩
  case round =>
    obtain ⟨k, hk, rfl, rfl, hwr⟩ := hrel
    obtain rfl := hwr.symm
    clear hwr
    by_cases hkl : k < l.length
    · obtain ⟨ob, oo, rfl, ci⟩ := hoc k hkl
      obtain ⟨q1, q2⟩ := hob.2 _ (lget_mem _ _ hkl)
      obtain ⟨m, hm⟩ := Int.eq_ofNat_of_zero_le q2.1
      have m60 : m ≤ 60 := by omega
      have hx : nx W (l.getD k 0) = l.getD k 0 + 4 + m := by unfold nx; rw [hm]; rfl
      have HS : Hid (szS W (l.take (k + 1)) = szS W (l.take k) + (4 + m)) := (by rw [szS_snoc _ _ _ hkl, hm]; omega : szS W (l.take (k + 1)) = szS W (l.take k) + (4 + m))
      obtain ⟨r1, r2⟩ := szS_le (W := W) (l := l.take k) fun a ha => (hob.2 a (List.mem_of_mem_take ha)).2
      rw [List.length_take] at r2
      have r3 : szS W (l.take k) ≤ 204800 := by omega
      have BH := behind_any b o cap W (l.getD k 0) w hW HLN.out q1 q2
      rw [hx] at BH
      clear hm hx hoc q2 r2
      generalize l.getD k 0 = a at *
      generalize szS W (l.take k) = s at *
      have hki : (k : Int) < l.length := by omega
      go_wp2_with (go_at_call 41; refine BH.mono ?_; rintro e wq ⟨rfl, hq⟩; obtain rfl := hq.symm)
      exact ⟨⟨k + 1, by omega, by go_num, by rw [HS.out]; congr 1; omega, trivial⟩, by simp [intOf]; omega⟩
    · obtain rfl : k = l.length := by omega
      rw [List.take_length]
      go_wp2
      go_ret
      exact ⟨rfl, rfl⟩

end Go.Proofs.Ytfcidgnjanidoaa
