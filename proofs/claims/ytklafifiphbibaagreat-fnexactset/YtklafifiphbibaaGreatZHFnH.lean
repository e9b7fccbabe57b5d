/- Header of the model and of the program. -/
import Derived.Test.YtklafifiphbibaaGreatZHFns
namespace Go.Proofs.YtklafifiphbibaaGreat
open Go.RowKit

theorem mem_stop {l : List Nat} {k : Nat} {x : Int} (h : k < l.length) (e : ((l.getD k 0 : Nat) : Int) = x) : (ints l).contains x = true := by
  rw [List.contains_iff_mem, ← e]
  exact List.mem_map.2 ⟨_, lget_mem l k h, rfl⟩
theorem mem_done {l : List Nat} {x : Int} (h : ∀ j, j < l.length → ((l.getD j 0 : Nat) : Int) ≠ x) : (ints l).contains x = false := by
  rw [Bool.eq_false_iff]
  intro q
  rw [List.contains_iff_mem] at q
  obtain ⟨a, ha, rfl⟩ := List.mem_map.1 q
  obtain ⟨i, hi, e⟩ := List.getElem_of_mem ha
  exact h i hi (by simp [hi, e])

set_option maxHeartbeats 800000 in
theorem l5Is_c (v : Value) (h : Hp) (x : Int) (w : World) (hv : HR w v h) (hk : okC h = true) :
    Calls Tryz.prog 59 #[v, .int .i64 x] w fun e w' => e = .returned (.bool (isC h x)) ∧ Below w.heap.size w w' := by
  obtain ⟨v1, v2, v3, rfl, i1, i2, i3⟩ := id hv
  have hb0 := bel_one w (.cells #[v1, v2, .int .i64 h.old, .int .i64 h.eden, .int .i64 h.surv, .bool h.flip, .int .i64 h.hash, v3] 26)
  have A := all_c _ h _ (hv.later hb0) hk
  have hs := ob_short h
  have IE : Hid (isC h x = (ints (obC h)).contains x) := (rfl : isC h x = (ints (obC h)).contains x)
  generalize isC h x = r at *
  generalize obC h = l at *
  clear i1 i2 i3 hk
  go_enter Tryz.func59, Tryz.ntmps59
  go_wp2_with fail
  refine A.mono ?_
  rintro e w1 ⟨⟨v', rfl, ho⟩, hb1⟩
  have hbw := bel_after hb0 hb1
  obtain ⟨ao, cp, rfl, hc⟩ := intsI ho
  go_wp2
  go_loopw [6] (fun kv wr => ∃ k : Nat, k ≤ l.length ∧ kv = .int .i64 k ∧ Hid (∀ j, j < k → ((l.getD j 0 : Nat) : Int) ≠ x) ∧ wr = w1) (fun kv _ => l.length - (intOf kv).toNat)
  case atStart => exact ⟨0, Nat.zero_le _, rfl, fun j hj => by omega, rfl⟩
  case round =>
    obtain ⟨k, hk, rfl, hj, hwr⟩ := hrel
    obtain rfl := hwr.symm
    clear hwr
    by_cases hlt : k < l.length
    · obtain ⟨b, o, rfl, ci⟩ := hc k hlt
      have NX : Hid (((l.getD k 0 : Nat) : Int) ≠ x → ∀ j, j < k + 1 → ((l.getD j 0 : Nat) : Int) ≠ x) := fun e => all_upto hj.out e
      have YES : Hid (((l.getD k 0 : Nat) : Int) = x → (ints l).contains x = true) := fun e => mem_stop hlt e
      clear hj
      generalize ((l.getD k 0 : Nat) : Int) = a at *
      by_cases hx : a = x
      · have G : Hid (r = true) := (by rw [IE.out]; exact YES.out hx : r = true)
        have hb : (a == x) = true := by simpa using hx
        clear NX YES
        subst hx
        go_wp2
        go_ret
        exact ⟨wret_bool G.out.symm, hbw⟩
      · have N := NX.out hx
        have hb : (a == x) = false := by simpa using hx
        clear NX YES
        go_wp2
        exact ⟨⟨k + 1, by omega, by go_num, N, trivial⟩, by simp [intOf]; omega⟩
    · obtain rfl : k = l.length := by omega
      have G : Hid (r = false) := (by rw [IE.out]; exact mem_done hj.out : r = false)
      go_wp2
      go_ret
      exact ⟨wret_bool G.out.symm, hbw⟩

theorem is_at {h : Hp} {x : Int} (k : isC h x = true) : ∃ a : Nat, x = a ∧ a + 4 ≤ 3200 ∧ h.words.length = 3200 ∧ okC h = true := by
  unfold isC at k
  rw [List.contains_iff_mem] at k
  obtain ⟨a, ha, e⟩ := List.mem_map.1 k
  cases q : okC h
  · rw [c_wrong q] at ha; cases ha
  · have p := (c_right q).1
    exact ⟨a, e.symm, (p.obj ha).1, p.1, rfl⟩
theorem hd_no {h : Hp} {x : Int} (k : isC h x = false) (i : Nat) : hdC h x i = -1 := by unfold hdC; rw [k]; rfl
theorem hd_yes {h : Hp} {a : Nat} (k : isC h (a : Int) = true) (i : Nat) : hdC h (a : Int) i = gw h.words (a + i) := by unfold hdC; rw [if_pos k, Int.toNat_natCast]
theorem is_wrong {h : Hp} {x : Int} (k : okC h = false) : isC h x = false := by unfold isC; rw [c_wrong k]; rfl

def hdV (h0 h1 h2 h3 : Int) : Value := .tuple #[.int .i64 h0, .int .i64 h1, .int .i64 h2, .int .i64 h3]



end Go.Proofs.YtklafifiphbibaaGreat
