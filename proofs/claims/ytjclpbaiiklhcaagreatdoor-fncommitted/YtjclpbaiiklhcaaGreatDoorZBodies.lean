/- superBodies of the program. -/
import Derived.Test.YtjclpbaiiklhcaaGreatDoorZV9
import Derived.Test.YtjclpbaiiklhcaaGreatDoorZReadS
import Derived.Test.YtjclpbaiiklhcaaGreatDoorZV11
namespace Go.Proofs.YtjclpbaiiklhcaaGreatDoor
open Go.RowKit

def bodiesK (ss : List ByteArray) (l : List Int) (k : Nat) : List ByteArray := (List.range k).map fun i => (pageAt ss l i).2.2.1
theorem bodiesK_succ (ss : List ByteArray) (l : List Int) (k : Nat) : bodiesK ss l (k + 1) = bodiesK ss l k ++ [(pageAt ss l k).2.2.1] := by
  unfold bodiesK
  rw [List.range_succ, List.map_append]
  rfl
theorem bodiesK_length (ss : List ByteArray) (l : List Int) (k : Nat) : (bodiesK ss l k).length = k := by simp [bodiesK]
/-- What superBodies answers. -/
def BodOut (ss : List ByteArray) (e : Int) (l : List Int) (B : Nat) (x : Ending) (w' : World) : Prop :=
  if soundB ss e l l.length = true then ∃ v, x = .returned (.tuple #[v, .bool true]) ∧ w'.ownsRow B 9 1 v l.length (tcells (bodiesK ss l l.length)) else x = .returned (.tuple #[.slice none 0 0, .bool false])
theorem bodOut_no {ss : List ByteArray} {e : Int} {l : List Int} {B : Nat} {w' : World} (h : soundB ss e l l.length = false) : BodOut ss e l B (.returned (.tuple #[.slice none 0 0, .bool false])) w' := by unfold BodOut; rw [if_neg (by rw [h]; simp)]
theorem bodOut_yes {ss : List ByteArray} {e : Int} {l : List Int} {B : Nat} {w' : World} {v : Value} (h : soundB ss e l l.length = true) (ho : w'.ownsRow B 9 1 v l.length (tcells (bodiesK ss l l.length))) : BodOut ss e l B (.returned (.tuple #[v, .bool true])) w' := by unfold BodOut; rw [if_pos h]; exact ⟨v, rfl, ho⟩

set_option maxRecDepth 100000 in
set_option maxHeartbeats 6400000 in
theorem superBodies_any (v1 v2 v : Value) (ss : List ByteArray) (e : Int) (l : List Int) (a0 a1 a2 a3 : Addr) (w : World) (hv : Ss w v1 ss) (hir : IR w v l) (hl : l.length ≤ 30) (OM : ∀ i, i < l.length → 2 ≤ l.getD i 0 ∧ l.getD i 0 ≤ 63) (hC : Ctx a0 a1 a2 a3 w) :
    Calls Tryz.prog 63 #[.agg #[v1, v2], .agg #[.int .i64 e, v, .slice none 0 0]] w fun x w' => BodOut ss e l w.heap.size x w' ∧ Below w.heap.size w w' := by
  have hb0 := bel_after (bel_one w (.cells #[v1, v2] 27)) (bel_one _ (.cells #[.int .i64 e, v, .slice none 0 0] 58))
  have hv0 := hv.later hb0
  obtain ⟨ao, cap, rfl, hcap, hir⟩ := hir.later hb0
  obtain ⟨⟨so, scp, hsv, hsr⟩, hlen, hfit⟩ := hv0
  rw [hlen] at hsv hsr
  subst hsv
  generalize hW0 : (w.alloc (.cells #[.slice so 64 scp, v2] 27)).alloc (.cells #[.int .i64 e, .slice ao l.length cap, .slice none 0 0] 58) = W0 at *
  have hsz0 : W0.heap.size = w.heap.size + 1 + 1 := by rw [← hW0]; simp
  have p0 : W0.cell? ⟨w.heap.size, 0, none⟩ = some (.slice so 64 scp) := by rw [← hW0]; exact cell_later (bel_one _ _) (by simp)
  have p1 : W0.cell? ⟨w.heap.size + 1, 0, none⟩ = some (.int .i64 e) := by rw [← hW0, World.cell?_alloc_at _ _ _ _ (by simp)]; rfl
  have p2 : W0.cell? ⟨w.heap.size + 1, 1, none⟩ = some (.slice ao l.length cap) := by rw [← hW0, World.cell?_alloc_at _ _ _ _ (by simp)]; rfl
  have HW0 : Hid ((w.alloc (.cells #[.slice so 64 scp, v2] 27)).alloc (.cells #[.int .i64 e, .slice ao l.length cap, .slice none 0 0] 58) = W0) := hW0
  clear hv hlen hW0
  go_enter Tryz.func63, Tryz.ntmps63
  go_wp2
  rw [HW0.out]
  clear HW0
  go_loopw [6, 16] (fun bv iv wr => ∃ (k : Nat) (v0 : Value), k ≤ l.length ∧ iv = .int .i64 k ∧ v0 = bv ∧ wr.ownsRow W0.heap.size 9 1 v0 k (tcells (bodiesK ss l k)) ∧ Hid (soundB ss e l k = true) ∧ Below W0.heap.size W0 wr) (fun _ iv _ => l.length - (intOf iv).toNat)
  case atStart => exact ⟨0, _, Nat.zero_le _, rfl, rfl, World.ownsRow_nil _ _ _ _, (by rfl : soundB ss e l 0 = true), Below.refl _ _⟩
  case round =>
    obtain ⟨k, bv, hk, rfl, rfl, hown, hsd, hb⟩ := hrel
    by_cases hlt : k < l.length
    · obtain ⟨b, o, rfl, hc0⟩ := hir k hlt
      obtain ⟨y0, y1⟩ := OM k hlt
      obtain ⟨n, hn⟩ := Int.eq_ofNat_of_zero_le (a := l.getD k 0) (by omega)
      obtain ⟨b2, o2, rfl, hc1⟩ := hsr n (by omega)
      have hfn := hfit n (by omega)
      have HR : Hid (pageAt ss l k = openR (textAt ss n)) := (by unfold pageAt textAt; rw [hn, Int.toNat_natCast] : pageAt ss l k = openR (textAt ss n))
      rw [hn] at hc0 y0 y1
      have d0 := cell_later hb p0
      have d1 := cell_later hb hc0
      have d2 := cell_later hb hc1
      have d3 := cell_later hb p1
      change wr.cell? _ = some (.string (textAt ss n)) at d2
      have OP := implOpen_any (textAt ss n) a0 a1 a2 a3 wr (by omega) (hC.later (bel_after hb0 hb))
      have BS := bodiesK_succ ss l k
      rw [HR.out] at BS
      generalize textAt ss n = tx at *
      generalize openR tx = r at *
      obtain ⟨r1, r2, r3, r4⟩ := r
      unfold openV at OP
      simp only at OP BS
      have HB : Hid (tcells (bodiesK ss l (k + 1)) = tcells (bodiesK ss l k) ++ [.string r3]) := (by rw [BS]; simp [tcells] : tcells (bodiesK ss l (k + 1)) = tcells (bodiesK ss l k) ++ [.string r3])
      have NG : Hid (soundAt ss e l k = false → soundB ss e l l.length = false) := fun h => soundB_false h hlt
      have SA : Hid (soundAt ss e l k = (decide (r4 = 0) && decide (r1 = k) && decide (r2 ≤ e))) := (by unfold soundAt; rw [HR.out] : soundAt ss e l k = (decide (r4 = 0) && decide (r1 = k) && decide (r2 ≤ e)))
      have SS : Hid (soundAt ss e l k = true → soundB ss e l (k + 1) = true) := fun h => by rw [soundB_succ, hsd.out, h]; rfl
      have hn64 : (n : Int) < 64 := by omega
      have hn0 : (0 : Int) ≤ (n : Int) := by omega
      clear hc0 hc1 hn HR hsd hir hsr OM BS p0 p1 p2 hC
      go_wp2_with fail
      refine OP.mono ?_
      rintro x w3 ⟨rfl, hb3⟩
      have e3 := cell_later hb3 d3
      have hb2 := bel_after hb hb3
      have hown3 := own_later hown hb3
      clear OP d0 d1 d2 d3 hown hb hb3
      by_cases h4 : r4 = 0
      · by_cases h1 : r1 = k
        · by_cases h2 : r2 ≤ e
          · have GS : Hid (soundB ss e l (k + 1) = true) := SS.out (by rw [SA.out]; simp [h4, h1, h2])
            subst h4
            subst h1
            clear SS SA NG
            have hc : ∀ W : World, (W.alloc (.cells #[.string r3] 9)).cell? ⟨W.heap.size, 0, none⟩ = some (.string r3) := fun W => by simp
            have hown4 := own_later hown3 (bel_one w3 (.cells #[.string r3] 9))
            have hb4 := bel_after hb2 (bel_one w3 (.cells #[.string r3] 9))
            go_wp2_with (at_builtin; refine app_text _ rfl _ _ rfl W0.heap.size _ k _ rfl hown4 _ 1 r3 rfl (hc _) (by omega) hb4.size ?_; intro v5 w5 hown5 hg5; have hb5 := own_grown hb4 hown4 hg5 hb4.size)
            exact ⟨⟨k + 1, _, by omega, by go_num, rfl, by rw [HB.out]; exact hown5, GS, hb5⟩, by simp [intOf]; omega⟩
          · have h2' : e < r2 := by omega
            subst h4
            subst h1
            clear SS
            go_wp2
            exact bodyPost_ret (v := .tuple #[.slice none 0 0, .bool false]) (by simp [results, Tryz.results63, go_sem]) rfl ⟨bodOut_no (NG.out (by rw [SA.out]; simp [h2])), bel_after hb0 hb2⟩
        · have h1' : (r1 != (k : Int)) = true := by simpa using h1
          subst h4
          clear SS
          go_wp2
          exact bodyPost_ret (v := .tuple #[.slice none 0 0, .bool false]) (by simp [results, Tryz.results63, go_sem]) rfl ⟨bodOut_no (NG.out (by rw [SA.out]; simp [h1])), bel_after hb0 hb2⟩
      · have h4' : (r4 != 0) = true := by simpa using h4
        clear SS
        go_wp2
        exact bodyPost_ret (v := .tuple #[.slice none 0 0, .bool false]) (by simp [results, Tryz.results63, go_sem]) rfl ⟨bodOut_no (NG.out (by rw [SA.out]; simp [h4])), bel_after hb0 hb2⟩
    · obtain rfl : k = l.length := by omega
      go_wp2
      exact bodyPost_ret (v := .tuple #[bv, .bool true]) (by simp [results, Tryz.results63, go_sem]) rfl ⟨bodOut_yes hsd.out (own_mono hown (by omega)), bel_after hb0 hb⟩

end Go.Proofs.YtjclpbaiiklhcaaGreatDoor
