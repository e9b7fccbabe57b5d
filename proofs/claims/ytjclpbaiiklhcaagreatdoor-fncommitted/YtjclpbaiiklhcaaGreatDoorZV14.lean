import Derived.Test.YtjclpbaiiklhcaaGreatDoorZRange
import Derived.Test.YtjclpbaiiklhcaaGreatDoorZNewI
/- PackPage of the program. -/
namespace Go.Proofs.YtjclpbaiiklhcaaGreatDoor
open Go.RowKit

set_option maxRecDepth 100000 in
set_option maxHeartbeats 3200000 in
theorem implPack_any (n e : Int) (b : ByteArray) (te : TypeId) (pe : Addr) (w : World) (hv : w.cell? ⟨1, 0, none⟩ = some (.iface te (.pointer (some pe)))) (ht : Tb w) :
    Calls Tryz.prog 54 #[.int .i64 n, .int .i64 e, .string b] w fun x w' => x = .returned (.tuple #[.string (packT n e b), .bool (pgOk n e b)]) ∧ Below w.heap.size w w' := by
  have hv1 : (w.alloc (.cells #[.int .i64 n, .int .i64 e, .int .i64 0, .string b] 104)).cell? ⟨1, 0, none⟩ = some (.iface te (.pointer (some pe))) := cell_later (bel_one _ _) hv
  have ht1 : Tb (w.alloc (.cells #[.int .i64 n, .int .i64 e, .int .i64 0, .string b] 104)) := ht.later (bel_one _ _)
  have C := checkRange_any n e 0 b te pe _ hv1
  unfold pageV at C
  go_enter Tryz.func54, Tryz.ntmps54
  go_wp2_with fail
  refine C.mono ?_
  rintro x w1 ⟨⟨part, rfl⟩, hb1⟩
  clear C
  cases h : pgOk n e b
  · have H : Hid (pgOk n e b = false) := h
    rw [rangeV_no h]
    clear h
    go_wp2
    exact bodyPost_ret (v := .tuple #[.string ⟨#[]⟩, .bool false]) (by simp [results, Tryz.results54, go_sem]) rfl ⟨by unfold packT; rw [H.out]; rfl, bel_after (bel_one _ _) hb1⟩
  have H : Hid (pgOk n e b = true) := h
  rw [rangeV_yes h]
  obtain ⟨r1, r2, r3, r4, r5⟩ := pgOk_range h
  clear h
  have sh := headS_size (n := n) (e := e) (by omega) (by omega) (by omega) (by omega)
  obtain ⟨c1, c2⟩ := crcS_range (headS n e ++ b)
  have si := itoaB_size (n := crcS (headS n e ++ b)) (by omega) (by omega)
  have PH := fun w' => pageHead_any n e 0 b w' (by omega) (by omega) (by omega) (by omega)
  have PS := fun w' => pageSum_any n e 0 b w' (by omega) (by omega) (by omega) (by omega) (by omega)
  unfold pageV at PH PS
  have q0 : w1.cell? ⟨w.heap.size, 0, none⟩ = some (.int .i64 n) := cell_later hb1 (by simp)
  have q1 : w1.cell? ⟨w.heap.size, 1, none⟩ = some (.int .i64 e) := cell_later hb1 (by simp)
  have q2 : w1.cell? ⟨w.heap.size, 2, none⟩ = some (.int .i64 0) := cell_later hb1 (by simp)
  have q3 : w1.cell? ⟨w.heap.size, 3, none⟩ = some (.string b) := cell_later hb1 (by simp)
  have HC : Hid (packS n e b = ⟨#[80]⟩ ++ headS n e ++ itoaB (crcS (headS n e ++ b)) ++ ⟨#[59]⟩ ++ b) := (rfl : packS n e b = ⟨#[80]⟩ ++ headS n e ++ itoaB (crcS (headS n e ++ b)) ++ ⟨#[59]⟩ ++ b)
  generalize crcS (headS n e ++ b) = cc at *
  have g1 : ¬ 9223372036854775807 < 1 + (headS n e).size := by omega
  have g2 : ¬ 9223372036854775807 < 1 + (headS n e).size + (itoaB cc).size := by omega
  have g3 : ¬ 9223372036854775807 < 1 + (headS n e).size + (itoaB cc).size + 1 := by omega
  have g4 : ¬ 9223372036854775807 < 1 + (headS n e).size + (itoaB cc).size + 1 + b.size := by omega
  have ht2 : Tb w1 := ht1.later hb1
  have hbw : Below w.heap.size w w1 := bel_after (bel_one _ _) hb1
  clear hv hv1 ht1 ht hb1
  go_wp2_with fail
  go_region_held3 (fun w' => Below w1.heap.size w1 w' ∧ w'.cell? ⟨w.heap.size, 0, none⟩ = some (.int .i64 n) ∧ w'.cell? ⟨w.heap.size, 1, none⟩ = some (.int .i64 e) ∧ w'.cell? ⟨w.heap.size, 2, none⟩ = some (.int .i64 0) ∧ w'.cell? ⟨w.heap.size, 3, none⟩ = some (.string b))
    (first | assumption | (refine ⟨(Below.refl _ _).drew, ?_, ?_, ?_, ?_⟩ <;> simp [q0, q1, q2, q3]) | (exact keep4 (by assumption) (by assumption)))
    (first
      | (go_at_call 76; refine (PH _ ?_).mono ?_; (focus (exact ht2.held (by assumption))); rintro x w2 ⟨rfl, hb2⟩)
      | (go_at_call 78; refine (PS _ ?_).mono ?_; (focus (exact ht2.held (by assumption))); rintro x w3 ⟨rfl, hb3⟩)
      | (go_at_call 77; refine (fmt_any _ _ (by omega) (by omega) ?_).mono ?_; (focus (exact ht2.held (by assumption))); rintro x w4 ⟨rfl, hb4⟩))
  all_goals
    go_wp2
    exact bodyPost_ret (v := .tuple #[.string (⟨#[80]⟩ ++ headS n e ++ itoaB cc ++ ⟨#[59]⟩ ++ b), .bool true]) (by simp [results, Tryz.results54, go_sem]) rfl ⟨by unfold packT; rw [H.out, HC.out]; rfl, bel_after hbw (And.left (by assumption))⟩

end Go.Proofs.YtjclpbaiiklhcaaGreatDoor

/- Newest of the program. -/
namespace Go.Proofs.YtjclpbaiiklhcaaGreatDoor
open Go.RowKit

theorem okD_parts {ss : List ByteArray} {ws : List Disk.Wr} (h : Disk.okD ss ws = true) : ss.length = 64 ∧ ∀ k, k < 64 → (textAt ss k).size ≤ 256 := by
  have hl : ss.length = 64 := Classical.byContradiction fun hc => by rw [Disk.okD_len hc] at h; cases h
  refine ⟨hl, fun k hk => Classical.byContradiction fun hc => ?_⟩
  rw [Disk.okD_text (k := k) (by omega) hc] at h
  cases h
theorem ss_of {ss : List ByteArray} {ws : List Disk.Wr} {w : World} {v : Value} (h : Disk.SR w v ss) (ho : Disk.okD ss ws = true) : Ss w v ss := ⟨h, (okD_parts ho).1, (okD_parts ho).2⟩

set_option maxRecDepth 100000 in
set_option maxHeartbeats 1000000 in
theorem implNewest_cap (v1 v2 : Value) (ss : List ByteArray) (ws : List Disk.Wr) (a0 a1 a2 a3 : Addr) (w : World) (hv1 : Disk.SR w v1 ss) (hv2 : Disk.WR w v2 ws) (h1 : ss.length ≤ 10000000000000) (h2 : ws.length ≤ 10000000000000) (hcp : ∃ ao cap, v1 = .slice ao ss.length cap ∧ ss.length ≤ cap) (hC : Ctx a0 a1 a2 a3 w) :
    Calls Tryz.prog 13 #[.agg #[v1, v2]] w fun x w' => (∃ v, x = .returned (.tuple #[.int .i64 (newestR ss ws).1, v]) ∧ w'.ownsRow w.heap.size 2 1 v (newestR ss ws).2.length (icells (newestR ss ws).2)) ∧ Below w.heap.size w w' := by
  have hb0 := bel_one w (.cells #[v1, v2] 27)
  have hv1' := hv1.later hb0
  have N := newestSuper_cap v1 v2 ss ws a0 a1 a2 a3 _ hv1' (hv2.later hb0) h1 h2 hcp (ss_of hv1') (hC.later hb0)
  generalize newestR ss ws = r at *
  obtain ⟨ne, nl⟩ := r
  simp only at N
  go_enter Tryz.func13, Tryz.ntmps13
  go_wp2_with fail
  refine N.mono ?_
  rintro x w1 ⟨⟨v, bv, rfl, o1, o2⟩, hb1⟩
  clear N
  have hbw := bel_after hb0 hb1
  obtain ⟨so, sc, rfl, _⟩ := own_cell o1
  obtain ⟨bo, bc, rfl, _⟩ := own_cell o2
  have o3 := own_mono (B' := w.heap.size) (own_later o1 (bel_one w1 (.cells #[.int .i64 ne, .slice so nl.length sc, .slice bo nl.length bc] 58))) (by simp)
  have hbw2 := bel_after hbw (bel_one w1 (.cells #[.int .i64 ne, .slice so nl.length sc, .slice bo nl.length bc] 58))
  clear o1 o2 hb1 hb0
  go_wp2
  go_region
  all_goals go_wp2
  all_goals exact bodyPost_ret (v := .tuple #[.int .i64 ne, .slice so nl.length sc]) (by simp [results, Tryz.results13, go_sem]) rfl ⟨⟨_, rfl, o3⟩, by first | exact hbw2.drew | exact hbw2.drew.drew⟩

theorem implNewest_any (v1 v2 : Value) (ss : List ByteArray) (ws : List Disk.Wr) (a0 a1 a2 a3 : Addr) (w : World) (hv1 : Disk.SR w v1 ss) (hv2 : Disk.WR w v2 ws) (h1 : ss.length ≤ 10000000000000) (h2 : ws.length ≤ 10000000000000) (hcp : ∃ ao, v1 = .slice ao ss.length ss.length) (hC : Ctx a0 a1 a2 a3 w) :
    Calls Tryz.prog 13 #[.agg #[v1, v2]] w fun x w' => (∃ v, x = .returned (.tuple #[.int .i64 (newestR ss ws).1, v]) ∧ w'.ownsRow w.heap.size 2 1 v (newestR ss ws).2.length (icells (newestR ss ws).2)) ∧ Below w.heap.size w w' :=
  implNewest_cap v1 v2 ss ws a0 a1 a2 a3 w hv1 hv2 h1 h2 (hcp.elim fun ao e => ⟨ao, _, e, Nat.le_refl _⟩) hC

end Go.Proofs.YtjclpbaiiklhcaaGreatDoor
