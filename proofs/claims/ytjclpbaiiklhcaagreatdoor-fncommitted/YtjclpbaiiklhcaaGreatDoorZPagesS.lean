/- Pages of the model. -/
import Derived.Test.YtjclpbaiiklhcaaGreatDoorZV15
namespace Go.Proofs.YtjclpbaiiklhcaaGreatDoor
open Go.RowKit

def pagesR (ss : List ByteArray) (ws : List Disk.Wr) : List ByteArray := bodiesK ss (newestR ss ws).2 (newestR ss ws).2.length
theorem newest_mem (ss : List ByteArray) (ws : List Disk.Wr) : ∀ i, i < (newestR ss ws).2.length → 2 ≤ (newestR ss ws).2.getD i 0 ∧ (newestR ss ws).2.getD i 0 ≤ 63 := by
  have key : ∀ t i, i < (orNone (superR ss t)).2.length → 2 ≤ (orNone (superR ss t)).2.getD i 0 ∧ (orNone (superR ss t)).2.getD i 0 ≤ 63 := fun t => by
    rw [superR_or]
    split
    · exact or_mem t
    · intro i hi; simp at hi
  unfold newestR
  split
  · unfold newR
    split
    · exact key _
    · exact key _
  · intro i hi; simp at hi
theorem pagesR_length (ss : List ByteArray) (ws : List Disk.Wr) : (pagesR ss ws).length = (newestR ss ws).2.length := bodiesK_length ..

set_option maxRecDepth 100000 in
set_option maxHeartbeats 6400000 in
theorem l3Pages_any (v1 v2 v : Value) (ss : List ByteArray) (l : List Int) (w : World) (hv : Ss w v1 ss) (hir : IR w v l) (hl : l.length ≤ 30) (OM : ∀ i, i < l.length → 2 ≤ l.getD i 0 ∧ l.getD i 0 ≤ 63) :
    Calls Tryz.prog 44 #[.agg #[v1, v2], v] w fun x w' => (∃ u, x = .returned u ∧ w'.ownsRow w.heap.size 9 1 u l.length (tcells (bodiesK ss l l.length))) ∧ Below w.heap.size w w' := by
  have hb0 := bel_after (bel_one w (.cells #[v1, v2] 27)) (bel_one _ (.cells #[] 9))
  have own0 := own_none (w.alloc (.cells #[v1, v2] 27)) (w.heap.size + 1) 9 1 (by simp)
  obtain ⟨ao, cap, rfl, hcap, hir⟩ := hir
  obtain ⟨⟨so, scp, hsv, hsr⟩, hlen, hfit⟩ := hv
  rw [hlen] at hsv hsr
  subst hsv
  generalize hW0 : (w.alloc (.cells #[.slice so 64 scp, v2] 27)).alloc (.cells #[] 9) = W0 at *
  have hsz0 : W0.heap.size = w.heap.size + 1 + 1 := by rw [← hW0]; simp
  have p0 : W0.cell? ⟨w.heap.size, 0, none⟩ = some (.slice so 64 scp) := by rw [← hW0]; exact cell_later (bel_one _ _) (by simp)
  have HW0 : Hid ((w.alloc (.cells #[.slice so 64 scp, v2] 27)).alloc (.cells #[] 9) = W0) := hW0
  clear hlen hW0
  go_enter Tryz.func44, Tryz.ntmps44
  go_wp2
  rw [HW0.out]
  clear HW0
  simp only [World.size_alloc] at own0
  go_loopw [5, 6] (fun bv iv wr => ∃ (k : Nat) (v0 : Value), k ≤ l.length ∧ iv = .int .i64 k ∧ v0 = bv ∧ wr.ownsRow (w.heap.size + 1) 9 1 v0 k (tcells (bodiesK ss l k)) ∧ Below (w.heap.size + 1) W0 wr) (fun _ iv _ => l.length - (intOf iv).toNat)
  case atStart => exact ⟨0, _, Nat.zero_le _, rfl, rfl, own0, Below.refl _ _⟩
  case round =>
    obtain ⟨k, bv, hk, rfl, rfl, hown, hb⟩ := hrel
    by_cases hlt : k < l.length
    · obtain ⟨b, o, rfl, hc0⟩ := hir k hlt
      obtain ⟨y0, y1⟩ := OM k hlt
      obtain ⟨n, hn⟩ := Int.eq_ofNat_of_zero_le (a := l.getD k 0) (by omega)
      obtain ⟨b2, o2, rfl, hc1⟩ := hsr n (by omega)
      have hfn := hfit n (by omega)
      have HR : Hid (pageAt ss l k = openR (textAt ss n)) := (by unfold pageAt textAt; rw [hn, Int.toNat_natCast] : pageAt ss l k = openR (textAt ss n))
      rw [hn] at hc0 y0 y1
      have hbwr : Below w.heap.size w wr := hb0.trans (hb.mono (by omega))
      have d0 : wr.cell? ⟨w.heap.size, 0, none⟩ = some (.slice (some ⟨b2, o2, none⟩) 64 scp) := (hb.cell (p := ⟨w.heap.size, 0, none⟩) (by simp)).trans p0
      have d1 := cell_later hbwr hc0
      have d2 := cell_later hbwr hc1
      change wr.cell? _ = some (.string (textAt ss n)) at d2
      have OP := fun w => specOpen_any (textAt ss n) w (by omega)
      have BS := bodiesK_succ ss l k
      rw [HR.out] at BS
      generalize textAt ss n = tx at *
      generalize openR tx = r at *
      obtain ⟨r1, r2, r3, r4⟩ := r
      unfold openV at OP
      simp only at OP BS
      have HB : Hid (tcells (bodiesK ss l (k + 1)) = tcells (bodiesK ss l k) ++ [.string r3]) := (by rw [BS]; simp [tcells] : tcells (bodiesK ss l (k + 1)) = tcells (bodiesK ss l k) ++ [.string r3])
      have hn64 : (n : Int) < 64 := by omega
      have hn0 : (0 : Int) ≤ (n : Int) := by omega
      have hszr : w.heap.size + 1 + 1 ≤ wr.heap.size := by have := hb.size; omega
      clear hc0 hc1 hn HR hir hsr OM BS p0 own0
      go_wp2_with fail
      go_region_held3 (fun w' => Below wr.heap.size wr w' ∧ w'.cell? ⟨w.heap.size, 0, none⟩ = some (.slice (some ⟨b2, o2, none⟩) 64 scp) ∧ w'.cell? ⟨b, o + k, none⟩ = some (.int .i64 n) ∧ w'.cell? ⟨b2, o2 + n, none⟩ = some (.string tx))
        (first | assumption | (refine ⟨(Below.refl _ _).drew, ?_, ?_, ?_⟩ <;> simp [d0, d1, d2]) | (exact keep3 (by assumption) (by assumption)))
        (first
          | (go_at_call 68; refine (OP _).mono ?_; rintro x w3 ⟨rfl, hb3⟩))
      all_goals
        rename_i hHeld
        have hb3' : Below wr.heap.size wr w3 := And.left hHeld
        have hown3 := own_later hown hb3'
        have hb2 : Below (w.heap.size + 1) W0 w3 := hb.trans (hb3'.mono (by omega))
        have hc : ∀ W : World, (W.alloc (.cells #[.string r3] 9)).cell? ⟨W.heap.size, 0, none⟩ = some (.string r3) := fun W => by simp
        have hown4 := own_later hown3 (bel_one w3 (.cells #[.string r3] 9))
        have hsz3 : w.heap.size + 1 + 1 ≤ w3.heap.size := Nat.le_trans hszr hb3'.size
        have hb4 : Below (w.heap.size + 1) W0 (w3.alloc (.cells #[.string r3] 9)) := hb2.alloc (by omega) _
        clear OP d0 d1 d2 hHeld hown
        go_wp2_with (at_builtin; refine app_text _ rfl _ _ rfl (w.heap.size + 1) _ k _ rfl hown4 _ 1 r3 rfl (hc _) (by omega) (by simp; omega) ?_; intro v5 w5 hown5 hg5; have hb5 := own_grown hb4 hown4 hg5 (by simp; omega))
        exact ⟨⟨k + 1, _, by omega, by go_num, rfl, by rw [HB.out]; exact hown5, hb5⟩, by simp [intOf]; omega⟩
    · obtain rfl : k = l.length := by omega
      go_wp2
      exact bodyPost_ret (v := bv) (by simp [results, Tryz.results44, go_sem]) rfl ⟨⟨_, rfl, own_mono hown (by omega)⟩, hb0.trans (hb.mono (by omega))⟩

set_option maxRecDepth 100000 in
set_option maxHeartbeats 1000000 in
theorem specPages_any (v1 v2 : Value) (ss : List ByteArray) (ws : List Disk.Wr) (w : World) (hv1 : Disk.SR w v1 ss) (hv2 : Disk.WR w v2 ws) (h1 : ss.length ≤ 10000000000000) (h2 : ws.length ≤ 10000000000000) :
    Calls Tryz.prog 20 #[.agg #[v1, v2]] w fun x w' => (∃ v, x = .returned (.tuple #[v, .int .i64 (newestR ss ws).1]) ∧ w'.ownsRow w.heap.size 9 1 v (pagesR ss ws).length (tcells (pagesR ss ws))) ∧ Below w.heap.size w w' := by
  have hb0 := bel_one w (.cells #[v1, v2] 27)
  have OK := Disk.specDiskOk_any v1 v2 ss ws _ (hv1.later hb0) (hv2.later hb0) h1 h2
  have OM := newest_mem ss ws
  have OL := newest_len ss ws
  rw [pagesR_length]
  unfold pagesR
  go_enter Tryz.func20, Tryz.ntmps20
  go_wp2_with fail
  refine OK.mono ?_
  rintro x w1 ⟨rfl, hb1⟩
  have hbw := bel_after hb0 hb1
  have d0 : w1.cell? ⟨w.heap.size, 0, none⟩ = some v1 := cell_later hb1 (by simp)
  have d1 : w1.cell? ⟨w.heap.size, 1, none⟩ = some v2 := cell_later hb1 (by simp)
  have hs1 := hv1.later hbw
  have hs2 := hv2.later hbw
  clear OK
  cases hok : Disk.okD ss ws
  · have G : Hid (newestR ss ws = (0, [])) := newestR_no hok
    clear hok OM OL
    go_wp2
    exact bodyPost_ret (v := .tuple #[.slice (some ⟨w1.heap.size, 0, none⟩) 0 0, .int .i64 0]) (by simp [results, Tryz.results20, go_sem]) rfl ⟨⟨_, by rw [G.out], by rw [G.out]; exact own_none w1 _ 9 1 hbw.size⟩, bel_after hbw (bel_one _ _)⟩
  · have hS := ss_of hs1 hok
    have N1 := l3Newest_any v1 v2 ss w1 hS
    rw [← newestR_yes hok] at N1
    clear hok
    obtain ⟨⟨ne, nl⟩, hnw⟩ : ∃ nw, newestR ss ws = nw := ⟨_, rfl⟩
    rw [hnw] at N1 OM OL
    have HNW : Hid (newestR ss ws = (ne, nl)) := hnw
    clear hnw
    simp only at N1 OM OL
    go_wp2_with fail
    refine N1.mono ?_
    rintro x w2 ⟨⟨v, rfl, hr⟩, hb2⟩
    have hbw2 := bel_after hbw hb2
    have e0 := cell_later hb2 d0
    have e1 := cell_later hb2 d1
    have P := l3Pages_any v1 v2 v ss nl w2 (hS.later hb2) hr OL OM
    clear N1 OM OL d0 d1
    go_wp2_with (go_at_call 44; refine P.mono ?_; rintro x w3 ⟨⟨u, rfl, hu⟩, hb3⟩)
    exact bodyPost_ret (v := .tuple #[u, .int .i64 ne]) (by simp [results, Tryz.results20, go_sem]) rfl ⟨⟨_, by rw [HNW.out], by rw [HNW.out]; exact own_mono hu hbw2.size⟩, bel_after hbw2 hb3⟩

end Go.Proofs.YtjclpbaiiklhcaaGreatDoor
