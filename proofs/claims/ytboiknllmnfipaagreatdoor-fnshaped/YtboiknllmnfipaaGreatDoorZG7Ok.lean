/- GraphOk of the model. -/
import Derived.Test.YtboiknllmnfipaaGreatDoorZG6Bld
import Derived.Test.YtboiknllmnfipaaGreatDoorZU22
import Derived.Test.YtboiknllmnfipaaGreatDoorZGSame3
import Derived.Test.YtboiknllmnfipaaGreatDoorZGShS
import Derived.Test.YtboiknllmnfipaaGreatDoorZU23
namespace Go.Proofs.YtboiknllmnfipaaGreatDoor
open Go.RowKit

theorem gok_not {g : Gr} (h : gokC g = true → False) : gokC g = false := by
  cases q : gokC g
  · rfl
  · exact (h q).elim
def ndOk (g : Gr) (n : Nd) : Prop := (0 ≤ n.cls ∧ n.cls ≤ 99) ∧ 1 ≤ n.hash ∧ n.hash < g.hash ∧ n.fl.length ≤ 60 ∧ ∀ x, x ∈ n.fl → wordG g.nodes.length x = true
theorem pre_nd {g : Gr} (h : preOk g) {i : Nat} (hi : i < g.nodes.length) : ndOk g (g.nodes.getD i nd0) := h.2.2.2.1 _ (by simp [hi])
theorem pre_hash {g : Gr} (h : preOk g) {s t : Nat} (hs : s < t) (ht : t < g.nodes.length) : (g.nodes.getD s nd0).hash ≠ (g.nodes.getD t nd0).hash := by
  have q := List.pairwise_iff_getElem.1 h.2.2.2.2.1
  have hs' : s < g.nodes.length := by omega
  have q2 := q s t (by simpa using hs') (by simpa using ht) hs
  rw [List.getElem_map, List.getElem_map] at q2
  simpa [hs', ht] using q2
theorem gr_gok {g : Gr} (pr : preOk g) : grEq (shP (laidH g)) g = gokC g := by
  cases q : gokC g
  · cases e : grEq (shP (laidH g)) g
    · rfl
    · rw [gok_yes ⟨pr, (grEq_iff _ _).1 e⟩] at q
      cases q
  · exact (grEq_iff _ _).2 (gok_of q).2
theorem plc_bound (g : Gr) : ∀ i, (∀ t, t < i → ndOk g (g.nodes.getD t nd0)) → i ≤ g.nodes.length → plc g.nodes i ≤ 64 * i
  | 0, _, _ => by simp [plc]
  | i + 1, h, hl => by
    have q := plc_bound g i (fun t ht => h t (by omega)) (by omega)
    have s := plc_succ g.nodes i (by omega)
    have n := (h i (by omega)).2.2.2.1
    omega
theorem pre_of {g : Gr} (h1 : g.nodes.length ≤ 500) (h2 : g.roots.length ≤ 20) (h3 : 1 ≤ g.hash ∧ g.hash ≤ 1000000000) (h4 : ∀ i, i < g.nodes.length → ndOk g (g.nodes.getD i nd0)) (h5 : ∀ s t, s < t → t < g.nodes.length → (g.nodes.getD s nd0).hash ≠ (g.nodes.getD t nd0).hash) (h6 : ∀ j, j < g.roots.length → wordG g.nodes.length (g.roots.getD j 0) = true) (h7 : plc g.nodes g.nodes.length ≤ 2000) : preOk g := by
  refine ⟨h1, h2, h3, fun n hn => ?_, ?_, fun x hx => ?_, h7⟩
  · obtain ⟨i, hi, rfl⟩ := List.getElem_of_mem hn
    have q := h4 i hi
    have e : g.nodes.getD i nd0 = g.nodes[i] := by simp [hi]
    rw [e] at q
    exact q
  · refine List.pairwise_iff_getElem.2 fun s t hs ht hst => ?_
    rw [List.length_map] at hs ht
    have q := h5 s t hst ht
    rw [List.getElem_map, List.getElem_map]
    simpa [hs, ht] using q
  · obtain ⟨i, hi, rfl⟩ := List.getElem_of_mem hx
    have q := h6 i hi
    simpa [hi] using q

set_option maxRecDepth 100000 in
set_option maxHeartbeats 6400000 in
theorem specGraphOk_c (v : Value) (g : Gr) (w : World) (hv : GR w v g) (l1 : g.nodes.length ≤ 10000000) (l3 : g.roots.length ≤ 10000000) (s64 : ns64 g.nodes) (r64 : ∀ x, x ∈ g.roots → g64 x) :
    Calls Tryz.prog 21 #[v] w fun e w' => e = .returned (.bool (gokC g)) ∧ Below w.heap.size w w' := by
  obtain ⟨ra, rc, na, nc, rfl, hr, hn⟩ := hv.out
  have hbA := bel_one w (.cells #[.slice ra g.roots.length rc, .slice na g.nodes.length nc, .int .i64 g.hash] 27)
  by_cases q1 : g.nodes.length ≤ 500
  case neg =>
    have q1i : (500 : Int) < (g.nodes.length : Int) := by omega
    have DK : True := trivial
    have GF : Hid (gokC g = false) := gok_no (fun q => q1 q.1.1)
    clear s64 hr hn hv
    go_enter Tryz.func21, Tryz.ntmps21
    go_wp2
    go_ret
    exact ⟨wret_bool GF.out.symm, hbA⟩
  by_cases q2 : g.roots.length ≤ 20
  case neg =>
    have q1i : ¬ (500 : Int) < (g.nodes.length : Int) := by omega
    have q2i : (20 : Int) < (g.roots.length : Int) := by omega
    have GF : Hid (gokC g = false) := gok_no (fun q => q2 q.1.2.1)
    clear s64 hr hn hv
    go_enter Tryz.func21, Tryz.ntmps21
    go_wp2
    go_ret
    exact ⟨wret_bool GF.out.symm, hbA⟩
  have q1i : ¬ (500 : Int) < (g.nodes.length : Int) := by omega
  have q2i : ¬ (20 : Int) < (g.roots.length : Int) := by omega
  by_cases q3 : 1 ≤ g.hash ∧ g.hash ≤ 1000000000
  case neg =>
    have DK := decide_eq_false q3
    have GF : Hid (gokC g = false) := gok_no (fun q => q3 q.1.2.2.1)
    clear s64 hr hn hv
    go_enter Tryz.func21, Tryz.ntmps21
    go_wp2_with (go_at_call 32; refine (wl1In_any _ _ _ _).mono ?_; rintro e wq ⟨rfl, hq⟩; obtain rfl := hq.symm; rw [DK])
    go_ret
    exact ⟨wret_bool GF.out.symm, hbA⟩
  have DK := decide_eq_true q3
  have c0 := cell_new w #[.slice ra g.roots.length rc, .slice na g.nodes.length nc, .int .i64 g.hash] 27 _ rfl 0 _ rfl
  have c1 := cell_new w #[.slice ra g.roots.length rc, .slice na g.nodes.length nc, .int .i64 g.hash] 27 _ rfl 1 _ rfl
  have c2 := cell_new w #[.slice ra g.roots.length rc, .slice na g.nodes.length nc, .int .i64 g.hash] 27 _ rfl 2 _ rfl
  have p0 : Hid (((plc g.nodes 0 : Nat) : Int) = 0) := (by simp [plc] : ((plc g.nodes 0 : Nat) : Int) = 0)
  go_enter Tryz.func21, Tryz.ntmps21
  go_wp2_with (go_at_call 32; refine (wl1In_any _ _ _ _).mono ?_; rintro e wq ⟨rfl, hq⟩; obtain rfl := hq.symm; rw [DK])
  go_loopw [4, 5] (fun sv iv wr => ∃ i : Nat, i ≤ g.nodes.length ∧ iv = .int .i64 i ∧ sv = .int .i64 ((plc g.nodes i : Nat) : Int) ∧ Below w.heap.size w wr ∧ (wr.cell? ⟨w.heap.size, 0, none⟩ = some (.slice ra g.roots.length rc) ∧ wr.cell? ⟨w.heap.size, 1, none⟩ = some (.slice na g.nodes.length nc) ∧ wr.cell? ⟨w.heap.size, 2, none⟩ = some (.int .i64 g.hash)) ∧ Hid (∀ t, t < i → ndOk g (g.nodes.getD t nd0)) ∧ Hid (∀ s t, s < t → t < i → (g.nodes.getD s nd0).hash ≠ (g.nodes.getD t nd0).hash)) (fun _ iv _ => g.nodes.length - (intOf iv).toNat)
  case atStart => exact ⟨0, Nat.zero_le _, rfl, by rw [p0.out], hbA, ⟨c0, c1, c2⟩, fun t ht => absurd ht (Nat.not_lt_zero t), fun s t _ ht => absurd ht (Nat.not_lt_zero t)⟩
  case round =>
    obtain ⟨i, hi, rfl, rfl, hb, ⟨x0, x1, x2⟩, HA, HB⟩ := hrel
    clear c0 c1 c2 p0 DK hbA
    by_cases hil : i < g.nodes.length
    · obtain ⟨va, vc, e, _, hnc⟩ := id hn
      obtain ⟨nb, no, fa, fn, fc, rfl, d0, d1, d2, rf⟩ := hnc i hil
      simp only [Value.slice.injEq, true_and] at e
      obtain ⟨rfl, rfl⟩ := e
      have HSH : Hid (∀ t, t < g.nodes.length → w.cell? ⟨nb, no + t * 3 + 1, none⟩ = some (.int .i64 (g.nodes.getD t nd0).hash)) := (fun t ht => by
        obtain ⟨nb', no', _, _, _, e, _, q, _⟩ := hnc t ht
        simp only [Option.some.injEq, Addr.mk.injEq, and_true] at e
        obtain ⟨rfl, rfl⟩ := e
        exact q : ∀ t, t < g.nodes.length → w.cell? ⟨nb, no + t * 3 + 1, none⟩ = some (.int .i64 (g.nodes.getD t nd0).hash))
      obtain ⟨fa', fc', e, _⟩ := id rf
      injection e with e1 e2 e3
      subst e2
      have PSu : Hid (((plc g.nodes (i + 1) : Nat) : Int) = (plc g.nodes i : Nat) + 4 + ((g.nodes.getD i nd0).fl.length : Int)) := (by rw [plc_succ g.nodes i hil]; omega : ((plc g.nodes (i + 1) : Nat) : Int) = (plc g.nodes i : Nat) + 4 + ((g.nodes.getD i nd0).fl.length : Int))
      have PB : plc g.nodes i ≤ 64 * i := plc_bound g i HA.out (by omega)
      have f64 := (s64 (g.nodes.getD i nd0) (by simp [hil])).1.2.2
      have y0 := cell_later hb d0
      have y1 := cell_later hb d1
      have y2 := cell_later hb d2
      have hii : (i : Int) < (g.nodes.length : Int) := by omega
      have ND : Hid (gokC g = true → ndOk g (g.nodes.getD i nd0)) := (fun q => pre_nd (gok_of q).1 hil : gokC g = true → ndOk g (g.nodes.getD i nd0))
      have NDi : Hid (((0 ≤ (g.nodes.getD i nd0).cls ∧ (g.nodes.getD i nd0).cls ≤ 99) ∧ 1 ≤ (g.nodes.getD i nd0).hash ∧ (g.nodes.getD i nd0).hash < g.hash ∧ (g.nodes.getD i nd0).fl.length ≤ 60 ∧ ∀ x, x ∈ (g.nodes.getD i nd0).fl → wordG g.nodes.length x = true) → ndOk g (g.nodes.getD i nd0)) := (fun q => q : ((0 ≤ (g.nodes.getD i nd0).cls ∧ (g.nodes.getD i nd0).cls ≤ 99) ∧ 1 ≤ (g.nodes.getD i nd0).hash ∧ (g.nodes.getD i nd0).hash < g.hash ∧ (g.nodes.getD i nd0).fl.length ≤ 60 ∧ ∀ x, x ∈ (g.nodes.getD i nd0).fl → wordG g.nodes.length x = true) → ndOk g (g.nodes.getD i nd0))
      have NDo : Hid (∀ n, ndOk g n → ((0 ≤ n.cls ∧ n.cls ≤ 99) ∧ 1 ≤ n.hash ∧ n.hash < g.hash ∧ n.fl.length ≤ 60 ∧ ∀ x, x ∈ n.fl → wordG g.nodes.length x = true)) := (fun n q => q : ∀ n, ndOk g n → ((0 ≤ n.cls ∧ n.cls ≤ 99) ∧ 1 ≤ n.hash ∧ n.hash < g.hash ∧ n.fl.length ≤ 60 ∧ ∀ x, x ∈ n.fl → wordG g.nodes.length x = true))
      have rfw := rf
      generalize hnd : g.nodes.getD i nd0 = nd at *
      obtain ⟨c, z, F⟩ := nd
      simp only at *
      have al := bel_one wr (.cells #[.int .i64 c, .int .i64 z, .slice fa F.length fc] 41)
      have hbB := bel_after hb al
      have ltN : w.heap.size < wr.heap.size := World.block_lt_of_cell? _ _ x0
      clear d0 d1 d2 rf hnc e1 e3 hn
      by_cases k1 : 0 ≤ c ∧ c ≤ 99
      case neg =>
        have DK := decide_eq_false k1
        have GF : Hid (gokC g = false) := (gok_not (fun q => absurd (NDo.out _ (ND.out q)).1 k1) : gokC g = false)
        clear s64 f64 PB HA HB
        go_wp2_with (go_at_call 32; refine (wl1In_any _ _ _ _).mono ?_; rintro e wq ⟨rfl, hq⟩; obtain rfl := hq.symm; rw [DK])
        go_ret
        exact ⟨wret_bool GF.out.symm, hbB⟩
      have DK := decide_eq_true k1
      by_cases k2 : z < 1
      · have GF : Hid (gokC g = false) := (gok_not (fun q => absurd (NDo.out _ (ND.out q)).2.1 (by show ¬ 1 ≤ z; omega)) : gokC g = false)
        clear s64 f64 PB HA HB
        go_wp2_with (go_at_call 32; refine (wl1In_any _ _ _ _).mono ?_; rintro e wq ⟨rfl, hq⟩; obtain rfl := hq.symm; rw [DK])
        go_ret
        exact ⟨wret_bool GF.out.symm, hbB⟩
      by_cases k3 : g.hash ≤ z
      · have GF : Hid (gokC g = false) := (gok_not (fun q => absurd (NDo.out _ (ND.out q)).2.2.1 (by show ¬ z < g.hash; omega)) : gokC g = false)
        clear s64 f64 PB HA HB
        go_wp2_with (go_at_call 32; refine (wl1In_any _ _ _ _).mono ?_; rintro e wq ⟨rfl, hq⟩; obtain rfl := hq.symm; rw [DK])
        go_ret
        exact ⟨wret_bool GF.out.symm, hbB⟩
      by_cases k4 : 60 < F.length
      · have k4i : (60 : Int) < (F.length : Int) := by omega
        have GF : Hid (gokC g = false) := (gok_not (fun q => absurd (NDo.out _ (ND.out q)).2.2.2.1 (by show ¬ F.length ≤ 60; omega)) : gokC g = false)
        clear s64 f64 PB HA HB
        go_wp2_with (go_at_call 32; refine (wl1In_any _ _ _ _).mono ?_; rintro e wq ⟨rfl, hq⟩; obtain rfl := hq.symm; rw [DK])
        go_ret
        exact ⟨wret_bool GF.out.symm, hbB⟩
      have k4i : ¬ (60 : Int) < (F.length : Int) := by omega
      have z1 := cell_new wr #[.int .i64 c, .int .i64 z, .slice fa F.length fc] 41 _ rfl 1 _ rfl
      have z2 := cell_new wr #[.int .i64 c, .int .i64 z, .slice fa F.length fc] 41 _ rfl 2 _ rfl
      have v0 := cell_later al x0
      have v1 := cell_later al x1
      have v2 := cell_later al x2
      go_wp2_with (go_at_call 32; refine (wl1In_any _ _ _ _).mono ?_; rintro e wq ⟨rfl, hq⟩; obtain rfl := hq.symm; rw [DK])
      generalize hWA : (wr.alloc (.cells #[.int .i64 c, .int .i64 z, .slice fa F.length fc] 41)) = wn at *
      generalize hnx : wr.heap.size = nbx at *
      have HS2 : Hid (∀ t, t < g.nodes.length → wn.cell? ⟨nb, no + t * 3 + 1, none⟩ = some (.int .i64 (g.nodes.getD t nd0).hash)) := (fun t ht => cell_later hbB (HSH.out t ht) : ∀ t, t < g.nodes.length → wn.cell? ⟨nb, no + t * 3 + 1, none⟩ = some (.int .i64 (g.nodes.getD t nd0).hash))
      clear hWA hnx al HSH y0 y1 y2 x0 x1 x2 hb ltN DK
      go_loopw [7] (fun kv wq => ∃ t : Nat, t ≤ i ∧ kv = .int .i64 t ∧ Hid (∀ s, s < t → (g.nodes.getD s nd0).hash ≠ z) ∧ ∃ m, wq = wn.drewN m) (fun kv _ => i - (intOf kv).toNat)
      case atStart => exact ⟨0, Nat.zero_le _, rfl, fun s hs => absurd hs (Nat.not_lt_zero s), 0, rfl⟩
      case round =>
        obtain ⟨t, ht, rfl, HT, m, rfl⟩ := hrel
        by_cases htl : t < i
        · have hti : (t : Int) < (i : Int) := by omega
          have htn : (t : Int) < (g.nodes.length : Int) := by omega
          have ct := HS2.out t (by omega)
          have PH : Hid (gokC g = true → (g.nodes.getD t nd0).hash ≠ z) := (fun q => by have p := pre_hash (gok_of q).1 htl hil; rw [hnd] at p; exact p : gokC g = true → (g.nodes.getD t nd0).hash ≠ z)
          have HT1 : Hid ((g.nodes.getD t nd0).hash ≠ z → ∀ s, s < t + 1 → (g.nodes.getD s nd0).hash ≠ z) := (fun q => all_upto HT.out q : (g.nodes.getD t nd0).hash ≠ z → ∀ s, s < t + 1 → (g.nodes.getD s nd0).hash ≠ z)
          generalize (g.nodes.getD t nd0).hash = zt at *
          go_wp2
          go_region
          all_goals go_wp2
          · have eq : (zt == z) = true := by assumption
            go_ret
            exact ⟨wret_bool (gok_not (fun q => PH.out q (by simpa using eq))).symm, below_drewN hbB _⟩
          · have ne : (zt == z) = false := by assumption
            exact ⟨⟨t + 1, by omega, by go_num, HT1.out (by simpa using ne), _, rfl⟩, by simp [intOf]; omega⟩
        · obtain rfl : t = i := by omega
          go_wp2
          go_loopw [8] (fun kv wq => ∃ j : Nat, j ≤ F.length ∧ kv = .int .i64 j ∧ Hid (∀ s, s < j → wordG g.nodes.length (F.getD s 0) = true) ∧ ∃ m, wq = wn.drewN m) (fun kv _ => F.length - (intOf kv).toNat)
          case atStart => exact ⟨0, Nat.zero_le _, rfl, fun s hs => absurd hs (Nat.not_lt_zero s), _, rfl⟩
          case round =>
            obtain ⟨j, hj, rfl, HW, m', rfl⟩ := hrel
            by_cases hjl : j < F.length
            · have hji : (j : Int) < (F.length : Int) := by omega
              obtain ⟨fo, fcp, ef, _, hff⟩ := id rfw
              obtain ⟨fb, fp, rfl, cf⟩ := hff j hjl
              simp only [Value.slice.injEq, true_and] at ef
              obtain ⟨rfl, rfl⟩ := ef
              have cf1 := cell_later hbB cf
              have fx := (f64 (F.getD j 0) (by simp [hjl])).2
              have LW := fun W => l6Word_any (F.getD j 0) g.nodes.length W fx
              have GW : Hid (gokC g = true → wordG g.nodes.length (F.getD j 0) = true) := (fun q => (NDo.out _ (ND.out q)).2.2.2.2 _ (by simp [hjl]) : gokC g = true → wordG g.nodes.length (F.getD j 0) = true)
              have HW1 : Hid (wordG g.nodes.length (F.getD j 0) = true → ∀ s, s < j + 1 → wordG g.nodes.length (F.getD s 0) = true) := (fun q => all_upto HW.out q : wordG g.nodes.length (F.getD j 0) = true → ∀ s, s < j + 1 → wordG g.nodes.length (F.getD s 0) = true)
              generalize F.getD j 0 = x at *
              clear hff cf
              cases hwg : wordG g.nodes.length x
              · rw [hwg] at LW
                go_wp2_with (go_at_call 45; refine (LW _).mono ?_; rintro e wq ⟨rfl, hq⟩; obtain rfl := hq.symm)
                go_ret
                exact ⟨wret_bool (gok_not (fun q => by have := GW.out q; rw [hwg] at this; cases this)).symm, below_drewN hbB _⟩
              · rw [hwg] at LW
                go_wp2_with (go_at_call 45; refine (LW _).mono ?_; rintro e wq ⟨rfl, hq⟩; obtain rfl := hq.symm)
                exact ⟨⟨j + 1, by omega, by go_num, HW1.out hwg, _, rfl⟩, by simp [intOf]; omega⟩
            · obtain rfl : j = F.length := by omega
              have nd' : ndOk g ⟨c, z, F⟩ := NDi.out ⟨k1, by omega, by omega, by omega, fun x hx => by
                obtain ⟨s, hs, rfl⟩ := List.getElem_of_mem hx
                have q := HW.out s hs
                simpa [hs] using q⟩
              have HA' : Hid (∀ t', t' < t + 1 → ndOk g (g.nodes.getD t' nd0)) := (all_upto HA.out (by rw [hnd]; exact nd') : ∀ t', t' < t + 1 → ndOk g (g.nodes.getD t' nd0))
              have HB' : Hid (∀ s t', s < t' → t' < t + 1 → (g.nodes.getD s nd0).hash ≠ (g.nodes.getD t' nd0).hash) := (fun s t' hs ht' => by
                rcases Nat.lt_or_ge t' t with q | q
                · exact HB.out s t' hs q
                · obtain rfl : t' = t := by omega
                  have p := HT.out s hs
                  rw [hnd]
                  exact p : ∀ s t', s < t' → t' < t + 1 → (g.nodes.getD s nd0).hash ≠ (g.nodes.getD t' nd0).hash)
              have PE := PSu.out
              have wpa : ((plc g.nodes t : Nat) : Int) ≤ 32000 := by omega
              generalize plc g.nodes t = P at *
              go_wp2
              exact ⟨⟨t + 1, by omega, by go_num, by rw [PE], below_drewN hbB _, ⟨v0, v1, v2⟩, HA', HB'⟩, by simp [intOf]; omega⟩
    · obtain rfl : i = g.nodes.length := by omega
      generalize wr = wn at *
      have hmx : Tryz.prog.follows .mixedOrders = true := by kernel_rfl
      clear hil hi
      go_wp2
      go_loopw [9] (fun kv wq => ∃ j : Nat, j ≤ g.roots.length ∧ kv = .int .i64 j ∧ Hid (∀ s, s < j → wordG g.nodes.length (g.roots.getD s 0) = true) ∧ ∃ m, wq = wn.drewN m) (fun kv _ => g.roots.length - (intOf kv).toNat)
      case atStart => exact ⟨0, Nat.zero_le _, rfl, fun s hs => absurd hs (Nat.not_lt_zero s), 0, rfl⟩
      case round =>
        obtain ⟨j, hj, rfl, HW, m, rfl⟩ := hrel
        by_cases hjl : j < g.roots.length
        · have hji : (j : Int) < (g.roots.length : Int) := by omega
          obtain ⟨fo, fcp, ef, _, hff⟩ := id hr
          obtain ⟨fb, fp, rfl, cf⟩ := hff j hjl
          simp only [Value.slice.injEq, true_and] at ef
          obtain ⟨rfl, rfl⟩ := ef
          have cf1 := cell_later hb cf
          have fx := (r64 (g.roots.getD j 0) (by simp [hjl])).2
          have LW := fun W => l6Word_any (g.roots.getD j 0) g.nodes.length W fx
          have GW : Hid (gokC g = true → wordG g.nodes.length (g.roots.getD j 0) = true) := (fun q => (gok_of q).1.2.2.2.2.2.1 _ (by simp [hjl]) : gokC g = true → wordG g.nodes.length (g.roots.getD j 0) = true)
          have HW1 : Hid (wordG g.nodes.length (g.roots.getD j 0) = true → ∀ s, s < j + 1 → wordG g.nodes.length (g.roots.getD s 0) = true) := (fun q => all_upto HW.out q : wordG g.nodes.length (g.roots.getD j 0) = true → ∀ s, s < j + 1 → wordG g.nodes.length (g.roots.getD s 0) = true)
          generalize g.roots.getD j 0 = x at *
          clear hff cf
          cases hwg : wordG g.nodes.length x
          · rw [hwg] at LW
            go_wp2_with (go_at_call 45; refine (LW _).mono ?_; rintro e wq ⟨rfl, hq⟩; obtain rfl := hq.symm)
            go_ret
            exact ⟨wret_bool (gok_not (fun q => by have := GW.out q; rw [hwg] at this; cases this)).symm, below_drewN hb _⟩
          · rw [hwg] at LW
            go_wp2_with (go_at_call 45; refine (LW _).mono ?_; rintro e wq ⟨rfl, hq⟩; obtain rfl := hq.symm)
            exact ⟨⟨j + 1, by omega, by go_num, HW1.out hwg, _, rfl⟩, by simp [intOf]; omega⟩
        · obtain rfl : j = g.roots.length := by omega
          by_cases hs : 2000 < plc g.nodes g.nodes.length
          · have hsi : (2000 : Int) < ((plc g.nodes g.nodes.length : Nat) : Int) := by omega
            have GF : Hid (gokC g = false) := (gok_not (fun q => by have := (gok_of q).1.2.2.2.2.2.2; omega) : gokC g = false)
            go_wp2
            go_ret
            exact ⟨wret_bool GF.out.symm, below_drewN hb _⟩
          · have hsi : ¬ (2000 : Int) < ((plc g.nodes g.nodes.length : Nat) : Int) := by omega
            have pr : preOk g := pre_of q1 q2 q3 HA.out HB.out HW.out (by omega)
            have rgt := laid_right pr
            have GE : Hid (grEq (shP (laidH g)) g = gokC g) := gr_gok pr
            obtain ⟨n64, sr, sn⟩ := shp_64 rgt
            have hbn := below_drewN hb m
            have LB := fun W hv => l6Build_any (.agg #[.slice ra g.roots.length rc, .slice na g.nodes.length nc, .int .i64 g.hash]) g W hv pr
            have LS := fun v W hv => l6Shape_any v (laidH g) (plcs g.nodes) W hv rgt
            have SG := fun v W hs hv => specSameGraph_any v (.agg #[.slice ra g.roots.length rc, .slice na g.nodes.length nc, .int .i64 g.hash]) (shP (laidH g)) g W hs hv ⟨by omega, by omega⟩ (by omega) (fun n q => by have := (n64 n q).2; omega) (fun n q => by have := (s64 n q).2; omega)
            have X3 : (wn.drewN m).cell? ⟨w.heap.size, 0, none⟩ = some (.slice ra g.roots.length rc) ∧ (wn.drewN m).cell? ⟨w.heap.size, 1, none⟩ = some (.slice na g.nodes.length nc) ∧ (wn.drewN m).cell? ⟨w.heap.size, 2, none⟩ = some (.int .i64 g.hash) := ⟨x0, x1, x2⟩
            clear x0 x1 x2 hb
            generalize wn.drewN m = wm at *
            obtain ⟨x0, x1, x2⟩ := X3
            generalize grEq (shP (laidH g)) g = ge at *
            clear HA HB HW hs n64 sr sn hn hr s64 r64 rgt
            go_wp2
            refine Disk.z_plain 99 (fun W' => W'.cell? ⟨w.heap.size, 0, none⟩ = some (.slice ra g.roots.length rc) ∧ W'.cell? ⟨w.heap.size, 1, none⟩ = some (.slice na g.nodes.length nc) ∧ W'.cell? ⟨w.heap.size, 2, none⟩ = some (.int .i64 g.hash)) hmx ⟨x0, x1, x2⟩ (fun hs => ?_)
            refine Disk.z_take 0 111 (v := .agg #[.slice ra g.roots.length rc, .slice na g.nodes.length nc, .int .i64 g.hash]) rfl rfl (by kernel_rfl) (by kernel_rfl) (by kernel_rfl) (by kernel_rfl) (by rfl) hs (fun W' hSw => (by
              obtain ⟨s0, s1, s2⟩ := hSw
              go_simp; first | done | with_reducible rfl)) ?_
            simp only [List.setIfInBounds_toArray, List.set_cons_zero, List.set_cons_succ]
            refine Disk.z_take 3 114 (v := .agg #[.slice ra g.roots.length rc, .slice na g.nodes.length nc, .int .i64 g.hash]) rfl rfl (by kernel_rfl) (by kernel_rfl) (by kernel_rfl) (by kernel_rfl) (by rfl) hs (fun W' hSw => (by
              obtain ⟨s0, s1, s2⟩ := hSw
              go_simp; first | done | with_reducible rfl)) ?_
            simp only [List.setIfInBounds_toArray, List.set_cons_zero, List.set_cons_succ]
            refine Disk.z_call 1 112 rfl rfl (by kernel_rfl) (by rfl) (f := 22) (args := #[.agg #[.slice ra g.roots.length rc, .slice na g.nodes.length nc, .int .i64 g.hash]]) (w0 := wm.drew) (by go_simp) ?_
            refine (LB _ (hv.later hbn.drew)).mono ?_
            rintro e w2 ⟨⟨u, rfl, hu⟩, hb2⟩
            have hs2 : w2.cell? ⟨w.heap.size, 0, none⟩ = some (.slice ra g.roots.length rc) ∧ w2.cell? ⟨w.heap.size, 1, none⟩ = some (.slice na g.nodes.length nc) ∧ w2.cell? ⟨w.heap.size, 2, none⟩ = some (.int .i64 g.hash) := ⟨cell_later hb2 hs.1, cell_later hb2 hs.2.1, cell_later hb2 hs.2.2⟩
            have hbw2 := bel_after hbn.drew hb2
            refine ⟨_, rfl, .inr hs2, ?_⟩
            simp only [List.setIfInBounds_toArray, List.set_cons_zero, List.set_cons_succ]
            refine Disk.z_call 2 113 rfl rfl (by kernel_rfl) (by rfl) (f := 29) (args := #[u]) (w0 := w2) (by go_simp) ?_
            refine (LS _ _ hu.hr).mono ?_
            rintro e w3 ⟨⟨vs, rfl, hvs⟩, hb3⟩
            have hs3 : w3.cell? ⟨w.heap.size, 0, none⟩ = some (.slice ra g.roots.length rc) ∧ w3.cell? ⟨w.heap.size, 1, none⟩ = some (.slice na g.nodes.length nc) ∧ w3.cell? ⟨w.heap.size, 2, none⟩ = some (.int .i64 g.hash) := ⟨cell_later hb3 hs2.1, cell_later hb3 hs2.2.1, cell_later hb3 hs2.2.2⟩
            have hbw3 := bel_after hbw2 hb3
            refine ⟨_, rfl, .inr hs3, ?_⟩
            simp only [List.setIfInBounds_toArray, List.set_cons_zero, List.set_cons_succ]
            refine Disk.z_call 4 115 rfl rfl (by kernel_rfl) (by rfl) (f := 46) (args := #[vs, .agg #[.slice ra g.roots.length rc, .slice na g.nodes.length nc, .int .i64 g.hash]]) (w0 := w3) (by go_simp) ?_
            refine (SG _ _ hvs.gr (hv.later hbw3)).mono ?_
            rintro e w4 ⟨rfl, hb4⟩
            have hs4 : w4.cell? ⟨w.heap.size, 0, none⟩ = some (.slice ra g.roots.length rc) ∧ w4.cell? ⟨w.heap.size, 1, none⟩ = some (.slice na g.nodes.length nc) ∧ w4.cell? ⟨w.heap.size, 2, none⟩ = some (.int .i64 g.hash) := ⟨cell_later hb4 hs3.1, cell_later hb4 hs3.2.1, cell_later hb4 hs3.2.2⟩
            have hbw4 := bel_after hbw3 hb4
            refine ⟨_, rfl, .inr hs4, ?_⟩
            simp only [List.setIfInBounds_toArray, List.set_cons_zero, List.set_cons_succ]
            refine Disk.z_run 5 2 (w' := w4) (v := .bool ge) rfl rfl (by kernel_rfl) (by rfl) (by go_simp; first | done | with_reducible rfl) (.inr hs4) ?_
            simp only [List.setIfInBounds_toArray, List.set_cons_zero, List.set_cons_succ]
            refine Disk.z_done (by kernel_rfl) ?_ _
            clear hs hs2 hs3 hs4 LB LS SG hu hvs
            go_wp2
            go_ret
            exact ⟨wret_bool GE.out, hbw4⟩

end Go.Proofs.YtboiknllmnfipaaGreatDoor
