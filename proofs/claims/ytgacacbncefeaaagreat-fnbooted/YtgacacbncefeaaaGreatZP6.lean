import Derived.Test.YtgacacbncefeaaaGreatZFElem
import Derived.Test.YtgacacbncefeaaaGreatZP5
import Derived.Test.YtgacacbncefeaaaGreatZDZed2
/- What a word means in a heap, in plain words. -/
namespace Go.Proofs.YtgacacbncefeaaaGreat
open Go.RowKit

/-- What elementIn answers. -/
noncomputable def elW (h : Hp) (u : Value) (x : Int) : Value := if okC h = true then elV (obC h) u x else .iface 153 (.agg #[])

/-- A word in a right heap: which of the four it is. -/
theorem el_cases (h : Hp) (u : Value) (x : Int) :
    (elW h u x = .iface 153 (.agg #[]) ∧ (refB h x && okC h) = false ∧ (okC h = true → ¬ kindW x = 1)) ∨
    (okC h = true ∧ elW h u x = .iface 154 (.agg #[]) ∧ refB h x = false ∧ kindW x = 1) ∨
    (okC h = true ∧ refB h x = true ∧ ∃ a : Nat, a ∈ obC h ∧ x / 2 = a ∧ kindW x = 2 ∧ (elW h u x = .iface 156 (.agg #[u, .int .i64 a]) ∨ elW h u x = .iface 158 (.agg #[u, .int .i64 a]))) := by
  unfold elW
  cases hk : okC h
  · exact .inl ⟨rfl, by simp, fun q => by cases q⟩
  rw [if_pos rfl]
  unfold elV
  cases hf : fitB (obC h) x
  · refine .inl ⟨rfl, ?_, fun _ k => ?_⟩
    · cases hr : refB h x
      · rfl
      · obtain ⟨k, a, ha, e⟩ := ref_mem hr
        rw [fit_ref (decide_eq_true k), e, show (ints (obC h)).contains (a : Int) = true from List.contains_iff_mem.2 (List.mem_map.2 ⟨a, ha, rfl⟩)] at hf
        cases hf
    · unfold fitB at hf
      rw [k] at hf
      simp at hf
  rw [if_pos rfl]
  by_cases k : kindW x = 2
  · rw [if_pos k]
    rw [fit_ref (decide_eq_true k), List.contains_iff_mem] at hf
    obtain ⟨a, ha, e⟩ := List.mem_map.1 hf
    refine .inr (.inr ⟨rfl, ref_of k ha e.symm, a, ha, e.symm, k, ?_⟩)
    rw [← e]
    split
    · exact .inr rfl
    · exact .inl rfl
  · rw [if_neg k]
    have k1 : kindW x = 1 := by
      unfold fitB at hf
      rw [decide_eq_false k] at hf
      simpa using hf
    refine .inr (.inl ⟨rfl, rfl, ?_, k1⟩)
    unfold refB
    rw [decide_eq_false k]
    rfl

end Go.Proofs.YtgacacbncefeaaaGreat

/- The parts of a machine: rootFields, hasRoot, isStack, hasParts of the program. -/
namespace Go.Proofs.YtgacacbncefeaaaGreat
open Go.RowKit

/-- The box of a machine whose heap is h, and what its lists hold. -/
structure KM (W : World) (N g1 g2 : Nat) (oa : Option Addr) (oc : Nat) (h : Hp) : Prop where
  c0 : W.cell? ⟨N, 0, none⟩ = some (.slice (some ⟨g1, 0, none⟩) 3200 3200)
  c1 : W.cell? ⟨N, 1, none⟩ = some (.slice oa (obC h).length oc)
  c2 : W.cell? ⟨N, 2, none⟩ = some (.slice (some ⟨g2, 0, none⟩) h.roots.length h.roots.length)
  ws : WS W g1 0 h.words
  r1 : ∀ k, k < h.roots.length → W.cell? ⟨g2, k, none⟩ = some (.int .i64 (h.roots.getD k 0))
  io : IR W (.slice oa (obC h).length oc) (ints (obC h))
theorem KM.later {W W' : World} {N g1 g2 oc : Nat} {oa : Option Addr} {h : Hp} (K : KM W N g1 g2 oa oc h) (hb : Below W.heap.size W W') : KM W' N g1 g2 oa oc h :=
  ⟨cell_later hb K.c0, cell_later hb K.c1, cell_later hb K.c2, K.ws.later hb, fun k hk => cell_later hb (K.r1 k hk), K.io.later hb⟩

set_option maxRecDepth 100000 in
set_option maxHeartbeats 3200000 in
theorem rootFields_any (N g1 g2 : Nat) (oa : Option Addr) (oc : Nat) (h : Hp) (w : World) (K : KM w N g1 g2 oa oc h) (hk : okC h = true) (k : Nat) (hk2 : k < h.roots.length) (_kl : h.roots.length ≤ 20) :
    Calls Tryz.prog 100 #[.pointer (some ⟨N, 0, none⟩), .int .i64 k] w fun e w' => (∃ v, e = .returned v ∧ (refB h (h.roots.getD k 0) = true → IR w' v (fldR h k))) ∧ Below w.heap.size w w' := by
  have OS := ok_sorted hk
  have OL : (obC h).length ≤ 1000000000 := by have := ob_short h; omega
  have EE : ∀ x, elW h (.slice (some ⟨g1, 0, none⟩) 3200 3200) x = elV (obC h) (.slice (some ⟨g1, 0, none⟩) 3200 3200) x := fun x => by unfold elW; rw [hk]; rfl
  unfold fldR
  obtain ⟨x, hx⟩ : ∃ x, h.roots.getD k 0 = x := ⟨_, rfl⟩
  rw [hx]
  rcases el_cases h (.slice (some ⟨g1, 0, none⟩) 3200 3200) x with ⟨ev, n, _⟩ | ⟨_, ev, n, _⟩ | ⟨_, r, a, ha, ea, k2, ev⟩
  · rw [EE] at ev
    rw [hk, Bool.and_true] at n
    have hm := mNF
    go_enter Tryz.func100, Tryz.ntmps100
    go_wp2_with fail
    refine Disk.z_plain 99 (fun W' => KM W' N g1 g2 oa oc h) (by kernel_rfl) (K.later (Below.refl _ _).drew) fun hs => ?_
    refine Disk.z_take 0 5 (v := .pointer (some ⟨N, 0, none⟩)) rfl rfl (by kernel_rfl) (by kernel_rfl) (by kernel_rfl) (by kernel_rfl) (by rfl) hs (fun W' hSw => (by
      obtain ⟨s0, s1, s2, s3, s4, s5⟩ := hSw
      go_simp; first | done | with_reducible rfl)) ?_
    simp only [List.setIfInBounds_toArray, List.set_cons_zero, List.set_cons_succ]
    refine Disk.z_take 1 6 (v := .pointer (some ⟨N, 0, none⟩)) rfl rfl (by kernel_rfl) (by kernel_rfl) (by kernel_rfl) (by kernel_rfl) (by rfl) hs (fun W' hSw => (by
      obtain ⟨s0, s1, s2, s3, s4, s5⟩ := hSw
      go_simp; first | done | with_reducible rfl)) ?_
    simp only [List.setIfInBounds_toArray, List.set_cons_zero, List.set_cons_succ]
    refine Disk.z_take 2 7 (v := .pointer (some ⟨N, 0, none⟩)) rfl rfl (by kernel_rfl) (by kernel_rfl) (by kernel_rfl) (by kernel_rfl) (by rfl) hs (fun W' hSw => (by
      obtain ⟨s0, s1, s2, s3, s4, s5⟩ := hSw
      go_simp; first | done | with_reducible rfl)) ?_
    simp only [List.setIfInBounds_toArray, List.set_cons_zero, List.set_cons_succ]
    refine Disk.z_take 3 8 (v := .pointer (some ⟨N, 0, none⟩)) rfl rfl (by kernel_rfl) (by kernel_rfl) (by kernel_rfl) (by kernel_rfl) (by rfl) hs (fun W' hSw => (by
      obtain ⟨s0, s1, s2, s3, s4, s5⟩ := hSw
      go_simp; first | done | with_reducible rfl)) ?_
    simp only [List.setIfInBounds_toArray, List.set_cons_zero, List.set_cons_succ]
    refine Disk.z_take 4 9 (v := .agg #[.slice (some ⟨g1, 0, none⟩) 3200 3200, .slice oa (obC h).length oc]) rfl rfl (by kernel_rfl) (by kernel_rfl) (by kernel_rfl) (by kernel_rfl) (by rfl) hs (fun W' hSw => (by
      obtain ⟨s0, s1, s2, s3, s4, s5⟩ := hSw
      go_simp; first | done | with_reducible rfl)) ?_
    simp only [List.setIfInBounds_toArray, List.set_cons_zero, List.set_cons_succ]
    refine Disk.z_take 5 10 (v := .pointer (some ⟨N, 0, none⟩)) rfl rfl (by kernel_rfl) (by kernel_rfl) (by kernel_rfl) (by kernel_rfl) (by rfl) hs (fun W' hSw => (by
      obtain ⟨s0, s1, s2, s3, s4, s5⟩ := hSw
      go_simp; first | done | with_reducible rfl)) ?_
    simp only [List.setIfInBounds_toArray, List.set_cons_zero, List.set_cons_succ]
    refine Disk.z_take 6 11 (v := .pointer (some ⟨N, 0, none⟩)) rfl rfl (by kernel_rfl) (by kernel_rfl) (by kernel_rfl) (by kernel_rfl) (by rfl) hs (fun W' hSw => (by
      obtain ⟨s0, s1, s2, s3, s4, s5⟩ := hSw
      go_simp; first | done | with_reducible rfl)) ?_
    simp only [List.setIfInBounds_toArray, List.set_cons_zero, List.set_cons_succ]
    refine Disk.z_take 7 12 (v := .pointer (some ⟨N, 0, none⟩)) rfl rfl (by kernel_rfl) (by kernel_rfl) (by kernel_rfl) (by kernel_rfl) (by rfl) hs (fun W' hSw => (by
      obtain ⟨s0, s1, s2, s3, s4, s5⟩ := hSw
      go_simp; first | done | with_reducible rfl)) ?_
    simp only [List.setIfInBounds_toArray, List.set_cons_zero, List.set_cons_succ]
    refine Disk.z_take 8 13 (v := .pointer (some ⟨N, 2, none⟩)) rfl rfl (by kernel_rfl) (by kernel_rfl) (by kernel_rfl) (by kernel_rfl) (by rfl) hs (fun W' hSw => (by
      obtain ⟨s0, s1, s2, s3, s4, s5⟩ := hSw
      go_simp; first | done | with_reducible rfl)) ?_
    simp only [List.setIfInBounds_toArray, List.set_cons_zero, List.set_cons_succ]
    refine Disk.z_take 9 14 (v := .slice (some ⟨g2, 0, none⟩) h.roots.length h.roots.length) rfl rfl (by kernel_rfl) (by kernel_rfl) (by kernel_rfl) (by kernel_rfl) (by rfl) hs (fun W' hSw => (by
      obtain ⟨s0, s1, s2, s3, s4, s5⟩ := hSw
      go_simp; first | done | with_reducible rfl)) ?_
    simp only [List.setIfInBounds_toArray, List.set_cons_zero, List.set_cons_succ]
    refine Disk.z_take 10 15 (v := .int .i64 k) rfl rfl (by kernel_rfl) (by kernel_rfl) (by kernel_rfl) (by kernel_rfl) (by rfl) hs (fun W' hSw => (by
      obtain ⟨s0, s1, s2, s3, s4, s5⟩ := hSw
      go_simp; first | done | with_reducible rfl)) ?_
    simp only [List.setIfInBounds_toArray, List.set_cons_zero, List.set_cons_succ]
    refine Disk.z_take 11 16 (v := .pointer (some ⟨g2, k, none⟩)) rfl rfl (by kernel_rfl) (by kernel_rfl) (by kernel_rfl) (by kernel_rfl) (by rfl) hs (fun W' hSw => (by
      obtain ⟨s0, s1, s2, s3, s4, s5⟩ := hSw
      go_simp; first | done | with_reducible rfl)) ?_
    simp only [List.setIfInBounds_toArray, List.set_cons_zero, List.set_cons_succ]
    refine Disk.z_take 12 17 (v := .int .i64 x) rfl rfl (by kernel_rfl) (by kernel_rfl) (by kernel_rfl) (by kernel_rfl) (by rfl) hs (fun W' hSw => (by
      have rc := hSw.r1 k hk2
      rw [hx] at rc
      go_simp; first | done | with_reducible rfl)) ?_
    simp only [List.setIfInBounds_toArray, List.set_cons_zero, List.set_cons_succ]
    refine Disk.z_call 13 18 rfl rfl (by kernel_rfl) (by rfl) (f := 119) (args := #[.agg #[.slice (some ⟨g1, 0, none⟩) 3200 3200, .slice oa (obC h).length oc], .int .i64 x]) (w0 := w.drew) (by go_simp; first | done | with_reducible rfl) ?_
    refine (elementOf_any (some ⟨g1, 0, none⟩) oa 3200 3200 oc (obC h) x w.drew (K.io.later (Below.refl _ _).drew) OS OL).mono ?_
    rintro e w1 ⟨rfl, hb1⟩
    have b1 := bel_after (Below.refl _ _).drew hb1
    rw [ev]
    have K1 := K.later b1
    refine ⟨_, rfl, .inr K1, ?_⟩
    simp only [List.setIfInBounds_toArray, List.set_cons_zero, List.set_cons_succ]
    refine Disk.z_call 14 19 rfl rfl (by kernel_rfl) (by rfl) (f := 166) (args := #[.agg #[]]) (w0 := w1) (by go_simp; first | done | with_reducible rfl) ?_
    refine (noneF_any w1).mono ?_
    rintro e w2 ⟨rfl, hb2⟩
    refine ⟨_, rfl, .inr (K1.later hb2), ?_⟩
    simp only [List.setIfInBounds_toArray, List.set_cons_zero, List.set_cons_succ]
    have hs2 := K1.later hb2
    refine Disk.z_take 15 4 (v := .slice none 0 0) rfl rfl (by kernel_rfl) (by kernel_rfl) (by kernel_rfl) (by kernel_rfl) (by rfl) hs2 (fun W' hSw => (by
      obtain ⟨s0, s1, s2, s3, s4, s5⟩ := hSw
      go_simp; first | done | with_reducible rfl)) ?_
    simp only [List.setIfInBounds_toArray, List.set_cons_zero, List.set_cons_succ]
    refine Disk.z_done (by kernel_rfl) ?_ _
    go_wp2
    go_ret
    exact ⟨⟨_, rfl, fun q => by rw [n] at q; cases q⟩, bel_after b1 hb2⟩
  · rw [EE] at ev
    have hm := mUF
    go_enter Tryz.func100, Tryz.ntmps100
    go_wp2_with fail
    refine Disk.z_plain 99 (fun W' => KM W' N g1 g2 oa oc h) (by kernel_rfl) (K.later (Below.refl _ _).drew) fun hs => ?_
    refine Disk.z_take 0 5 (v := .pointer (some ⟨N, 0, none⟩)) rfl rfl (by kernel_rfl) (by kernel_rfl) (by kernel_rfl) (by kernel_rfl) (by rfl) hs (fun W' hSw => (by
      obtain ⟨s0, s1, s2, s3, s4, s5⟩ := hSw
      go_simp; first | done | with_reducible rfl)) ?_
    simp only [List.setIfInBounds_toArray, List.set_cons_zero, List.set_cons_succ]
    refine Disk.z_take 1 6 (v := .pointer (some ⟨N, 0, none⟩)) rfl rfl (by kernel_rfl) (by kernel_rfl) (by kernel_rfl) (by kernel_rfl) (by rfl) hs (fun W' hSw => (by
      obtain ⟨s0, s1, s2, s3, s4, s5⟩ := hSw
      go_simp; first | done | with_reducible rfl)) ?_
    simp only [List.setIfInBounds_toArray, List.set_cons_zero, List.set_cons_succ]
    refine Disk.z_take 2 7 (v := .pointer (some ⟨N, 0, none⟩)) rfl rfl (by kernel_rfl) (by kernel_rfl) (by kernel_rfl) (by kernel_rfl) (by rfl) hs (fun W' hSw => (by
      obtain ⟨s0, s1, s2, s3, s4, s5⟩ := hSw
      go_simp; first | done | with_reducible rfl)) ?_
    simp only [List.setIfInBounds_toArray, List.set_cons_zero, List.set_cons_succ]
    refine Disk.z_take 3 8 (v := .pointer (some ⟨N, 0, none⟩)) rfl rfl (by kernel_rfl) (by kernel_rfl) (by kernel_rfl) (by kernel_rfl) (by rfl) hs (fun W' hSw => (by
      obtain ⟨s0, s1, s2, s3, s4, s5⟩ := hSw
      go_simp; first | done | with_reducible rfl)) ?_
    simp only [List.setIfInBounds_toArray, List.set_cons_zero, List.set_cons_succ]
    refine Disk.z_take 4 9 (v := .agg #[.slice (some ⟨g1, 0, none⟩) 3200 3200, .slice oa (obC h).length oc]) rfl rfl (by kernel_rfl) (by kernel_rfl) (by kernel_rfl) (by kernel_rfl) (by rfl) hs (fun W' hSw => (by
      obtain ⟨s0, s1, s2, s3, s4, s5⟩ := hSw
      go_simp; first | done | with_reducible rfl)) ?_
    simp only [List.setIfInBounds_toArray, List.set_cons_zero, List.set_cons_succ]
    refine Disk.z_take 5 10 (v := .pointer (some ⟨N, 0, none⟩)) rfl rfl (by kernel_rfl) (by kernel_rfl) (by kernel_rfl) (by kernel_rfl) (by rfl) hs (fun W' hSw => (by
      obtain ⟨s0, s1, s2, s3, s4, s5⟩ := hSw
      go_simp; first | done | with_reducible rfl)) ?_
    simp only [List.setIfInBounds_toArray, List.set_cons_zero, List.set_cons_succ]
    refine Disk.z_take 6 11 (v := .pointer (some ⟨N, 0, none⟩)) rfl rfl (by kernel_rfl) (by kernel_rfl) (by kernel_rfl) (by kernel_rfl) (by rfl) hs (fun W' hSw => (by
      obtain ⟨s0, s1, s2, s3, s4, s5⟩ := hSw
      go_simp; first | done | with_reducible rfl)) ?_
    simp only [List.setIfInBounds_toArray, List.set_cons_zero, List.set_cons_succ]
    refine Disk.z_take 7 12 (v := .pointer (some ⟨N, 0, none⟩)) rfl rfl (by kernel_rfl) (by kernel_rfl) (by kernel_rfl) (by kernel_rfl) (by rfl) hs (fun W' hSw => (by
      obtain ⟨s0, s1, s2, s3, s4, s5⟩ := hSw
      go_simp; first | done | with_reducible rfl)) ?_
    simp only [List.setIfInBounds_toArray, List.set_cons_zero, List.set_cons_succ]
    refine Disk.z_take 8 13 (v := .pointer (some ⟨N, 2, none⟩)) rfl rfl (by kernel_rfl) (by kernel_rfl) (by kernel_rfl) (by kernel_rfl) (by rfl) hs (fun W' hSw => (by
      obtain ⟨s0, s1, s2, s3, s4, s5⟩ := hSw
      go_simp; first | done | with_reducible rfl)) ?_
    simp only [List.setIfInBounds_toArray, List.set_cons_zero, List.set_cons_succ]
    refine Disk.z_take 9 14 (v := .slice (some ⟨g2, 0, none⟩) h.roots.length h.roots.length) rfl rfl (by kernel_rfl) (by kernel_rfl) (by kernel_rfl) (by kernel_rfl) (by rfl) hs (fun W' hSw => (by
      obtain ⟨s0, s1, s2, s3, s4, s5⟩ := hSw
      go_simp; first | done | with_reducible rfl)) ?_
    simp only [List.setIfInBounds_toArray, List.set_cons_zero, List.set_cons_succ]
    refine Disk.z_take 10 15 (v := .int .i64 k) rfl rfl (by kernel_rfl) (by kernel_rfl) (by kernel_rfl) (by kernel_rfl) (by rfl) hs (fun W' hSw => (by
      obtain ⟨s0, s1, s2, s3, s4, s5⟩ := hSw
      go_simp; first | done | with_reducible rfl)) ?_
    simp only [List.setIfInBounds_toArray, List.set_cons_zero, List.set_cons_succ]
    refine Disk.z_take 11 16 (v := .pointer (some ⟨g2, k, none⟩)) rfl rfl (by kernel_rfl) (by kernel_rfl) (by kernel_rfl) (by kernel_rfl) (by rfl) hs (fun W' hSw => (by
      obtain ⟨s0, s1, s2, s3, s4, s5⟩ := hSw
      go_simp; first | done | with_reducible rfl)) ?_
    simp only [List.setIfInBounds_toArray, List.set_cons_zero, List.set_cons_succ]
    refine Disk.z_take 12 17 (v := .int .i64 x) rfl rfl (by kernel_rfl) (by kernel_rfl) (by kernel_rfl) (by kernel_rfl) (by rfl) hs (fun W' hSw => (by
      have rc := hSw.r1 k hk2
      rw [hx] at rc
      go_simp; first | done | with_reducible rfl)) ?_
    simp only [List.setIfInBounds_toArray, List.set_cons_zero, List.set_cons_succ]
    refine Disk.z_call 13 18 rfl rfl (by kernel_rfl) (by rfl) (f := 119) (args := #[.agg #[.slice (some ⟨g1, 0, none⟩) 3200 3200, .slice oa (obC h).length oc], .int .i64 x]) (w0 := w.drew) (by go_simp; first | done | with_reducible rfl) ?_
    refine (elementOf_any (some ⟨g1, 0, none⟩) oa 3200 3200 oc (obC h) x w.drew (K.io.later (Below.refl _ _).drew) OS OL).mono ?_
    rintro e w1 ⟨rfl, hb1⟩
    have b1 := bel_after (Below.refl _ _).drew hb1
    rw [ev]
    have K1 := K.later b1
    refine ⟨_, rfl, .inr K1, ?_⟩
    simp only [List.setIfInBounds_toArray, List.set_cons_zero, List.set_cons_succ]
    refine Disk.z_call 14 19 rfl rfl (by kernel_rfl) (by rfl) (f := 169) (args := #[.agg #[]]) (w0 := w1) (by go_simp; first | done | with_reducible rfl) ?_
    refine (numF_any w1).mono ?_
    rintro e w2 ⟨rfl, hb2⟩
    refine ⟨_, rfl, .inr (K1.later hb2), ?_⟩
    simp only [List.setIfInBounds_toArray, List.set_cons_zero, List.set_cons_succ]
    have hs2 := K1.later hb2
    refine Disk.z_take 15 4 (v := .slice none 0 0) rfl rfl (by kernel_rfl) (by kernel_rfl) (by kernel_rfl) (by kernel_rfl) (by rfl) hs2 (fun W' hSw => (by
      obtain ⟨s0, s1, s2, s3, s4, s5⟩ := hSw
      go_simp; first | done | with_reducible rfl)) ?_
    simp only [List.setIfInBounds_toArray, List.set_cons_zero, List.set_cons_succ]
    refine Disk.z_done (by kernel_rfl) ?_ _
    go_wp2
    go_ret
    exact ⟨⟨_, rfl, fun q => by rw [n] at q; cases q⟩, bel_after b1 hb2⟩
  · have RG := c_right hk
    obtain ⟨q1, q2, q3⟩ := RG.1.obj ha
    have q4 := size_of q3
    rw [ea, Int.toNat_natCast]
    have FI : ∀ W q c, WS W g1 0 h.words → (gw h.words a).toNat ≤ c → ((gw h.words a).toNat = 0 ∨ q = 0 + (a + 4)) → IR W (.slice (some ⟨g1, q, none⟩) (gw h.words a).toNat c) (flds h.words a) := fun W q c u v z => flds_ir u RG.1.1 q2 v z
    have OF := fun W (u : WS W g1 0 h.words) => objF_any g1 0 3200 h.words a W u RG.1.1 (Nat.le_refl _) q1 q4 q2
    rw [EE] at ev
    rcases ev with ev | ev
    · have hm := mOF (.slice (some ⟨g1, 0, none⟩) 3200 3200) a
      go_enter Tryz.func100, Tryz.ntmps100
      go_wp2_with fail
      refine Disk.z_plain 99 (fun W' => KM W' N g1 g2 oa oc h) (by kernel_rfl) (K.later (Below.refl _ _).drew) fun hs => ?_
      refine Disk.z_take 0 5 (v := .pointer (some ⟨N, 0, none⟩)) rfl rfl (by kernel_rfl) (by kernel_rfl) (by kernel_rfl) (by kernel_rfl) (by rfl) hs (fun W' hSw => (by
        obtain ⟨s0, s1, s2, s3, s4, s5⟩ := hSw
        go_simp; first | done | with_reducible rfl)) ?_
      simp only [List.setIfInBounds_toArray, List.set_cons_zero, List.set_cons_succ]
      refine Disk.z_take 1 6 (v := .pointer (some ⟨N, 0, none⟩)) rfl rfl (by kernel_rfl) (by kernel_rfl) (by kernel_rfl) (by kernel_rfl) (by rfl) hs (fun W' hSw => (by
        obtain ⟨s0, s1, s2, s3, s4, s5⟩ := hSw
        go_simp; first | done | with_reducible rfl)) ?_
      simp only [List.setIfInBounds_toArray, List.set_cons_zero, List.set_cons_succ]
      refine Disk.z_take 2 7 (v := .pointer (some ⟨N, 0, none⟩)) rfl rfl (by kernel_rfl) (by kernel_rfl) (by kernel_rfl) (by kernel_rfl) (by rfl) hs (fun W' hSw => (by
        obtain ⟨s0, s1, s2, s3, s4, s5⟩ := hSw
        go_simp; first | done | with_reducible rfl)) ?_
      simp only [List.setIfInBounds_toArray, List.set_cons_zero, List.set_cons_succ]
      refine Disk.z_take 3 8 (v := .pointer (some ⟨N, 0, none⟩)) rfl rfl (by kernel_rfl) (by kernel_rfl) (by kernel_rfl) (by kernel_rfl) (by rfl) hs (fun W' hSw => (by
        obtain ⟨s0, s1, s2, s3, s4, s5⟩ := hSw
        go_simp; first | done | with_reducible rfl)) ?_
      simp only [List.setIfInBounds_toArray, List.set_cons_zero, List.set_cons_succ]
      refine Disk.z_take 4 9 (v := .agg #[.slice (some ⟨g1, 0, none⟩) 3200 3200, .slice oa (obC h).length oc]) rfl rfl (by kernel_rfl) (by kernel_rfl) (by kernel_rfl) (by kernel_rfl) (by rfl) hs (fun W' hSw => (by
        obtain ⟨s0, s1, s2, s3, s4, s5⟩ := hSw
        go_simp; first | done | with_reducible rfl)) ?_
      simp only [List.setIfInBounds_toArray, List.set_cons_zero, List.set_cons_succ]
      refine Disk.z_take 5 10 (v := .pointer (some ⟨N, 0, none⟩)) rfl rfl (by kernel_rfl) (by kernel_rfl) (by kernel_rfl) (by kernel_rfl) (by rfl) hs (fun W' hSw => (by
        obtain ⟨s0, s1, s2, s3, s4, s5⟩ := hSw
        go_simp; first | done | with_reducible rfl)) ?_
      simp only [List.setIfInBounds_toArray, List.set_cons_zero, List.set_cons_succ]
      refine Disk.z_take 6 11 (v := .pointer (some ⟨N, 0, none⟩)) rfl rfl (by kernel_rfl) (by kernel_rfl) (by kernel_rfl) (by kernel_rfl) (by rfl) hs (fun W' hSw => (by
        obtain ⟨s0, s1, s2, s3, s4, s5⟩ := hSw
        go_simp; first | done | with_reducible rfl)) ?_
      simp only [List.setIfInBounds_toArray, List.set_cons_zero, List.set_cons_succ]
      refine Disk.z_take 7 12 (v := .pointer (some ⟨N, 0, none⟩)) rfl rfl (by kernel_rfl) (by kernel_rfl) (by kernel_rfl) (by kernel_rfl) (by rfl) hs (fun W' hSw => (by
        obtain ⟨s0, s1, s2, s3, s4, s5⟩ := hSw
        go_simp; first | done | with_reducible rfl)) ?_
      simp only [List.setIfInBounds_toArray, List.set_cons_zero, List.set_cons_succ]
      refine Disk.z_take 8 13 (v := .pointer (some ⟨N, 2, none⟩)) rfl rfl (by kernel_rfl) (by kernel_rfl) (by kernel_rfl) (by kernel_rfl) (by rfl) hs (fun W' hSw => (by
        obtain ⟨s0, s1, s2, s3, s4, s5⟩ := hSw
        go_simp; first | done | with_reducible rfl)) ?_
      simp only [List.setIfInBounds_toArray, List.set_cons_zero, List.set_cons_succ]
      refine Disk.z_take 9 14 (v := .slice (some ⟨g2, 0, none⟩) h.roots.length h.roots.length) rfl rfl (by kernel_rfl) (by kernel_rfl) (by kernel_rfl) (by kernel_rfl) (by rfl) hs (fun W' hSw => (by
        obtain ⟨s0, s1, s2, s3, s4, s5⟩ := hSw
        go_simp; first | done | with_reducible rfl)) ?_
      simp only [List.setIfInBounds_toArray, List.set_cons_zero, List.set_cons_succ]
      refine Disk.z_take 10 15 (v := .int .i64 k) rfl rfl (by kernel_rfl) (by kernel_rfl) (by kernel_rfl) (by kernel_rfl) (by rfl) hs (fun W' hSw => (by
        obtain ⟨s0, s1, s2, s3, s4, s5⟩ := hSw
        go_simp; first | done | with_reducible rfl)) ?_
      simp only [List.setIfInBounds_toArray, List.set_cons_zero, List.set_cons_succ]
      refine Disk.z_take 11 16 (v := .pointer (some ⟨g2, k, none⟩)) rfl rfl (by kernel_rfl) (by kernel_rfl) (by kernel_rfl) (by kernel_rfl) (by rfl) hs (fun W' hSw => (by
        obtain ⟨s0, s1, s2, s3, s4, s5⟩ := hSw
        go_simp; first | done | with_reducible rfl)) ?_
      simp only [List.setIfInBounds_toArray, List.set_cons_zero, List.set_cons_succ]
      refine Disk.z_take 12 17 (v := .int .i64 x) rfl rfl (by kernel_rfl) (by kernel_rfl) (by kernel_rfl) (by kernel_rfl) (by rfl) hs (fun W' hSw => (by
        have rc := hSw.r1 k hk2
        rw [hx] at rc
        go_simp; first | done | with_reducible rfl)) ?_
      simp only [List.setIfInBounds_toArray, List.set_cons_zero, List.set_cons_succ]
      refine Disk.z_call 13 18 rfl rfl (by kernel_rfl) (by rfl) (f := 119) (args := #[.agg #[.slice (some ⟨g1, 0, none⟩) 3200 3200, .slice oa (obC h).length oc], .int .i64 x]) (w0 := w.drew) (by go_simp; first | done | with_reducible rfl) ?_
      refine (elementOf_any (some ⟨g1, 0, none⟩) oa 3200 3200 oc (obC h) x w.drew (K.io.later (Below.refl _ _).drew) OS OL).mono ?_
      rintro e w1 ⟨rfl, hb1⟩
      have b1 := bel_after (Below.refl _ _).drew hb1
      rw [ev]
      have K1 := K.later b1
      refine ⟨_, rfl, .inr K1, ?_⟩
      simp only [List.setIfInBounds_toArray, List.set_cons_zero, List.set_cons_succ]
      refine Disk.z_call 14 19 rfl rfl (by kernel_rfl) (by rfl) (f := 172) (args := #[.agg #[.slice (some ⟨g1, 0, none⟩) 3200 3200, .int .i64 a]]) (w0 := w1) (by go_simp; first | done | with_reducible rfl) ?_
      refine (OF w1 K1.ws).mono ?_
      rintro e w2 ⟨⟨q, c, rfl, hc, hq⟩, hb2⟩
      refine ⟨_, rfl, .inr (K1.later hb2), ?_⟩
      simp only [List.setIfInBounds_toArray, List.set_cons_zero, List.set_cons_succ]
      have hs2 := K1.later hb2
      have V := FI w2 q c hs2.ws hc hq
      clear FI OF hc hq q4 q2
      generalize (gw h.words a).toNat = nn at *
      refine Disk.z_take 15 4 (v := .slice (some ⟨g1, q, none⟩) nn c) rfl rfl (by kernel_rfl) (by kernel_rfl) (by kernel_rfl) (by kernel_rfl) (by rfl) hs2 (fun W' hSw => (by
        obtain ⟨s0, s1, s2, s3, s4, s5⟩ := hSw
        go_simp; first | done | with_reducible rfl)) ?_
      simp only [List.setIfInBounds_toArray, List.set_cons_zero, List.set_cons_succ]
      refine Disk.z_done (by kernel_rfl) ?_ _
      go_wp2
      go_ret
      exact ⟨⟨_, rfl, fun _ => V⟩, bel_after b1 hb2⟩
    · have hm := mYF (.slice (some ⟨g1, 0, none⟩) 3200 3200) a
      go_enter Tryz.func100, Tryz.ntmps100
      go_wp2_with fail
      refine Disk.z_plain 99 (fun W' => KM W' N g1 g2 oa oc h) (by kernel_rfl) (K.later (Below.refl _ _).drew) fun hs => ?_
      refine Disk.z_take 0 5 (v := .pointer (some ⟨N, 0, none⟩)) rfl rfl (by kernel_rfl) (by kernel_rfl) (by kernel_rfl) (by kernel_rfl) (by rfl) hs (fun W' hSw => (by
        obtain ⟨s0, s1, s2, s3, s4, s5⟩ := hSw
        go_simp; first | done | with_reducible rfl)) ?_
      simp only [List.setIfInBounds_toArray, List.set_cons_zero, List.set_cons_succ]
      refine Disk.z_take 1 6 (v := .pointer (some ⟨N, 0, none⟩)) rfl rfl (by kernel_rfl) (by kernel_rfl) (by kernel_rfl) (by kernel_rfl) (by rfl) hs (fun W' hSw => (by
        obtain ⟨s0, s1, s2, s3, s4, s5⟩ := hSw
        go_simp; first | done | with_reducible rfl)) ?_
      simp only [List.setIfInBounds_toArray, List.set_cons_zero, List.set_cons_succ]
      refine Disk.z_take 2 7 (v := .pointer (some ⟨N, 0, none⟩)) rfl rfl (by kernel_rfl) (by kernel_rfl) (by kernel_rfl) (by kernel_rfl) (by rfl) hs (fun W' hSw => (by
        obtain ⟨s0, s1, s2, s3, s4, s5⟩ := hSw
        go_simp; first | done | with_reducible rfl)) ?_
      simp only [List.setIfInBounds_toArray, List.set_cons_zero, List.set_cons_succ]
      refine Disk.z_take 3 8 (v := .pointer (some ⟨N, 0, none⟩)) rfl rfl (by kernel_rfl) (by kernel_rfl) (by kernel_rfl) (by kernel_rfl) (by rfl) hs (fun W' hSw => (by
        obtain ⟨s0, s1, s2, s3, s4, s5⟩ := hSw
        go_simp; first | done | with_reducible rfl)) ?_
      simp only [List.setIfInBounds_toArray, List.set_cons_zero, List.set_cons_succ]
      refine Disk.z_take 4 9 (v := .agg #[.slice (some ⟨g1, 0, none⟩) 3200 3200, .slice oa (obC h).length oc]) rfl rfl (by kernel_rfl) (by kernel_rfl) (by kernel_rfl) (by kernel_rfl) (by rfl) hs (fun W' hSw => (by
        obtain ⟨s0, s1, s2, s3, s4, s5⟩ := hSw
        go_simp; first | done | with_reducible rfl)) ?_
      simp only [List.setIfInBounds_toArray, List.set_cons_zero, List.set_cons_succ]
      refine Disk.z_take 5 10 (v := .pointer (some ⟨N, 0, none⟩)) rfl rfl (by kernel_rfl) (by kernel_rfl) (by kernel_rfl) (by kernel_rfl) (by rfl) hs (fun W' hSw => (by
        obtain ⟨s0, s1, s2, s3, s4, s5⟩ := hSw
        go_simp; first | done | with_reducible rfl)) ?_
      simp only [List.setIfInBounds_toArray, List.set_cons_zero, List.set_cons_succ]
      refine Disk.z_take 6 11 (v := .pointer (some ⟨N, 0, none⟩)) rfl rfl (by kernel_rfl) (by kernel_rfl) (by kernel_rfl) (by kernel_rfl) (by rfl) hs (fun W' hSw => (by
        obtain ⟨s0, s1, s2, s3, s4, s5⟩ := hSw
        go_simp; first | done | with_reducible rfl)) ?_
      simp only [List.setIfInBounds_toArray, List.set_cons_zero, List.set_cons_succ]
      refine Disk.z_take 7 12 (v := .pointer (some ⟨N, 0, none⟩)) rfl rfl (by kernel_rfl) (by kernel_rfl) (by kernel_rfl) (by kernel_rfl) (by rfl) hs (fun W' hSw => (by
        obtain ⟨s0, s1, s2, s3, s4, s5⟩ := hSw
        go_simp; first | done | with_reducible rfl)) ?_
      simp only [List.setIfInBounds_toArray, List.set_cons_zero, List.set_cons_succ]
      refine Disk.z_take 8 13 (v := .pointer (some ⟨N, 2, none⟩)) rfl rfl (by kernel_rfl) (by kernel_rfl) (by kernel_rfl) (by kernel_rfl) (by rfl) hs (fun W' hSw => (by
        obtain ⟨s0, s1, s2, s3, s4, s5⟩ := hSw
        go_simp; first | done | with_reducible rfl)) ?_
      simp only [List.setIfInBounds_toArray, List.set_cons_zero, List.set_cons_succ]
      refine Disk.z_take 9 14 (v := .slice (some ⟨g2, 0, none⟩) h.roots.length h.roots.length) rfl rfl (by kernel_rfl) (by kernel_rfl) (by kernel_rfl) (by kernel_rfl) (by rfl) hs (fun W' hSw => (by
        obtain ⟨s0, s1, s2, s3, s4, s5⟩ := hSw
        go_simp; first | done | with_reducible rfl)) ?_
      simp only [List.setIfInBounds_toArray, List.set_cons_zero, List.set_cons_succ]
      refine Disk.z_take 10 15 (v := .int .i64 k) rfl rfl (by kernel_rfl) (by kernel_rfl) (by kernel_rfl) (by kernel_rfl) (by rfl) hs (fun W' hSw => (by
        obtain ⟨s0, s1, s2, s3, s4, s5⟩ := hSw
        go_simp; first | done | with_reducible rfl)) ?_
      simp only [List.setIfInBounds_toArray, List.set_cons_zero, List.set_cons_succ]
      refine Disk.z_take 11 16 (v := .pointer (some ⟨g2, k, none⟩)) rfl rfl (by kernel_rfl) (by kernel_rfl) (by kernel_rfl) (by kernel_rfl) (by rfl) hs (fun W' hSw => (by
        obtain ⟨s0, s1, s2, s3, s4, s5⟩ := hSw
        go_simp; first | done | with_reducible rfl)) ?_
      simp only [List.setIfInBounds_toArray, List.set_cons_zero, List.set_cons_succ]
      refine Disk.z_take 12 17 (v := .int .i64 x) rfl rfl (by kernel_rfl) (by kernel_rfl) (by kernel_rfl) (by kernel_rfl) (by rfl) hs (fun W' hSw => (by
        have rc := hSw.r1 k hk2
        rw [hx] at rc
        go_simp; first | done | with_reducible rfl)) ?_
      simp only [List.setIfInBounds_toArray, List.set_cons_zero, List.set_cons_succ]
      refine Disk.z_call 13 18 rfl rfl (by kernel_rfl) (by rfl) (f := 119) (args := #[.agg #[.slice (some ⟨g1, 0, none⟩) 3200 3200, .slice oa (obC h).length oc], .int .i64 x]) (w0 := w.drew) (by go_simp; first | done | with_reducible rfl) ?_
      refine (elementOf_any (some ⟨g1, 0, none⟩) oa 3200 3200 oc (obC h) x w.drew (K.io.later (Below.refl _ _).drew) OS OL).mono ?_
      rintro e w1 ⟨rfl, hb1⟩
      have b1 := bel_after (Below.refl _ _).drew hb1
      rw [ev]
      have K1 := K.later b1
      refine ⟨_, rfl, .inr K1, ?_⟩
      simp only [List.setIfInBounds_toArray, List.set_cons_zero, List.set_cons_succ]
      refine Disk.z_call 14 19 rfl rfl (by kernel_rfl) (by rfl) (f := 172) (args := #[.agg #[.slice (some ⟨g1, 0, none⟩) 3200 3200, .int .i64 a]]) (w0 := w1) (by go_simp; first | done | with_reducible rfl) ?_
      refine (OF w1 K1.ws).mono ?_
      rintro e w2 ⟨⟨q, c, rfl, hc, hq⟩, hb2⟩
      refine ⟨_, rfl, .inr (K1.later hb2), ?_⟩
      simp only [List.setIfInBounds_toArray, List.set_cons_zero, List.set_cons_succ]
      have hs2 := K1.later hb2
      have V := FI w2 q c hs2.ws hc hq
      clear FI OF hc hq q4 q2
      generalize (gw h.words a).toNat = nn at *
      refine Disk.z_take 15 4 (v := .slice (some ⟨g1, q, none⟩) nn c) rfl rfl (by kernel_rfl) (by kernel_rfl) (by kernel_rfl) (by kernel_rfl) (by rfl) hs2 (fun W' hSw => (by
        obtain ⟨s0, s1, s2, s3, s4, s5⟩ := hSw
        go_simp; first | done | with_reducible rfl)) ?_
      simp only [List.setIfInBounds_toArray, List.set_cons_zero, List.set_cons_succ]
      refine Disk.z_done (by kernel_rfl) ?_ _
      go_wp2
      go_ret
      exact ⟨⟨_, rfl, fun _ => V⟩, bel_after b1 hb2⟩

set_option maxRecDepth 100000 in
set_option maxHeartbeats 3200000 in
theorem hasRoot_any (N g1 g2 : Nat) (oa : Option Addr) (oc : Nat) (h : Hp) (w : World) (K : KM w N g1 g2 oa oc h) (hk : okC h = true) (k : Nat) (hk2 : k < h.roots.length) (kl : h.roots.length ≤ 20) (c : Int) (n : Nat) (hc : 1 ≤ c ∧ c ≤ 2) :
    Calls Tryz.prog 98 #[.pointer (some ⟨N, 0, none⟩), .int .i64 k, .int .i64 c, .int .i64 n] w fun e w' => e = .returned (.bool (rootB h k c n)) ∧ Below w.heap.size w w' := by
  have OS := ok_sorted hk
  have OL : (obC h).length ≤ 1000000000 := by have := ob_short h; omega
  have EE : ∀ x, elW h (.slice (some ⟨g1, 0, none⟩) 3200 3200) x = elV (obC h) (.slice (some ⟨g1, 0, none⟩) 3200 3200) x := fun x => by unfold elW; rw [hk]; rfl
  have RFC := fun W (Kq : KM W N g1 g2 oa oc h) => rootFields_any N g1 g2 oa oc h W Kq hk k hk2 kl
  unfold rootB
  unfold fldR at RFC
  obtain ⟨x, hx⟩ : ∃ x, h.roots.getD k 0 = x := ⟨_, rfl⟩
  rw [hx] at RFC ⊢
  rcases el_cases h (.slice (some ⟨g1, 0, none⟩) 3200 3200) x with ⟨ev, m, _⟩ | ⟨_, ev, m, _⟩ | ⟨_, r, a, ha, ea, k2, ev⟩
  · rw [EE] at ev
    rw [hk, Bool.and_true] at m
    rw [m, Bool.false_and]
    have hm := mNC
    clear RFC
    go_enter Tryz.func98, Tryz.ntmps98
    go_wp2_with fail
    refine Disk.z_plain 99 (fun W' => KM W' N g1 g2 oa oc h) (by kernel_rfl) (K.later (Below.refl _ _).drew) fun hs => ?_
    refine Disk.z_take 0 9 (v := .pointer (some ⟨N, 0, none⟩)) rfl rfl (by kernel_rfl) (by kernel_rfl) (by kernel_rfl) (by kernel_rfl) (by rfl) hs (fun W' hSw => (by
      obtain ⟨s0, s1, s2, s3, s4, s5⟩ := hSw
      go_simp; first | done | with_reducible rfl)) ?_
    simp only [List.setIfInBounds_toArray, List.set_cons_zero, List.set_cons_succ]
    refine Disk.z_take 1 10 (v := .pointer (some ⟨N, 0, none⟩)) rfl rfl (by kernel_rfl) (by kernel_rfl) (by kernel_rfl) (by kernel_rfl) (by rfl) hs (fun W' hSw => (by
      obtain ⟨s0, s1, s2, s3, s4, s5⟩ := hSw
      go_simp; first | done | with_reducible rfl)) ?_
    simp only [List.setIfInBounds_toArray, List.set_cons_zero, List.set_cons_succ]
    refine Disk.z_take 2 11 (v := .pointer (some ⟨N, 0, none⟩)) rfl rfl (by kernel_rfl) (by kernel_rfl) (by kernel_rfl) (by kernel_rfl) (by rfl) hs (fun W' hSw => (by
      obtain ⟨s0, s1, s2, s3, s4, s5⟩ := hSw
      go_simp; first | done | with_reducible rfl)) ?_
    simp only [List.setIfInBounds_toArray, List.set_cons_zero, List.set_cons_succ]
    refine Disk.z_take 3 12 (v := .pointer (some ⟨N, 0, none⟩)) rfl rfl (by kernel_rfl) (by kernel_rfl) (by kernel_rfl) (by kernel_rfl) (by rfl) hs (fun W' hSw => (by
      obtain ⟨s0, s1, s2, s3, s4, s5⟩ := hSw
      go_simp; first | done | with_reducible rfl)) ?_
    simp only [List.setIfInBounds_toArray, List.set_cons_zero, List.set_cons_succ]
    refine Disk.z_take 4 13 (v := .agg #[.slice (some ⟨g1, 0, none⟩) 3200 3200, .slice oa (obC h).length oc]) rfl rfl (by kernel_rfl) (by kernel_rfl) (by kernel_rfl) (by kernel_rfl) (by rfl) hs (fun W' hSw => (by
      obtain ⟨s0, s1, s2, s3, s4, s5⟩ := hSw
      go_simp; first | done | with_reducible rfl)) ?_
    simp only [List.setIfInBounds_toArray, List.set_cons_zero, List.set_cons_succ]
    refine Disk.z_take 5 14 (v := .pointer (some ⟨N, 0, none⟩)) rfl rfl (by kernel_rfl) (by kernel_rfl) (by kernel_rfl) (by kernel_rfl) (by rfl) hs (fun W' hSw => (by
      obtain ⟨s0, s1, s2, s3, s4, s5⟩ := hSw
      go_simp; first | done | with_reducible rfl)) ?_
    simp only [List.setIfInBounds_toArray, List.set_cons_zero, List.set_cons_succ]
    refine Disk.z_take 6 15 (v := .pointer (some ⟨N, 0, none⟩)) rfl rfl (by kernel_rfl) (by kernel_rfl) (by kernel_rfl) (by kernel_rfl) (by rfl) hs (fun W' hSw => (by
      obtain ⟨s0, s1, s2, s3, s4, s5⟩ := hSw
      go_simp; first | done | with_reducible rfl)) ?_
    simp only [List.setIfInBounds_toArray, List.set_cons_zero, List.set_cons_succ]
    refine Disk.z_take 7 16 (v := .pointer (some ⟨N, 0, none⟩)) rfl rfl (by kernel_rfl) (by kernel_rfl) (by kernel_rfl) (by kernel_rfl) (by rfl) hs (fun W' hSw => (by
      obtain ⟨s0, s1, s2, s3, s4, s5⟩ := hSw
      go_simp; first | done | with_reducible rfl)) ?_
    simp only [List.setIfInBounds_toArray, List.set_cons_zero, List.set_cons_succ]
    refine Disk.z_take 8 17 (v := .pointer (some ⟨N, 2, none⟩)) rfl rfl (by kernel_rfl) (by kernel_rfl) (by kernel_rfl) (by kernel_rfl) (by rfl) hs (fun W' hSw => (by
      obtain ⟨s0, s1, s2, s3, s4, s5⟩ := hSw
      go_simp; first | done | with_reducible rfl)) ?_
    simp only [List.setIfInBounds_toArray, List.set_cons_zero, List.set_cons_succ]
    refine Disk.z_take 9 18 (v := .slice (some ⟨g2, 0, none⟩) h.roots.length h.roots.length) rfl rfl (by kernel_rfl) (by kernel_rfl) (by kernel_rfl) (by kernel_rfl) (by rfl) hs (fun W' hSw => (by
      obtain ⟨s0, s1, s2, s3, s4, s5⟩ := hSw
      go_simp; first | done | with_reducible rfl)) ?_
    simp only [List.setIfInBounds_toArray, List.set_cons_zero, List.set_cons_succ]
    refine Disk.z_take 10 19 (v := .int .i64 k) rfl rfl (by kernel_rfl) (by kernel_rfl) (by kernel_rfl) (by kernel_rfl) (by rfl) hs (fun W' hSw => (by
      obtain ⟨s0, s1, s2, s3, s4, s5⟩ := hSw
      go_simp; first | done | with_reducible rfl)) ?_
    simp only [List.setIfInBounds_toArray, List.set_cons_zero, List.set_cons_succ]
    refine Disk.z_take 11 20 (v := .pointer (some ⟨g2, k, none⟩)) rfl rfl (by kernel_rfl) (by kernel_rfl) (by kernel_rfl) (by kernel_rfl) (by rfl) hs (fun W' hSw => (by
      obtain ⟨s0, s1, s2, s3, s4, s5⟩ := hSw
      go_simp; first | done | with_reducible rfl)) ?_
    simp only [List.setIfInBounds_toArray, List.set_cons_zero, List.set_cons_succ]
    refine Disk.z_take 12 21 (v := .int .i64 x) rfl rfl (by kernel_rfl) (by kernel_rfl) (by kernel_rfl) (by kernel_rfl) (by rfl) hs (fun W' hSw => (by
      have rc := hSw.r1 k hk2
      rw [hx] at rc
      go_simp; first | done | with_reducible rfl)) ?_
    simp only [List.setIfInBounds_toArray, List.set_cons_zero, List.set_cons_succ]
    refine Disk.z_take 15 24 (v := .int .i64 c) rfl rfl (by kernel_rfl) (by kernel_rfl) (by kernel_rfl) (by kernel_rfl) (by rfl) hs (fun W' hSw => (by
      obtain ⟨s0, s1, s2, s3, s4, s5⟩ := hSw
      go_simp; first | done | with_reducible rfl)) ?_
    simp only [List.setIfInBounds_toArray, List.set_cons_zero, List.set_cons_succ]
    refine Disk.z_call 13 22 rfl rfl (by kernel_rfl) (by rfl) (f := 119) (args := #[.agg #[.slice (some ⟨g1, 0, none⟩) 3200 3200, .slice oa (obC h).length oc], .int .i64 x]) (w0 := w.drew) (by go_simp; first | done | with_reducible rfl) ?_
    refine (elementOf_any (some ⟨g1, 0, none⟩) oa 3200 3200 oc (obC h) x w.drew (K.io.later (Below.refl _ _).drew) OS OL).mono ?_
    rintro e w1 ⟨rfl, hb1⟩
    have b1 := bel_after (Below.refl _ _).drew hb1
    rw [ev]
    have K1 := K.later b1
    refine ⟨_, rfl, .inr K1, ?_⟩
    simp only [List.setIfInBounds_toArray, List.set_cons_zero, List.set_cons_succ]
    refine Disk.z_call 14 23 rfl rfl (by kernel_rfl) (by rfl) (f := 165) (args := #[.agg #[]]) (w0 := w1) (by go_simp; first | done | with_reducible rfl) ?_
    refine (noneC_any w1).mono ?_
    rintro e w2 ⟨rfl, hb2⟩
    have b2 := bel_after b1 hb2
    have K2 := K.later b2
    refine ⟨_, rfl, .inr K2, ?_⟩
    simp only [List.setIfInBounds_toArray, List.set_cons_zero, List.set_cons_succ]
    replace hs := K2
    refine Disk.z_take 16 25 (v := .bool false) rfl rfl (by kernel_rfl) (by kernel_rfl) (by kernel_rfl) (by kernel_rfl) (by rfl) hs (fun W' hSw => (by
      have cq : ((-1 : Int) == c) = false := by rw [beq_eq_false_iff_ne]; omega
      go_simp; first | done | with_reducible rfl)) ?_
    simp only [List.setIfInBounds_toArray, List.set_cons_zero, List.set_cons_succ]
    refine Disk.z_take 17 26 (v := .bool false) rfl rfl (by kernel_rfl) (by kernel_rfl) (by kernel_rfl) (by kernel_rfl) (by rfl) hs (fun W' hSw => (by
      obtain ⟨s0, s1, s2, s3, s4, s5⟩ := hSw
      go_simp; first | done | with_reducible rfl)) ?_
    simp only [List.setIfInBounds_toArray, List.set_cons_zero, List.set_cons_succ]
    refine Disk.z_pass 18 27 rfl rfl (by kernel_rfl) (by kernel_rfl) (by kernel_rfl) (by kernel_rfl) (by rfl) hs ?_
    simp only [List.setIfInBounds_toArray, List.set_cons_zero, List.set_cons_succ]
    refine Disk.z_pass 19 28 rfl rfl (by kernel_rfl) (by kernel_rfl) (by kernel_rfl) (by kernel_rfl) (by rfl) hs ?_
    simp only [List.setIfInBounds_toArray, List.set_cons_zero, List.set_cons_succ]
    refine Disk.z_pass 20 29 rfl rfl (by kernel_rfl) (by kernel_rfl) (by kernel_rfl) (by kernel_rfl) (by rfl) hs ?_
    simp only [List.setIfInBounds_toArray, List.set_cons_zero, List.set_cons_succ]
    refine Disk.z_pass 21 30 rfl rfl (by kernel_rfl) (by kernel_rfl) (by kernel_rfl) (by kernel_rfl) (by rfl) hs ?_
    simp only [List.setIfInBounds_toArray, List.set_cons_zero, List.set_cons_succ]
    refine Disk.z_pass 22 31 rfl rfl (by kernel_rfl) (by kernel_rfl) (by kernel_rfl) (by kernel_rfl) (by rfl) hs ?_
    simp only [List.setIfInBounds_toArray, List.set_cons_zero, List.set_cons_succ]
    refine Disk.z_pass 23 32 rfl rfl (by kernel_rfl) (by kernel_rfl) (by kernel_rfl) (by kernel_rfl) (by rfl) hs ?_
    simp only [List.setIfInBounds_toArray, List.set_cons_zero, List.set_cons_succ]
    refine Disk.z_take 24 33 (v := .bool false) rfl rfl (by kernel_rfl) (by kernel_rfl) (by kernel_rfl) (by kernel_rfl) (by rfl) hs (fun W' hSw => (by
      obtain ⟨s0, s1, s2, s3, s4, s5⟩ := hSw
      go_simp; first | done | with_reducible rfl)) ?_
    simp only [List.setIfInBounds_toArray, List.set_cons_zero, List.set_cons_succ]
    refine Disk.z_take 25 8 (v := .bool false) rfl rfl (by kernel_rfl) (by kernel_rfl) (by kernel_rfl) (by kernel_rfl) (by rfl) hs (fun W' hSw => (by
      obtain ⟨s0, s1, s2, s3, s4, s5⟩ := hSw
      go_simp; first | done | with_reducible rfl)) ?_
    simp only [List.setIfInBounds_toArray, List.set_cons_zero, List.set_cons_succ]
    refine Disk.z_done (by kernel_rfl) ?_ _
    go_wp2
    go_ret
    exact ⟨rfl, b2⟩
  · rw [EE] at ev
    rw [m, Bool.false_and]
    have hm := mUC
    clear RFC
    go_enter Tryz.func98, Tryz.ntmps98
    go_wp2_with fail
    refine Disk.z_plain 99 (fun W' => KM W' N g1 g2 oa oc h) (by kernel_rfl) (K.later (Below.refl _ _).drew) fun hs => ?_
    refine Disk.z_take 0 9 (v := .pointer (some ⟨N, 0, none⟩)) rfl rfl (by kernel_rfl) (by kernel_rfl) (by kernel_rfl) (by kernel_rfl) (by rfl) hs (fun W' hSw => (by
      obtain ⟨s0, s1, s2, s3, s4, s5⟩ := hSw
      go_simp; first | done | with_reducible rfl)) ?_
    simp only [List.setIfInBounds_toArray, List.set_cons_zero, List.set_cons_succ]
    refine Disk.z_take 1 10 (v := .pointer (some ⟨N, 0, none⟩)) rfl rfl (by kernel_rfl) (by kernel_rfl) (by kernel_rfl) (by kernel_rfl) (by rfl) hs (fun W' hSw => (by
      obtain ⟨s0, s1, s2, s3, s4, s5⟩ := hSw
      go_simp; first | done | with_reducible rfl)) ?_
    simp only [List.setIfInBounds_toArray, List.set_cons_zero, List.set_cons_succ]
    refine Disk.z_take 2 11 (v := .pointer (some ⟨N, 0, none⟩)) rfl rfl (by kernel_rfl) (by kernel_rfl) (by kernel_rfl) (by kernel_rfl) (by rfl) hs (fun W' hSw => (by
      obtain ⟨s0, s1, s2, s3, s4, s5⟩ := hSw
      go_simp; first | done | with_reducible rfl)) ?_
    simp only [List.setIfInBounds_toArray, List.set_cons_zero, List.set_cons_succ]
    refine Disk.z_take 3 12 (v := .pointer (some ⟨N, 0, none⟩)) rfl rfl (by kernel_rfl) (by kernel_rfl) (by kernel_rfl) (by kernel_rfl) (by rfl) hs (fun W' hSw => (by
      obtain ⟨s0, s1, s2, s3, s4, s5⟩ := hSw
      go_simp; first | done | with_reducible rfl)) ?_
    simp only [List.setIfInBounds_toArray, List.set_cons_zero, List.set_cons_succ]
    refine Disk.z_take 4 13 (v := .agg #[.slice (some ⟨g1, 0, none⟩) 3200 3200, .slice oa (obC h).length oc]) rfl rfl (by kernel_rfl) (by kernel_rfl) (by kernel_rfl) (by kernel_rfl) (by rfl) hs (fun W' hSw => (by
      obtain ⟨s0, s1, s2, s3, s4, s5⟩ := hSw
      go_simp; first | done | with_reducible rfl)) ?_
    simp only [List.setIfInBounds_toArray, List.set_cons_zero, List.set_cons_succ]
    refine Disk.z_take 5 14 (v := .pointer (some ⟨N, 0, none⟩)) rfl rfl (by kernel_rfl) (by kernel_rfl) (by kernel_rfl) (by kernel_rfl) (by rfl) hs (fun W' hSw => (by
      obtain ⟨s0, s1, s2, s3, s4, s5⟩ := hSw
      go_simp; first | done | with_reducible rfl)) ?_
    simp only [List.setIfInBounds_toArray, List.set_cons_zero, List.set_cons_succ]
    refine Disk.z_take 6 15 (v := .pointer (some ⟨N, 0, none⟩)) rfl rfl (by kernel_rfl) (by kernel_rfl) (by kernel_rfl) (by kernel_rfl) (by rfl) hs (fun W' hSw => (by
      obtain ⟨s0, s1, s2, s3, s4, s5⟩ := hSw
      go_simp; first | done | with_reducible rfl)) ?_
    simp only [List.setIfInBounds_toArray, List.set_cons_zero, List.set_cons_succ]
    refine Disk.z_take 7 16 (v := .pointer (some ⟨N, 0, none⟩)) rfl rfl (by kernel_rfl) (by kernel_rfl) (by kernel_rfl) (by kernel_rfl) (by rfl) hs (fun W' hSw => (by
      obtain ⟨s0, s1, s2, s3, s4, s5⟩ := hSw
      go_simp; first | done | with_reducible rfl)) ?_
    simp only [List.setIfInBounds_toArray, List.set_cons_zero, List.set_cons_succ]
    refine Disk.z_take 8 17 (v := .pointer (some ⟨N, 2, none⟩)) rfl rfl (by kernel_rfl) (by kernel_rfl) (by kernel_rfl) (by kernel_rfl) (by rfl) hs (fun W' hSw => (by
      obtain ⟨s0, s1, s2, s3, s4, s5⟩ := hSw
      go_simp; first | done | with_reducible rfl)) ?_
    simp only [List.setIfInBounds_toArray, List.set_cons_zero, List.set_cons_succ]
    refine Disk.z_take 9 18 (v := .slice (some ⟨g2, 0, none⟩) h.roots.length h.roots.length) rfl rfl (by kernel_rfl) (by kernel_rfl) (by kernel_rfl) (by kernel_rfl) (by rfl) hs (fun W' hSw => (by
      obtain ⟨s0, s1, s2, s3, s4, s5⟩ := hSw
      go_simp; first | done | with_reducible rfl)) ?_
    simp only [List.setIfInBounds_toArray, List.set_cons_zero, List.set_cons_succ]
    refine Disk.z_take 10 19 (v := .int .i64 k) rfl rfl (by kernel_rfl) (by kernel_rfl) (by kernel_rfl) (by kernel_rfl) (by rfl) hs (fun W' hSw => (by
      obtain ⟨s0, s1, s2, s3, s4, s5⟩ := hSw
      go_simp; first | done | with_reducible rfl)) ?_
    simp only [List.setIfInBounds_toArray, List.set_cons_zero, List.set_cons_succ]
    refine Disk.z_take 11 20 (v := .pointer (some ⟨g2, k, none⟩)) rfl rfl (by kernel_rfl) (by kernel_rfl) (by kernel_rfl) (by kernel_rfl) (by rfl) hs (fun W' hSw => (by
      obtain ⟨s0, s1, s2, s3, s4, s5⟩ := hSw
      go_simp; first | done | with_reducible rfl)) ?_
    simp only [List.setIfInBounds_toArray, List.set_cons_zero, List.set_cons_succ]
    refine Disk.z_take 12 21 (v := .int .i64 x) rfl rfl (by kernel_rfl) (by kernel_rfl) (by kernel_rfl) (by kernel_rfl) (by rfl) hs (fun W' hSw => (by
      have rc := hSw.r1 k hk2
      rw [hx] at rc
      go_simp; first | done | with_reducible rfl)) ?_
    simp only [List.setIfInBounds_toArray, List.set_cons_zero, List.set_cons_succ]
    refine Disk.z_take 15 24 (v := .int .i64 c) rfl rfl (by kernel_rfl) (by kernel_rfl) (by kernel_rfl) (by kernel_rfl) (by rfl) hs (fun W' hSw => (by
      obtain ⟨s0, s1, s2, s3, s4, s5⟩ := hSw
      go_simp; first | done | with_reducible rfl)) ?_
    simp only [List.setIfInBounds_toArray, List.set_cons_zero, List.set_cons_succ]
    refine Disk.z_call 13 22 rfl rfl (by kernel_rfl) (by rfl) (f := 119) (args := #[.agg #[.slice (some ⟨g1, 0, none⟩) 3200 3200, .slice oa (obC h).length oc], .int .i64 x]) (w0 := w.drew) (by go_simp; first | done | with_reducible rfl) ?_
    refine (elementOf_any (some ⟨g1, 0, none⟩) oa 3200 3200 oc (obC h) x w.drew (K.io.later (Below.refl _ _).drew) OS OL).mono ?_
    rintro e w1 ⟨rfl, hb1⟩
    have b1 := bel_after (Below.refl _ _).drew hb1
    rw [ev]
    have K1 := K.later b1
    refine ⟨_, rfl, .inr K1, ?_⟩
    simp only [List.setIfInBounds_toArray, List.set_cons_zero, List.set_cons_succ]
    refine Disk.z_call 14 23 rfl rfl (by kernel_rfl) (by rfl) (f := 168) (args := #[.agg #[]]) (w0 := w1) (by go_simp; first | done | with_reducible rfl) ?_
    refine (numC_any w1).mono ?_
    rintro e w2 ⟨rfl, hb2⟩
    have b2 := bel_after b1 hb2
    have K2 := K.later b2
    refine ⟨_, rfl, .inr K2, ?_⟩
    simp only [List.setIfInBounds_toArray, List.set_cons_zero, List.set_cons_succ]
    replace hs := K2
    refine Disk.z_take 16 25 (v := .bool false) rfl rfl (by kernel_rfl) (by kernel_rfl) (by kernel_rfl) (by kernel_rfl) (by rfl) hs (fun W' hSw => (by
      have cq : ((100 : Int) == c) = false := by rw [beq_eq_false_iff_ne]; omega
      go_simp; first | done | with_reducible rfl)) ?_
    simp only [List.setIfInBounds_toArray, List.set_cons_zero, List.set_cons_succ]
    refine Disk.z_take 17 26 (v := .bool false) rfl rfl (by kernel_rfl) (by kernel_rfl) (by kernel_rfl) (by kernel_rfl) (by rfl) hs (fun W' hSw => (by
      obtain ⟨s0, s1, s2, s3, s4, s5⟩ := hSw
      go_simp; first | done | with_reducible rfl)) ?_
    simp only [List.setIfInBounds_toArray, List.set_cons_zero, List.set_cons_succ]
    refine Disk.z_pass 18 27 rfl rfl (by kernel_rfl) (by kernel_rfl) (by kernel_rfl) (by kernel_rfl) (by rfl) hs ?_
    simp only [List.setIfInBounds_toArray, List.set_cons_zero, List.set_cons_succ]
    refine Disk.z_pass 19 28 rfl rfl (by kernel_rfl) (by kernel_rfl) (by kernel_rfl) (by kernel_rfl) (by rfl) hs ?_
    simp only [List.setIfInBounds_toArray, List.set_cons_zero, List.set_cons_succ]
    refine Disk.z_pass 20 29 rfl rfl (by kernel_rfl) (by kernel_rfl) (by kernel_rfl) (by kernel_rfl) (by rfl) hs ?_
    simp only [List.setIfInBounds_toArray, List.set_cons_zero, List.set_cons_succ]
    refine Disk.z_pass 21 30 rfl rfl (by kernel_rfl) (by kernel_rfl) (by kernel_rfl) (by kernel_rfl) (by rfl) hs ?_
    simp only [List.setIfInBounds_toArray, List.set_cons_zero, List.set_cons_succ]
    refine Disk.z_pass 22 31 rfl rfl (by kernel_rfl) (by kernel_rfl) (by kernel_rfl) (by kernel_rfl) (by rfl) hs ?_
    simp only [List.setIfInBounds_toArray, List.set_cons_zero, List.set_cons_succ]
    refine Disk.z_pass 23 32 rfl rfl (by kernel_rfl) (by kernel_rfl) (by kernel_rfl) (by kernel_rfl) (by rfl) hs ?_
    simp only [List.setIfInBounds_toArray, List.set_cons_zero, List.set_cons_succ]
    refine Disk.z_take 24 33 (v := .bool false) rfl rfl (by kernel_rfl) (by kernel_rfl) (by kernel_rfl) (by kernel_rfl) (by rfl) hs (fun W' hSw => (by
      obtain ⟨s0, s1, s2, s3, s4, s5⟩ := hSw
      go_simp; first | done | with_reducible rfl)) ?_
    simp only [List.setIfInBounds_toArray, List.set_cons_zero, List.set_cons_succ]
    refine Disk.z_take 25 8 (v := .bool false) rfl rfl (by kernel_rfl) (by kernel_rfl) (by kernel_rfl) (by kernel_rfl) (by rfl) hs (fun W' hSw => (by
      obtain ⟨s0, s1, s2, s3, s4, s5⟩ := hSw
      go_simp; first | done | with_reducible rfl)) ?_
    simp only [List.setIfInBounds_toArray, List.set_cons_zero, List.set_cons_succ]
    refine Disk.z_done (by kernel_rfl) ?_ _
    go_wp2
    go_ret
    exact ⟨rfl, b2⟩
  · have RG := c_right hk
    obtain ⟨q1, q2, q3⟩ := RG.1.obj ha
    have q4 := size_of q3
    rw [ea, Int.toNat_natCast] at RFC ⊢
    have OC := fun W (u : WS W g1 0 h.words) => objC_any g1 0 3200 h.words a W u RG.1.1 q1
    have FL : Hid ((flds h.words a).length = (gw h.words a).toNat) := flds_len _ _
    rw [EE] at ev
    rw [r, Bool.true_and]
    rw [r] at RFC
    generalize gw h.words (a + 1) = cl at *
    generalize (gw h.words a).toNat = nn at *
    generalize flds h.words a = ff at *
    by_cases hcl : cl = c
    · subst hcl
      rw [decide_eq_true rfl, Bool.true_and]
      rcases ev with ev | ev
      · have hm := mOC (.slice (some ⟨g1, 0, none⟩) 3200 3200) a
        go_enter Tryz.func98, Tryz.ntmps98
        go_wp2_with fail
        refine Disk.z_plain 99 (fun W' => KM W' N g1 g2 oa oc h) (by kernel_rfl) (K.later (Below.refl _ _).drew) fun hs => ?_
        refine Disk.z_take 0 9 (v := .pointer (some ⟨N, 0, none⟩)) rfl rfl (by kernel_rfl) (by kernel_rfl) (by kernel_rfl) (by kernel_rfl) (by rfl) hs (fun W' hSw => (by
          obtain ⟨s0, s1, s2, s3, s4, s5⟩ := hSw
          go_simp; first | done | with_reducible rfl)) ?_
        simp only [List.setIfInBounds_toArray, List.set_cons_zero, List.set_cons_succ]
        refine Disk.z_take 1 10 (v := .pointer (some ⟨N, 0, none⟩)) rfl rfl (by kernel_rfl) (by kernel_rfl) (by kernel_rfl) (by kernel_rfl) (by rfl) hs (fun W' hSw => (by
          obtain ⟨s0, s1, s2, s3, s4, s5⟩ := hSw
          go_simp; first | done | with_reducible rfl)) ?_
        simp only [List.setIfInBounds_toArray, List.set_cons_zero, List.set_cons_succ]
        refine Disk.z_take 2 11 (v := .pointer (some ⟨N, 0, none⟩)) rfl rfl (by kernel_rfl) (by kernel_rfl) (by kernel_rfl) (by kernel_rfl) (by rfl) hs (fun W' hSw => (by
          obtain ⟨s0, s1, s2, s3, s4, s5⟩ := hSw
          go_simp; first | done | with_reducible rfl)) ?_
        simp only [List.setIfInBounds_toArray, List.set_cons_zero, List.set_cons_succ]
        refine Disk.z_take 3 12 (v := .pointer (some ⟨N, 0, none⟩)) rfl rfl (by kernel_rfl) (by kernel_rfl) (by kernel_rfl) (by kernel_rfl) (by rfl) hs (fun W' hSw => (by
          obtain ⟨s0, s1, s2, s3, s4, s5⟩ := hSw
          go_simp; first | done | with_reducible rfl)) ?_
        simp only [List.setIfInBounds_toArray, List.set_cons_zero, List.set_cons_succ]
        refine Disk.z_take 4 13 (v := .agg #[.slice (some ⟨g1, 0, none⟩) 3200 3200, .slice oa (obC h).length oc]) rfl rfl (by kernel_rfl) (by kernel_rfl) (by kernel_rfl) (by kernel_rfl) (by rfl) hs (fun W' hSw => (by
          obtain ⟨s0, s1, s2, s3, s4, s5⟩ := hSw
          go_simp; first | done | with_reducible rfl)) ?_
        simp only [List.setIfInBounds_toArray, List.set_cons_zero, List.set_cons_succ]
        refine Disk.z_take 5 14 (v := .pointer (some ⟨N, 0, none⟩)) rfl rfl (by kernel_rfl) (by kernel_rfl) (by kernel_rfl) (by kernel_rfl) (by rfl) hs (fun W' hSw => (by
          obtain ⟨s0, s1, s2, s3, s4, s5⟩ := hSw
          go_simp; first | done | with_reducible rfl)) ?_
        simp only [List.setIfInBounds_toArray, List.set_cons_zero, List.set_cons_succ]
        refine Disk.z_take 6 15 (v := .pointer (some ⟨N, 0, none⟩)) rfl rfl (by kernel_rfl) (by kernel_rfl) (by kernel_rfl) (by kernel_rfl) (by rfl) hs (fun W' hSw => (by
          obtain ⟨s0, s1, s2, s3, s4, s5⟩ := hSw
          go_simp; first | done | with_reducible rfl)) ?_
        simp only [List.setIfInBounds_toArray, List.set_cons_zero, List.set_cons_succ]
        refine Disk.z_take 7 16 (v := .pointer (some ⟨N, 0, none⟩)) rfl rfl (by kernel_rfl) (by kernel_rfl) (by kernel_rfl) (by kernel_rfl) (by rfl) hs (fun W' hSw => (by
          obtain ⟨s0, s1, s2, s3, s4, s5⟩ := hSw
          go_simp; first | done | with_reducible rfl)) ?_
        simp only [List.setIfInBounds_toArray, List.set_cons_zero, List.set_cons_succ]
        refine Disk.z_take 8 17 (v := .pointer (some ⟨N, 2, none⟩)) rfl rfl (by kernel_rfl) (by kernel_rfl) (by kernel_rfl) (by kernel_rfl) (by rfl) hs (fun W' hSw => (by
          obtain ⟨s0, s1, s2, s3, s4, s5⟩ := hSw
          go_simp; first | done | with_reducible rfl)) ?_
        simp only [List.setIfInBounds_toArray, List.set_cons_zero, List.set_cons_succ]
        refine Disk.z_take 9 18 (v := .slice (some ⟨g2, 0, none⟩) h.roots.length h.roots.length) rfl rfl (by kernel_rfl) (by kernel_rfl) (by kernel_rfl) (by kernel_rfl) (by rfl) hs (fun W' hSw => (by
          obtain ⟨s0, s1, s2, s3, s4, s5⟩ := hSw
          go_simp; first | done | with_reducible rfl)) ?_
        simp only [List.setIfInBounds_toArray, List.set_cons_zero, List.set_cons_succ]
        refine Disk.z_take 10 19 (v := .int .i64 k) rfl rfl (by kernel_rfl) (by kernel_rfl) (by kernel_rfl) (by kernel_rfl) (by rfl) hs (fun W' hSw => (by
          obtain ⟨s0, s1, s2, s3, s4, s5⟩ := hSw
          go_simp; first | done | with_reducible rfl)) ?_
        simp only [List.setIfInBounds_toArray, List.set_cons_zero, List.set_cons_succ]
        refine Disk.z_take 11 20 (v := .pointer (some ⟨g2, k, none⟩)) rfl rfl (by kernel_rfl) (by kernel_rfl) (by kernel_rfl) (by kernel_rfl) (by rfl) hs (fun W' hSw => (by
          obtain ⟨s0, s1, s2, s3, s4, s5⟩ := hSw
          go_simp; first | done | with_reducible rfl)) ?_
        simp only [List.setIfInBounds_toArray, List.set_cons_zero, List.set_cons_succ]
        refine Disk.z_take 12 21 (v := .int .i64 x) rfl rfl (by kernel_rfl) (by kernel_rfl) (by kernel_rfl) (by kernel_rfl) (by rfl) hs (fun W' hSw => (by
          have rc := hSw.r1 k hk2
          rw [hx] at rc
          go_simp; first | done | with_reducible rfl)) ?_
        simp only [List.setIfInBounds_toArray, List.set_cons_zero, List.set_cons_succ]
        refine Disk.z_take 15 24 (v := .int .i64 cl) rfl rfl (by kernel_rfl) (by kernel_rfl) (by kernel_rfl) (by kernel_rfl) (by rfl) hs (fun W' hSw => (by
          obtain ⟨s0, s1, s2, s3, s4, s5⟩ := hSw
          go_simp; first | done | with_reducible rfl)) ?_
        simp only [List.setIfInBounds_toArray, List.set_cons_zero, List.set_cons_succ]
        refine Disk.z_call 13 22 rfl rfl (by kernel_rfl) (by rfl) (f := 119) (args := #[.agg #[.slice (some ⟨g1, 0, none⟩) 3200 3200, .slice oa (obC h).length oc], .int .i64 x]) (w0 := w.drew) (by go_simp; first | done | with_reducible rfl) ?_
        refine (elementOf_any (some ⟨g1, 0, none⟩) oa 3200 3200 oc (obC h) x w.drew (K.io.later (Below.refl _ _).drew) OS OL).mono ?_
        rintro e w1 ⟨rfl, hb1⟩
        have b1 := bel_after (Below.refl _ _).drew hb1
        rw [ev]
        have K1 := K.later b1
        refine ⟨_, rfl, .inr K1, ?_⟩
        simp only [List.setIfInBounds_toArray, List.set_cons_zero, List.set_cons_succ]
        refine Disk.z_call 14 23 rfl rfl (by kernel_rfl) (by rfl) (f := 171) (args := #[.agg #[.slice (some ⟨g1, 0, none⟩) 3200 3200, .int .i64 a]]) (w0 := w1) (by go_simp; first | done | with_reducible rfl) ?_
        refine (OC w1 K1.ws).mono ?_
        rintro e w2 ⟨rfl, hb2⟩
        have b2 := bel_after b1 hb2
        have K2 := K.later b2
        refine ⟨_, rfl, .inr K2, ?_⟩
        simp only [List.setIfInBounds_toArray, List.set_cons_zero, List.set_cons_succ]
        replace hs := K2
        refine Disk.z_take 16 25 (v := .bool true) rfl rfl (by kernel_rfl) (by kernel_rfl) (by kernel_rfl) (by kernel_rfl) (by rfl) hs (fun W' hSw => (by
          have cq : (cl == cl) = true := beq_self_eq_true cl
          go_simp; first | done | with_reducible rfl)) ?_
        simp only [List.setIfInBounds_toArray, List.set_cons_zero, List.set_cons_succ]
        refine Disk.z_take 17 26 (v := .bool true) rfl rfl (by kernel_rfl) (by kernel_rfl) (by kernel_rfl) (by kernel_rfl) (by rfl) hs (fun W' hSw => (by
          obtain ⟨s0, s1, s2, s3, s4, s5⟩ := hSw
          go_simp; first | done | with_reducible rfl)) ?_
        simp only [List.setIfInBounds_toArray, List.set_cons_zero, List.set_cons_succ]
        refine Disk.z_take 18 27 (v := .pointer (some ⟨N, 0, none⟩)) rfl rfl (by kernel_rfl) (by kernel_rfl) (by kernel_rfl) (by kernel_rfl) (by rfl) hs (fun W' hSw => (by
          obtain ⟨s0, s1, s2, s3, s4, s5⟩ := hSw
          go_simp; first | done | with_reducible rfl)) ?_
        simp only [List.setIfInBounds_toArray, List.set_cons_zero, List.set_cons_succ]
        refine Disk.z_take 19 28 (v := .int .i64 k) rfl rfl (by kernel_rfl) (by kernel_rfl) (by kernel_rfl) (by kernel_rfl) (by rfl) hs (fun W' hSw => (by
          obtain ⟨s0, s1, s2, s3, s4, s5⟩ := hSw
          go_simp; first | done | with_reducible rfl)) ?_
        simp only [List.setIfInBounds_toArray, List.set_cons_zero, List.set_cons_succ]
        refine Disk.z_take 22 31 (v := .int .i64 n) rfl rfl (by kernel_rfl) (by kernel_rfl) (by kernel_rfl) (by kernel_rfl) (by rfl) hs (fun W' hSw => (by
          obtain ⟨s0, s1, s2, s3, s4, s5⟩ := hSw
          go_simp; first | done | with_reducible rfl)) ?_
        simp only [List.setIfInBounds_toArray, List.set_cons_zero, List.set_cons_succ]
        refine Disk.z_call 20 29 rfl rfl (by kernel_rfl) (by rfl) (f := 100) (args := #[.pointer (some ⟨N, 0, none⟩), .int .i64 k]) (w0 := w2) (by go_simp; first | done | with_reducible rfl) ?_
        refine (RFC w2 K2).mono ?_
        rintro e w3 ⟨⟨v, rfl, hv⟩, hb3⟩
        obtain ⟨va, vc, rfl, vl⟩ := IRs (hv (by simp))
        rw [FL.out]
        have b3 := bel_after b2 hb3
        have K3 := K.later b3
        refine ⟨_, rfl, .inr K3, ?_⟩
        simp only [List.setIfInBounds_toArray, List.set_cons_zero, List.set_cons_succ]
        replace hs := K3
        refine Disk.z_take 21 30 (v := .int .i64 nn) rfl rfl (by kernel_rfl) (by kernel_rfl) (by kernel_rfl) (by kernel_rfl) (by rfl) hs (fun W' hSw => (by
          obtain ⟨s0, s1, s2, s3, s4, s5⟩ := hSw
          go_simp; first | done | with_reducible rfl)) ?_
        simp only [List.setIfInBounds_toArray, List.set_cons_zero, List.set_cons_succ]
        refine Disk.z_take 23 32 (v := .bool (decide (nn = n))) rfl rfl (by kernel_rfl) (by kernel_rfl) (by kernel_rfl) (by kernel_rfl) (by rfl) hs (fun W' hSw => (by
          have cq : ((nn : Int) == (n : Int)) = decide (nn = n) := by
            by_cases e : nn = n
            · subst e; simp
            · rw [decide_eq_false e, beq_eq_false_iff_ne]; omega
          go_simp; first | done | with_reducible rfl)) ?_
        simp only [List.setIfInBounds_toArray, List.set_cons_zero, List.set_cons_succ]
        refine Disk.z_take 24 33 (v := .bool (decide (nn = n))) rfl rfl (by kernel_rfl) (by kernel_rfl) (by kernel_rfl) (by kernel_rfl) (by rfl) hs (fun W' hSw => (by
          obtain ⟨s0, s1, s2, s3, s4, s5⟩ := hSw
          go_simp; first | done | with_reducible rfl)) ?_
        simp only [List.setIfInBounds_toArray, List.set_cons_zero, List.set_cons_succ]
        refine Disk.z_take 25 8 (v := .bool (decide (nn = n))) rfl rfl (by kernel_rfl) (by kernel_rfl) (by kernel_rfl) (by kernel_rfl) (by rfl) hs (fun W' hSw => (by
          obtain ⟨s0, s1, s2, s3, s4, s5⟩ := hSw
          go_simp; first | done | with_reducible rfl)) ?_
        simp only [List.setIfInBounds_toArray, List.set_cons_zero, List.set_cons_succ]
        refine Disk.z_done (by kernel_rfl) ?_ _
        go_wp2
        go_ret
        exact ⟨rfl, b3⟩
      · have hm := mYC (.slice (some ⟨g1, 0, none⟩) 3200 3200) a
        go_enter Tryz.func98, Tryz.ntmps98
        go_wp2_with fail
        refine Disk.z_plain 99 (fun W' => KM W' N g1 g2 oa oc h) (by kernel_rfl) (K.later (Below.refl _ _).drew) fun hs => ?_
        refine Disk.z_take 0 9 (v := .pointer (some ⟨N, 0, none⟩)) rfl rfl (by kernel_rfl) (by kernel_rfl) (by kernel_rfl) (by kernel_rfl) (by rfl) hs (fun W' hSw => (by
          obtain ⟨s0, s1, s2, s3, s4, s5⟩ := hSw
          go_simp; first | done | with_reducible rfl)) ?_
        simp only [List.setIfInBounds_toArray, List.set_cons_zero, List.set_cons_succ]
        refine Disk.z_take 1 10 (v := .pointer (some ⟨N, 0, none⟩)) rfl rfl (by kernel_rfl) (by kernel_rfl) (by kernel_rfl) (by kernel_rfl) (by rfl) hs (fun W' hSw => (by
          obtain ⟨s0, s1, s2, s3, s4, s5⟩ := hSw
          go_simp; first | done | with_reducible rfl)) ?_
        simp only [List.setIfInBounds_toArray, List.set_cons_zero, List.set_cons_succ]
        refine Disk.z_take 2 11 (v := .pointer (some ⟨N, 0, none⟩)) rfl rfl (by kernel_rfl) (by kernel_rfl) (by kernel_rfl) (by kernel_rfl) (by rfl) hs (fun W' hSw => (by
          obtain ⟨s0, s1, s2, s3, s4, s5⟩ := hSw
          go_simp; first | done | with_reducible rfl)) ?_
        simp only [List.setIfInBounds_toArray, List.set_cons_zero, List.set_cons_succ]
        refine Disk.z_take 3 12 (v := .pointer (some ⟨N, 0, none⟩)) rfl rfl (by kernel_rfl) (by kernel_rfl) (by kernel_rfl) (by kernel_rfl) (by rfl) hs (fun W' hSw => (by
          obtain ⟨s0, s1, s2, s3, s4, s5⟩ := hSw
          go_simp; first | done | with_reducible rfl)) ?_
        simp only [List.setIfInBounds_toArray, List.set_cons_zero, List.set_cons_succ]
        refine Disk.z_take 4 13 (v := .agg #[.slice (some ⟨g1, 0, none⟩) 3200 3200, .slice oa (obC h).length oc]) rfl rfl (by kernel_rfl) (by kernel_rfl) (by kernel_rfl) (by kernel_rfl) (by rfl) hs (fun W' hSw => (by
          obtain ⟨s0, s1, s2, s3, s4, s5⟩ := hSw
          go_simp; first | done | with_reducible rfl)) ?_
        simp only [List.setIfInBounds_toArray, List.set_cons_zero, List.set_cons_succ]
        refine Disk.z_take 5 14 (v := .pointer (some ⟨N, 0, none⟩)) rfl rfl (by kernel_rfl) (by kernel_rfl) (by kernel_rfl) (by kernel_rfl) (by rfl) hs (fun W' hSw => (by
          obtain ⟨s0, s1, s2, s3, s4, s5⟩ := hSw
          go_simp; first | done | with_reducible rfl)) ?_
        simp only [List.setIfInBounds_toArray, List.set_cons_zero, List.set_cons_succ]
        refine Disk.z_take 6 15 (v := .pointer (some ⟨N, 0, none⟩)) rfl rfl (by kernel_rfl) (by kernel_rfl) (by kernel_rfl) (by kernel_rfl) (by rfl) hs (fun W' hSw => (by
          obtain ⟨s0, s1, s2, s3, s4, s5⟩ := hSw
          go_simp; first | done | with_reducible rfl)) ?_
        simp only [List.setIfInBounds_toArray, List.set_cons_zero, List.set_cons_succ]
        refine Disk.z_take 7 16 (v := .pointer (some ⟨N, 0, none⟩)) rfl rfl (by kernel_rfl) (by kernel_rfl) (by kernel_rfl) (by kernel_rfl) (by rfl) hs (fun W' hSw => (by
          obtain ⟨s0, s1, s2, s3, s4, s5⟩ := hSw
          go_simp; first | done | with_reducible rfl)) ?_
        simp only [List.setIfInBounds_toArray, List.set_cons_zero, List.set_cons_succ]
        refine Disk.z_take 8 17 (v := .pointer (some ⟨N, 2, none⟩)) rfl rfl (by kernel_rfl) (by kernel_rfl) (by kernel_rfl) (by kernel_rfl) (by rfl) hs (fun W' hSw => (by
          obtain ⟨s0, s1, s2, s3, s4, s5⟩ := hSw
          go_simp; first | done | with_reducible rfl)) ?_
        simp only [List.setIfInBounds_toArray, List.set_cons_zero, List.set_cons_succ]
        refine Disk.z_take 9 18 (v := .slice (some ⟨g2, 0, none⟩) h.roots.length h.roots.length) rfl rfl (by kernel_rfl) (by kernel_rfl) (by kernel_rfl) (by kernel_rfl) (by rfl) hs (fun W' hSw => (by
          obtain ⟨s0, s1, s2, s3, s4, s5⟩ := hSw
          go_simp; first | done | with_reducible rfl)) ?_
        simp only [List.setIfInBounds_toArray, List.set_cons_zero, List.set_cons_succ]
        refine Disk.z_take 10 19 (v := .int .i64 k) rfl rfl (by kernel_rfl) (by kernel_rfl) (by kernel_rfl) (by kernel_rfl) (by rfl) hs (fun W' hSw => (by
          obtain ⟨s0, s1, s2, s3, s4, s5⟩ := hSw
          go_simp; first | done | with_reducible rfl)) ?_
        simp only [List.setIfInBounds_toArray, List.set_cons_zero, List.set_cons_succ]
        refine Disk.z_take 11 20 (v := .pointer (some ⟨g2, k, none⟩)) rfl rfl (by kernel_rfl) (by kernel_rfl) (by kernel_rfl) (by kernel_rfl) (by rfl) hs (fun W' hSw => (by
          obtain ⟨s0, s1, s2, s3, s4, s5⟩ := hSw
          go_simp; first | done | with_reducible rfl)) ?_
        simp only [List.setIfInBounds_toArray, List.set_cons_zero, List.set_cons_succ]
        refine Disk.z_take 12 21 (v := .int .i64 x) rfl rfl (by kernel_rfl) (by kernel_rfl) (by kernel_rfl) (by kernel_rfl) (by rfl) hs (fun W' hSw => (by
          have rc := hSw.r1 k hk2
          rw [hx] at rc
          go_simp; first | done | with_reducible rfl)) ?_
        simp only [List.setIfInBounds_toArray, List.set_cons_zero, List.set_cons_succ]
        refine Disk.z_take 15 24 (v := .int .i64 cl) rfl rfl (by kernel_rfl) (by kernel_rfl) (by kernel_rfl) (by kernel_rfl) (by rfl) hs (fun W' hSw => (by
          obtain ⟨s0, s1, s2, s3, s4, s5⟩ := hSw
          go_simp; first | done | with_reducible rfl)) ?_
        simp only [List.setIfInBounds_toArray, List.set_cons_zero, List.set_cons_succ]
        refine Disk.z_call 13 22 rfl rfl (by kernel_rfl) (by rfl) (f := 119) (args := #[.agg #[.slice (some ⟨g1, 0, none⟩) 3200 3200, .slice oa (obC h).length oc], .int .i64 x]) (w0 := w.drew) (by go_simp; first | done | with_reducible rfl) ?_
        refine (elementOf_any (some ⟨g1, 0, none⟩) oa 3200 3200 oc (obC h) x w.drew (K.io.later (Below.refl _ _).drew) OS OL).mono ?_
        rintro e w1 ⟨rfl, hb1⟩
        have b1 := bel_after (Below.refl _ _).drew hb1
        rw [ev]
        have K1 := K.later b1
        refine ⟨_, rfl, .inr K1, ?_⟩
        simp only [List.setIfInBounds_toArray, List.set_cons_zero, List.set_cons_succ]
        refine Disk.z_call 14 23 rfl rfl (by kernel_rfl) (by rfl) (f := 171) (args := #[.agg #[.slice (some ⟨g1, 0, none⟩) 3200 3200, .int .i64 a]]) (w0 := w1) (by go_simp; first | done | with_reducible rfl) ?_
        refine (OC w1 K1.ws).mono ?_
        rintro e w2 ⟨rfl, hb2⟩
        have b2 := bel_after b1 hb2
        have K2 := K.later b2
        refine ⟨_, rfl, .inr K2, ?_⟩
        simp only [List.setIfInBounds_toArray, List.set_cons_zero, List.set_cons_succ]
        replace hs := K2
        refine Disk.z_take 16 25 (v := .bool true) rfl rfl (by kernel_rfl) (by kernel_rfl) (by kernel_rfl) (by kernel_rfl) (by rfl) hs (fun W' hSw => (by
          have cq : (cl == cl) = true := beq_self_eq_true cl
          go_simp; first | done | with_reducible rfl)) ?_
        simp only [List.setIfInBounds_toArray, List.set_cons_zero, List.set_cons_succ]
        refine Disk.z_take 17 26 (v := .bool true) rfl rfl (by kernel_rfl) (by kernel_rfl) (by kernel_rfl) (by kernel_rfl) (by rfl) hs (fun W' hSw => (by
          obtain ⟨s0, s1, s2, s3, s4, s5⟩ := hSw
          go_simp; first | done | with_reducible rfl)) ?_
        simp only [List.setIfInBounds_toArray, List.set_cons_zero, List.set_cons_succ]
        refine Disk.z_take 18 27 (v := .pointer (some ⟨N, 0, none⟩)) rfl rfl (by kernel_rfl) (by kernel_rfl) (by kernel_rfl) (by kernel_rfl) (by rfl) hs (fun W' hSw => (by
          obtain ⟨s0, s1, s2, s3, s4, s5⟩ := hSw
          go_simp; first | done | with_reducible rfl)) ?_
        simp only [List.setIfInBounds_toArray, List.set_cons_zero, List.set_cons_succ]
        refine Disk.z_take 19 28 (v := .int .i64 k) rfl rfl (by kernel_rfl) (by kernel_rfl) (by kernel_rfl) (by kernel_rfl) (by rfl) hs (fun W' hSw => (by
          obtain ⟨s0, s1, s2, s3, s4, s5⟩ := hSw
          go_simp; first | done | with_reducible rfl)) ?_
        simp only [List.setIfInBounds_toArray, List.set_cons_zero, List.set_cons_succ]
        refine Disk.z_take 22 31 (v := .int .i64 n) rfl rfl (by kernel_rfl) (by kernel_rfl) (by kernel_rfl) (by kernel_rfl) (by rfl) hs (fun W' hSw => (by
          obtain ⟨s0, s1, s2, s3, s4, s5⟩ := hSw
          go_simp; first | done | with_reducible rfl)) ?_
        simp only [List.setIfInBounds_toArray, List.set_cons_zero, List.set_cons_succ]
        refine Disk.z_call 20 29 rfl rfl (by kernel_rfl) (by rfl) (f := 100) (args := #[.pointer (some ⟨N, 0, none⟩), .int .i64 k]) (w0 := w2) (by go_simp; first | done | with_reducible rfl) ?_
        refine (RFC w2 K2).mono ?_
        rintro e w3 ⟨⟨v, rfl, hv⟩, hb3⟩
        obtain ⟨va, vc, rfl, vl⟩ := IRs (hv (by simp))
        rw [FL.out]
        have b3 := bel_after b2 hb3
        have K3 := K.later b3
        refine ⟨_, rfl, .inr K3, ?_⟩
        simp only [List.setIfInBounds_toArray, List.set_cons_zero, List.set_cons_succ]
        replace hs := K3
        refine Disk.z_take 21 30 (v := .int .i64 nn) rfl rfl (by kernel_rfl) (by kernel_rfl) (by kernel_rfl) (by kernel_rfl) (by rfl) hs (fun W' hSw => (by
          obtain ⟨s0, s1, s2, s3, s4, s5⟩ := hSw
          go_simp; first | done | with_reducible rfl)) ?_
        simp only [List.setIfInBounds_toArray, List.set_cons_zero, List.set_cons_succ]
        refine Disk.z_take 23 32 (v := .bool (decide (nn = n))) rfl rfl (by kernel_rfl) (by kernel_rfl) (by kernel_rfl) (by kernel_rfl) (by rfl) hs (fun W' hSw => (by
          have cq : ((nn : Int) == (n : Int)) = decide (nn = n) := by
            by_cases e : nn = n
            · subst e; simp
            · rw [decide_eq_false e, beq_eq_false_iff_ne]; omega
          go_simp; first | done | with_reducible rfl)) ?_
        simp only [List.setIfInBounds_toArray, List.set_cons_zero, List.set_cons_succ]
        refine Disk.z_take 24 33 (v := .bool (decide (nn = n))) rfl rfl (by kernel_rfl) (by kernel_rfl) (by kernel_rfl) (by kernel_rfl) (by rfl) hs (fun W' hSw => (by
          obtain ⟨s0, s1, s2, s3, s4, s5⟩ := hSw
          go_simp; first | done | with_reducible rfl)) ?_
        simp only [List.setIfInBounds_toArray, List.set_cons_zero, List.set_cons_succ]
        refine Disk.z_take 25 8 (v := .bool (decide (nn = n))) rfl rfl (by kernel_rfl) (by kernel_rfl) (by kernel_rfl) (by kernel_rfl) (by rfl) hs (fun W' hSw => (by
          obtain ⟨s0, s1, s2, s3, s4, s5⟩ := hSw
          go_simp; first | done | with_reducible rfl)) ?_
        simp only [List.setIfInBounds_toArray, List.set_cons_zero, List.set_cons_succ]
        refine Disk.z_done (by kernel_rfl) ?_ _
        go_wp2
        go_ret
        exact ⟨rfl, b3⟩
    · rw [decide_eq_false hcl, Bool.false_and]
      clear RFC
      rcases ev with ev | ev
      · have hm := mOC (.slice (some ⟨g1, 0, none⟩) 3200 3200) a
        go_enter Tryz.func98, Tryz.ntmps98
        go_wp2_with fail
        refine Disk.z_plain 99 (fun W' => KM W' N g1 g2 oa oc h) (by kernel_rfl) (K.later (Below.refl _ _).drew) fun hs => ?_
        refine Disk.z_take 0 9 (v := .pointer (some ⟨N, 0, none⟩)) rfl rfl (by kernel_rfl) (by kernel_rfl) (by kernel_rfl) (by kernel_rfl) (by rfl) hs (fun W' hSw => (by
          obtain ⟨s0, s1, s2, s3, s4, s5⟩ := hSw
          go_simp; first | done | with_reducible rfl)) ?_
        simp only [List.setIfInBounds_toArray, List.set_cons_zero, List.set_cons_succ]
        refine Disk.z_take 1 10 (v := .pointer (some ⟨N, 0, none⟩)) rfl rfl (by kernel_rfl) (by kernel_rfl) (by kernel_rfl) (by kernel_rfl) (by rfl) hs (fun W' hSw => (by
          obtain ⟨s0, s1, s2, s3, s4, s5⟩ := hSw
          go_simp; first | done | with_reducible rfl)) ?_
        simp only [List.setIfInBounds_toArray, List.set_cons_zero, List.set_cons_succ]
        refine Disk.z_take 2 11 (v := .pointer (some ⟨N, 0, none⟩)) rfl rfl (by kernel_rfl) (by kernel_rfl) (by kernel_rfl) (by kernel_rfl) (by rfl) hs (fun W' hSw => (by
          obtain ⟨s0, s1, s2, s3, s4, s5⟩ := hSw
          go_simp; first | done | with_reducible rfl)) ?_
        simp only [List.setIfInBounds_toArray, List.set_cons_zero, List.set_cons_succ]
        refine Disk.z_take 3 12 (v := .pointer (some ⟨N, 0, none⟩)) rfl rfl (by kernel_rfl) (by kernel_rfl) (by kernel_rfl) (by kernel_rfl) (by rfl) hs (fun W' hSw => (by
          obtain ⟨s0, s1, s2, s3, s4, s5⟩ := hSw
          go_simp; first | done | with_reducible rfl)) ?_
        simp only [List.setIfInBounds_toArray, List.set_cons_zero, List.set_cons_succ]
        refine Disk.z_take 4 13 (v := .agg #[.slice (some ⟨g1, 0, none⟩) 3200 3200, .slice oa (obC h).length oc]) rfl rfl (by kernel_rfl) (by kernel_rfl) (by kernel_rfl) (by kernel_rfl) (by rfl) hs (fun W' hSw => (by
          obtain ⟨s0, s1, s2, s3, s4, s5⟩ := hSw
          go_simp; first | done | with_reducible rfl)) ?_
        simp only [List.setIfInBounds_toArray, List.set_cons_zero, List.set_cons_succ]
        refine Disk.z_take 5 14 (v := .pointer (some ⟨N, 0, none⟩)) rfl rfl (by kernel_rfl) (by kernel_rfl) (by kernel_rfl) (by kernel_rfl) (by rfl) hs (fun W' hSw => (by
          obtain ⟨s0, s1, s2, s3, s4, s5⟩ := hSw
          go_simp; first | done | with_reducible rfl)) ?_
        simp only [List.setIfInBounds_toArray, List.set_cons_zero, List.set_cons_succ]
        refine Disk.z_take 6 15 (v := .pointer (some ⟨N, 0, none⟩)) rfl rfl (by kernel_rfl) (by kernel_rfl) (by kernel_rfl) (by kernel_rfl) (by rfl) hs (fun W' hSw => (by
          obtain ⟨s0, s1, s2, s3, s4, s5⟩ := hSw
          go_simp; first | done | with_reducible rfl)) ?_
        simp only [List.setIfInBounds_toArray, List.set_cons_zero, List.set_cons_succ]
        refine Disk.z_take 7 16 (v := .pointer (some ⟨N, 0, none⟩)) rfl rfl (by kernel_rfl) (by kernel_rfl) (by kernel_rfl) (by kernel_rfl) (by rfl) hs (fun W' hSw => (by
          obtain ⟨s0, s1, s2, s3, s4, s5⟩ := hSw
          go_simp; first | done | with_reducible rfl)) ?_
        simp only [List.setIfInBounds_toArray, List.set_cons_zero, List.set_cons_succ]
        refine Disk.z_take 8 17 (v := .pointer (some ⟨N, 2, none⟩)) rfl rfl (by kernel_rfl) (by kernel_rfl) (by kernel_rfl) (by kernel_rfl) (by rfl) hs (fun W' hSw => (by
          obtain ⟨s0, s1, s2, s3, s4, s5⟩ := hSw
          go_simp; first | done | with_reducible rfl)) ?_
        simp only [List.setIfInBounds_toArray, List.set_cons_zero, List.set_cons_succ]
        refine Disk.z_take 9 18 (v := .slice (some ⟨g2, 0, none⟩) h.roots.length h.roots.length) rfl rfl (by kernel_rfl) (by kernel_rfl) (by kernel_rfl) (by kernel_rfl) (by rfl) hs (fun W' hSw => (by
          obtain ⟨s0, s1, s2, s3, s4, s5⟩ := hSw
          go_simp; first | done | with_reducible rfl)) ?_
        simp only [List.setIfInBounds_toArray, List.set_cons_zero, List.set_cons_succ]
        refine Disk.z_take 10 19 (v := .int .i64 k) rfl rfl (by kernel_rfl) (by kernel_rfl) (by kernel_rfl) (by kernel_rfl) (by rfl) hs (fun W' hSw => (by
          obtain ⟨s0, s1, s2, s3, s4, s5⟩ := hSw
          go_simp; first | done | with_reducible rfl)) ?_
        simp only [List.setIfInBounds_toArray, List.set_cons_zero, List.set_cons_succ]
        refine Disk.z_take 11 20 (v := .pointer (some ⟨g2, k, none⟩)) rfl rfl (by kernel_rfl) (by kernel_rfl) (by kernel_rfl) (by kernel_rfl) (by rfl) hs (fun W' hSw => (by
          obtain ⟨s0, s1, s2, s3, s4, s5⟩ := hSw
          go_simp; first | done | with_reducible rfl)) ?_
        simp only [List.setIfInBounds_toArray, List.set_cons_zero, List.set_cons_succ]
        refine Disk.z_take 12 21 (v := .int .i64 x) rfl rfl (by kernel_rfl) (by kernel_rfl) (by kernel_rfl) (by kernel_rfl) (by rfl) hs (fun W' hSw => (by
          have rc := hSw.r1 k hk2
          rw [hx] at rc
          go_simp; first | done | with_reducible rfl)) ?_
        simp only [List.setIfInBounds_toArray, List.set_cons_zero, List.set_cons_succ]
        refine Disk.z_take 15 24 (v := .int .i64 c) rfl rfl (by kernel_rfl) (by kernel_rfl) (by kernel_rfl) (by kernel_rfl) (by rfl) hs (fun W' hSw => (by
          obtain ⟨s0, s1, s2, s3, s4, s5⟩ := hSw
          go_simp; first | done | with_reducible rfl)) ?_
        simp only [List.setIfInBounds_toArray, List.set_cons_zero, List.set_cons_succ]
        refine Disk.z_call 13 22 rfl rfl (by kernel_rfl) (by rfl) (f := 119) (args := #[.agg #[.slice (some ⟨g1, 0, none⟩) 3200 3200, .slice oa (obC h).length oc], .int .i64 x]) (w0 := w.drew) (by go_simp; first | done | with_reducible rfl) ?_
        refine (elementOf_any (some ⟨g1, 0, none⟩) oa 3200 3200 oc (obC h) x w.drew (K.io.later (Below.refl _ _).drew) OS OL).mono ?_
        rintro e w1 ⟨rfl, hb1⟩
        have b1 := bel_after (Below.refl _ _).drew hb1
        rw [ev]
        have K1 := K.later b1
        refine ⟨_, rfl, .inr K1, ?_⟩
        simp only [List.setIfInBounds_toArray, List.set_cons_zero, List.set_cons_succ]
        refine Disk.z_call 14 23 rfl rfl (by kernel_rfl) (by rfl) (f := 171) (args := #[.agg #[.slice (some ⟨g1, 0, none⟩) 3200 3200, .int .i64 a]]) (w0 := w1) (by go_simp; first | done | with_reducible rfl) ?_
        refine (OC w1 K1.ws).mono ?_
        rintro e w2 ⟨rfl, hb2⟩
        have b2 := bel_after b1 hb2
        have K2 := K.later b2
        refine ⟨_, rfl, .inr K2, ?_⟩
        simp only [List.setIfInBounds_toArray, List.set_cons_zero, List.set_cons_succ]
        replace hs := K2
        refine Disk.z_take 16 25 (v := .bool false) rfl rfl (by kernel_rfl) (by kernel_rfl) (by kernel_rfl) (by kernel_rfl) (by rfl) hs (fun W' hSw => (by
          have cq : (cl == c) = false := by rw [beq_eq_false_iff_ne]; exact hcl
          go_simp; first | done | with_reducible rfl)) ?_
        simp only [List.setIfInBounds_toArray, List.set_cons_zero, List.set_cons_succ]
        refine Disk.z_take 17 26 (v := .bool false) rfl rfl (by kernel_rfl) (by kernel_rfl) (by kernel_rfl) (by kernel_rfl) (by rfl) hs (fun W' hSw => (by
          obtain ⟨s0, s1, s2, s3, s4, s5⟩ := hSw
          go_simp; first | done | with_reducible rfl)) ?_
        simp only [List.setIfInBounds_toArray, List.set_cons_zero, List.set_cons_succ]
        refine Disk.z_pass 18 27 rfl rfl (by kernel_rfl) (by kernel_rfl) (by kernel_rfl) (by kernel_rfl) (by rfl) hs ?_
        simp only [List.setIfInBounds_toArray, List.set_cons_zero, List.set_cons_succ]
        refine Disk.z_pass 19 28 rfl rfl (by kernel_rfl) (by kernel_rfl) (by kernel_rfl) (by kernel_rfl) (by rfl) hs ?_
        simp only [List.setIfInBounds_toArray, List.set_cons_zero, List.set_cons_succ]
        refine Disk.z_pass 20 29 rfl rfl (by kernel_rfl) (by kernel_rfl) (by kernel_rfl) (by kernel_rfl) (by rfl) hs ?_
        simp only [List.setIfInBounds_toArray, List.set_cons_zero, List.set_cons_succ]
        refine Disk.z_pass 21 30 rfl rfl (by kernel_rfl) (by kernel_rfl) (by kernel_rfl) (by kernel_rfl) (by rfl) hs ?_
        simp only [List.setIfInBounds_toArray, List.set_cons_zero, List.set_cons_succ]
        refine Disk.z_pass 22 31 rfl rfl (by kernel_rfl) (by kernel_rfl) (by kernel_rfl) (by kernel_rfl) (by rfl) hs ?_
        simp only [List.setIfInBounds_toArray, List.set_cons_zero, List.set_cons_succ]
        refine Disk.z_pass 23 32 rfl rfl (by kernel_rfl) (by kernel_rfl) (by kernel_rfl) (by kernel_rfl) (by rfl) hs ?_
        simp only [List.setIfInBounds_toArray, List.set_cons_zero, List.set_cons_succ]
        refine Disk.z_take 24 33 (v := .bool false) rfl rfl (by kernel_rfl) (by kernel_rfl) (by kernel_rfl) (by kernel_rfl) (by rfl) hs (fun W' hSw => (by
          obtain ⟨s0, s1, s2, s3, s4, s5⟩ := hSw
          go_simp; first | done | with_reducible rfl)) ?_
        simp only [List.setIfInBounds_toArray, List.set_cons_zero, List.set_cons_succ]
        refine Disk.z_take 25 8 (v := .bool false) rfl rfl (by kernel_rfl) (by kernel_rfl) (by kernel_rfl) (by kernel_rfl) (by rfl) hs (fun W' hSw => (by
          obtain ⟨s0, s1, s2, s3, s4, s5⟩ := hSw
          go_simp; first | done | with_reducible rfl)) ?_
        simp only [List.setIfInBounds_toArray, List.set_cons_zero, List.set_cons_succ]
        refine Disk.z_done (by kernel_rfl) ?_ _
        go_wp2
        go_ret
        exact ⟨rfl, b2⟩
      · have hm := mYC (.slice (some ⟨g1, 0, none⟩) 3200 3200) a
        go_enter Tryz.func98, Tryz.ntmps98
        go_wp2_with fail
        refine Disk.z_plain 99 (fun W' => KM W' N g1 g2 oa oc h) (by kernel_rfl) (K.later (Below.refl _ _).drew) fun hs => ?_
        refine Disk.z_take 0 9 (v := .pointer (some ⟨N, 0, none⟩)) rfl rfl (by kernel_rfl) (by kernel_rfl) (by kernel_rfl) (by kernel_rfl) (by rfl) hs (fun W' hSw => (by
          obtain ⟨s0, s1, s2, s3, s4, s5⟩ := hSw
          go_simp; first | done | with_reducible rfl)) ?_
        simp only [List.setIfInBounds_toArray, List.set_cons_zero, List.set_cons_succ]
        refine Disk.z_take 1 10 (v := .pointer (some ⟨N, 0, none⟩)) rfl rfl (by kernel_rfl) (by kernel_rfl) (by kernel_rfl) (by kernel_rfl) (by rfl) hs (fun W' hSw => (by
          obtain ⟨s0, s1, s2, s3, s4, s5⟩ := hSw
          go_simp; first | done | with_reducible rfl)) ?_
        simp only [List.setIfInBounds_toArray, List.set_cons_zero, List.set_cons_succ]
        refine Disk.z_take 2 11 (v := .pointer (some ⟨N, 0, none⟩)) rfl rfl (by kernel_rfl) (by kernel_rfl) (by kernel_rfl) (by kernel_rfl) (by rfl) hs (fun W' hSw => (by
          obtain ⟨s0, s1, s2, s3, s4, s5⟩ := hSw
          go_simp; first | done | with_reducible rfl)) ?_
        simp only [List.setIfInBounds_toArray, List.set_cons_zero, List.set_cons_succ]
        refine Disk.z_take 3 12 (v := .pointer (some ⟨N, 0, none⟩)) rfl rfl (by kernel_rfl) (by kernel_rfl) (by kernel_rfl) (by kernel_rfl) (by rfl) hs (fun W' hSw => (by
          obtain ⟨s0, s1, s2, s3, s4, s5⟩ := hSw
          go_simp; first | done | with_reducible rfl)) ?_
        simp only [List.setIfInBounds_toArray, List.set_cons_zero, List.set_cons_succ]
        refine Disk.z_take 4 13 (v := .agg #[.slice (some ⟨g1, 0, none⟩) 3200 3200, .slice oa (obC h).length oc]) rfl rfl (by kernel_rfl) (by kernel_rfl) (by kernel_rfl) (by kernel_rfl) (by rfl) hs (fun W' hSw => (by
          obtain ⟨s0, s1, s2, s3, s4, s5⟩ := hSw
          go_simp; first | done | with_reducible rfl)) ?_
        simp only [List.setIfInBounds_toArray, List.set_cons_zero, List.set_cons_succ]
        refine Disk.z_take 5 14 (v := .pointer (some ⟨N, 0, none⟩)) rfl rfl (by kernel_rfl) (by kernel_rfl) (by kernel_rfl) (by kernel_rfl) (by rfl) hs (fun W' hSw => (by
          obtain ⟨s0, s1, s2, s3, s4, s5⟩ := hSw
          go_simp; first | done | with_reducible rfl)) ?_
        simp only [List.setIfInBounds_toArray, List.set_cons_zero, List.set_cons_succ]
        refine Disk.z_take 6 15 (v := .pointer (some ⟨N, 0, none⟩)) rfl rfl (by kernel_rfl) (by kernel_rfl) (by kernel_rfl) (by kernel_rfl) (by rfl) hs (fun W' hSw => (by
          obtain ⟨s0, s1, s2, s3, s4, s5⟩ := hSw
          go_simp; first | done | with_reducible rfl)) ?_
        simp only [List.setIfInBounds_toArray, List.set_cons_zero, List.set_cons_succ]
        refine Disk.z_take 7 16 (v := .pointer (some ⟨N, 0, none⟩)) rfl rfl (by kernel_rfl) (by kernel_rfl) (by kernel_rfl) (by kernel_rfl) (by rfl) hs (fun W' hSw => (by
          obtain ⟨s0, s1, s2, s3, s4, s5⟩ := hSw
          go_simp; first | done | with_reducible rfl)) ?_
        simp only [List.setIfInBounds_toArray, List.set_cons_zero, List.set_cons_succ]
        refine Disk.z_take 8 17 (v := .pointer (some ⟨N, 2, none⟩)) rfl rfl (by kernel_rfl) (by kernel_rfl) (by kernel_rfl) (by kernel_rfl) (by rfl) hs (fun W' hSw => (by
          obtain ⟨s0, s1, s2, s3, s4, s5⟩ := hSw
          go_simp; first | done | with_reducible rfl)) ?_
        simp only [List.setIfInBounds_toArray, List.set_cons_zero, List.set_cons_succ]
        refine Disk.z_take 9 18 (v := .slice (some ⟨g2, 0, none⟩) h.roots.length h.roots.length) rfl rfl (by kernel_rfl) (by kernel_rfl) (by kernel_rfl) (by kernel_rfl) (by rfl) hs (fun W' hSw => (by
          obtain ⟨s0, s1, s2, s3, s4, s5⟩ := hSw
          go_simp; first | done | with_reducible rfl)) ?_
        simp only [List.setIfInBounds_toArray, List.set_cons_zero, List.set_cons_succ]
        refine Disk.z_take 10 19 (v := .int .i64 k) rfl rfl (by kernel_rfl) (by kernel_rfl) (by kernel_rfl) (by kernel_rfl) (by rfl) hs (fun W' hSw => (by
          obtain ⟨s0, s1, s2, s3, s4, s5⟩ := hSw
          go_simp; first | done | with_reducible rfl)) ?_
        simp only [List.setIfInBounds_toArray, List.set_cons_zero, List.set_cons_succ]
        refine Disk.z_take 11 20 (v := .pointer (some ⟨g2, k, none⟩)) rfl rfl (by kernel_rfl) (by kernel_rfl) (by kernel_rfl) (by kernel_rfl) (by rfl) hs (fun W' hSw => (by
          obtain ⟨s0, s1, s2, s3, s4, s5⟩ := hSw
          go_simp; first | done | with_reducible rfl)) ?_
        simp only [List.setIfInBounds_toArray, List.set_cons_zero, List.set_cons_succ]
        refine Disk.z_take 12 21 (v := .int .i64 x) rfl rfl (by kernel_rfl) (by kernel_rfl) (by kernel_rfl) (by kernel_rfl) (by rfl) hs (fun W' hSw => (by
          have rc := hSw.r1 k hk2
          rw [hx] at rc
          go_simp; first | done | with_reducible rfl)) ?_
        simp only [List.setIfInBounds_toArray, List.set_cons_zero, List.set_cons_succ]
        refine Disk.z_take 15 24 (v := .int .i64 c) rfl rfl (by kernel_rfl) (by kernel_rfl) (by kernel_rfl) (by kernel_rfl) (by rfl) hs (fun W' hSw => (by
          obtain ⟨s0, s1, s2, s3, s4, s5⟩ := hSw
          go_simp; first | done | with_reducible rfl)) ?_
        simp only [List.setIfInBounds_toArray, List.set_cons_zero, List.set_cons_succ]
        refine Disk.z_call 13 22 rfl rfl (by kernel_rfl) (by rfl) (f := 119) (args := #[.agg #[.slice (some ⟨g1, 0, none⟩) 3200 3200, .slice oa (obC h).length oc], .int .i64 x]) (w0 := w.drew) (by go_simp; first | done | with_reducible rfl) ?_
        refine (elementOf_any (some ⟨g1, 0, none⟩) oa 3200 3200 oc (obC h) x w.drew (K.io.later (Below.refl _ _).drew) OS OL).mono ?_
        rintro e w1 ⟨rfl, hb1⟩
        have b1 := bel_after (Below.refl _ _).drew hb1
        rw [ev]
        have K1 := K.later b1
        refine ⟨_, rfl, .inr K1, ?_⟩
        simp only [List.setIfInBounds_toArray, List.set_cons_zero, List.set_cons_succ]
        refine Disk.z_call 14 23 rfl rfl (by kernel_rfl) (by rfl) (f := 171) (args := #[.agg #[.slice (some ⟨g1, 0, none⟩) 3200 3200, .int .i64 a]]) (w0 := w1) (by go_simp; first | done | with_reducible rfl) ?_
        refine (OC w1 K1.ws).mono ?_
        rintro e w2 ⟨rfl, hb2⟩
        have b2 := bel_after b1 hb2
        have K2 := K.later b2
        refine ⟨_, rfl, .inr K2, ?_⟩
        simp only [List.setIfInBounds_toArray, List.set_cons_zero, List.set_cons_succ]
        replace hs := K2
        refine Disk.z_take 16 25 (v := .bool false) rfl rfl (by kernel_rfl) (by kernel_rfl) (by kernel_rfl) (by kernel_rfl) (by rfl) hs (fun W' hSw => (by
          have cq : (cl == c) = false := by rw [beq_eq_false_iff_ne]; exact hcl
          go_simp; first | done | with_reducible rfl)) ?_
        simp only [List.setIfInBounds_toArray, List.set_cons_zero, List.set_cons_succ]
        refine Disk.z_take 17 26 (v := .bool false) rfl rfl (by kernel_rfl) (by kernel_rfl) (by kernel_rfl) (by kernel_rfl) (by rfl) hs (fun W' hSw => (by
          obtain ⟨s0, s1, s2, s3, s4, s5⟩ := hSw
          go_simp; first | done | with_reducible rfl)) ?_
        simp only [List.setIfInBounds_toArray, List.set_cons_zero, List.set_cons_succ]
        refine Disk.z_pass 18 27 rfl rfl (by kernel_rfl) (by kernel_rfl) (by kernel_rfl) (by kernel_rfl) (by rfl) hs ?_
        simp only [List.setIfInBounds_toArray, List.set_cons_zero, List.set_cons_succ]
        refine Disk.z_pass 19 28 rfl rfl (by kernel_rfl) (by kernel_rfl) (by kernel_rfl) (by kernel_rfl) (by rfl) hs ?_
        simp only [List.setIfInBounds_toArray, List.set_cons_zero, List.set_cons_succ]
        refine Disk.z_pass 20 29 rfl rfl (by kernel_rfl) (by kernel_rfl) (by kernel_rfl) (by kernel_rfl) (by rfl) hs ?_
        simp only [List.setIfInBounds_toArray, List.set_cons_zero, List.set_cons_succ]
        refine Disk.z_pass 21 30 rfl rfl (by kernel_rfl) (by kernel_rfl) (by kernel_rfl) (by kernel_rfl) (by rfl) hs ?_
        simp only [List.setIfInBounds_toArray, List.set_cons_zero, List.set_cons_succ]
        refine Disk.z_pass 22 31 rfl rfl (by kernel_rfl) (by kernel_rfl) (by kernel_rfl) (by kernel_rfl) (by rfl) hs ?_
        simp only [List.setIfInBounds_toArray, List.set_cons_zero, List.set_cons_succ]
        refine Disk.z_pass 23 32 rfl rfl (by kernel_rfl) (by kernel_rfl) (by kernel_rfl) (by kernel_rfl) (by rfl) hs ?_
        simp only [List.setIfInBounds_toArray, List.set_cons_zero, List.set_cons_succ]
        refine Disk.z_take 24 33 (v := .bool false) rfl rfl (by kernel_rfl) (by kernel_rfl) (by kernel_rfl) (by kernel_rfl) (by rfl) hs (fun W' hSw => (by
          obtain ⟨s0, s1, s2, s3, s4, s5⟩ := hSw
          go_simp; first | done | with_reducible rfl)) ?_
        simp only [List.setIfInBounds_toArray, List.set_cons_zero, List.set_cons_succ]
        refine Disk.z_take 25 8 (v := .bool false) rfl rfl (by kernel_rfl) (by kernel_rfl) (by kernel_rfl) (by kernel_rfl) (by rfl) hs (fun W' hSw => (by
          obtain ⟨s0, s1, s2, s3, s4, s5⟩ := hSw
          go_simp; first | done | with_reducible rfl)) ?_
        simp only [List.setIfInBounds_toArray, List.set_cons_zero, List.set_cons_succ]
        refine Disk.z_done (by kernel_rfl) ?_ _
        go_wp2
        go_ret
        exact ⟨rfl, b2⟩

end Go.Proofs.YtgacacbncefeaaaGreat

/- isStack and hasParts of the program. -/
namespace Go.Proofs.YtgacacbncefeaaaGreat
open Go.RowKit

set_option maxRecDepth 100000 in
set_option maxHeartbeats 1600000 in
theorem isStack_any (v : Value) (l : List Int) (w : World) (hv : IR w v l) (hl : l.length = 40) :
    Calls Tryz.prog 99 #[v] w fun e w' => e = .returned (.bool (stkB l)) ∧ Below w.heap.size w w' := by
  obtain ⟨ao, cap, rfl, hle, hc⟩ := id hv
  have HL : Hid (l.length = 40) := hl
  obtain ⟨b, o, rfl, c0⟩ := hc 0 (by omega)
  have IO := fun W => implIntOf_any (l.getD 0 0) W
  rw [Nat.add_zero] at c0
  rw [hl] at hle
  have DL : ∀ m n q c, m ≤ 40 → n = 40 - m → n ≤ c → (n = 0 ∨ q = o + m) → IR w (.slice (some ⟨b, q, none⟩) n c) (l.drop m) := fun m n q c hm hn hc2 hq => by
    subst hn
    refine ⟨_, _, by rw [List.length_drop, hl], by rw [List.length_drop, hl]; exact hc2, fun i hi => ?_⟩
    rw [List.length_drop, hl] at hi
    obtain rfl : q = o + m := hq.resolve_left (by omega)
    obtain ⟨b', o', e, hcell⟩ := hc (m + i) (by omega)
    simp only [Option.some.injEq, Addr.mk.injEq, and_true] at e
    obtain ⟨rfl, rfl⟩ := e
    refine ⟨b, o + m, rfl, ?_⟩
    rw [Nat.add_assoc, hcell]
    simp [List.getD_eq_getElem?_getD, List.getElem?_drop]
  have AN := fun (m n q c : Nat) (hm : m ≤ 40) (hn : n = 40 - m) (hc2 : n ≤ c) (hq : n = 0 ∨ q = o + m) => areNoughts_any _ _ w (DL m n q c hm hn hc2 hq) (by rw [List.length_drop, hl]; omega)
  unfold stkB
  have LD : Hid (∀ m, (l.drop m).length = 40 - m) := fun m => by rw [List.length_drop, hl]
  clear hc hv DL
  generalize valK 1 (l.getD 0 0) = d at *
  generalize isK 1 (l.getD 0 0) = is at *
  generalize l.getD 0 0 = x0 at *
  rw [hl]
  clear hl
  cases is
  · go_enter Tryz.func99, Tryz.ntmps99
    go_wp2_with (go_at_call 120; refine (IO _).mono ?_; rintro e wq ⟨rfl, hq⟩; obtain rfl := hq.symm)
    go_ret
    exact ⟨rfl, Below.refl _ _⟩
  by_cases h1 : 0 ≤ d
  case neg =>
    have d1 : decide (0 ≤ d) = false := decide_eq_false h1
    rw [d1]
    go_enter Tryz.func99, Tryz.ntmps99
    go_wp2_with (go_at_call 120; refine (IO _).mono ?_; rintro e wq ⟨rfl, hq⟩; obtain rfl := hq.symm)
    go_ret
    exact ⟨by first | rfl | simp, Below.refl _ _⟩
  by_cases h2 : d ≤ 39
  case neg =>
    have d1 : decide (0 ≤ d) = true := decide_eq_true h1
    have d2 : decide (d ≤ 39) = false := decide_eq_false h2
    rw [d1, d2]
    go_enter Tryz.func99, Tryz.ntmps99
    go_wp2_with (go_at_call 120; refine (IO _).mono ?_; rintro e wq ⟨rfl, hq⟩; obtain rfl := hq.symm)
    go_ret
    exact ⟨by first | rfl | simp, Below.refl _ _⟩
  obtain ⟨m, rfl⟩ := Int.eq_ofNat_of_zero_le h1
  have d1 : decide (0 ≤ (m : Int)) = true := decide_eq_true h1
  have d2 : decide ((m : Int) ≤ 39) = true := decide_eq_true h2
  rw [d1, d2, Bool.true_and, Bool.true_and, Bool.true_and, Int.toNat_natCast]
  have AM := AN (m + 1)
  generalize hal : (l.drop (m + 1)).all (· == 0) = al at *
  clear AN LD hal
  have m40 : m + 1 ≤ 40 := by omega
  go_enter Tryz.func99, Tryz.ntmps99
  go_wp2_with (go_at_call 120; refine (IO _).mono ?_; rintro e wq ⟨rfl, hq⟩; obtain rfl := hq.symm)
  · have C := AM (39 - m) o 0 (by omega) (by omega) (by omega) (by omega)
    clear AM
    refine C.mono ?_
    rintro e wq ⟨rfl, hq⟩
    obtain rfl := hq.symm
    go_wp2
    go_ret
    exact ⟨by first | rfl | simp, Below.refl _ _⟩
  · have C := AM (39 - m) (o + (m + 1)) (cap - (m + 1)) (by omega) (by omega) (by omega) (by omega)
    clear AM
    refine C.mono ?_
    rintro e wq ⟨rfl, hq⟩
    obtain rfl := hq.symm
    go_wp2
    go_ret
    exact ⟨by first | rfl | simp, Below.refl _ _⟩

set_option maxHeartbeats 1600000 in
theorem hasParts_any (N g1 g2 : Nat) (oa : Option Addr) (oc : Nat) (h : Hp) (w : World) (K : KM w N g1 g2 oa oc h) (hk : okC h = true) (kl : h.roots.length ≤ 20) :
    Calls Tryz.prog 77 #[.pointer (some ⟨N, 0, none⟩)] w fun e w' => e = .returned (.bool (partsB h)) ∧ Below w.heap.size w w' := by
  unfold partsB
  obtain ⟨c0, c1, c2, _, _, _⟩ := id K
  by_cases hr : h.roots.length = 2
  case neg =>
    have d1 : ((h.roots.length : Int) == 2) = false := by rw [beq_eq_false_iff_ne]; omega
    rw [decide_eq_false hr, Bool.false_and]
    go_enter Tryz.func77, Tryz.ntmps77
    go_wp2
    go_ret
    exact ⟨rfl, Below.refl _ _⟩
  have d1 : ((h.roots.length : Int) == 2) = true := by rw [beq_iff_eq]; omega
  have R0 := fun W Kq => hasRoot_any N g1 g2 oa oc h W Kq hk 0 (by omega) kl 1 40 (by omega)
  have R1 := fun W Kq => hasRoot_any N g1 g2 oa oc h W Kq hk 1 (by omega) kl 2 10 (by omega)
  have RF := fun W Kq => rootFields_any N g1 g2 oa oc h W Kq hk 0 (by omega) kl
  have R40 : Hid (rootB h 0 1 40 = true → refB h (h.roots.getD 0 0) = true ∧ (fldR h 0).length = 40) := (fun q => by
    unfold rootB at q
    simp only [Bool.and_eq_true, decide_eq_true_eq] at q
    exact ⟨q.1, by unfold fldR; rw [flds_len]; exact q.2.2⟩ : _)
  rw [decide_eq_true hr, Bool.true_and]
  generalize refB h (h.roots.getD 0 0) = rb at *
  generalize rootB h 0 1 40 = b0 at *
  generalize rootB h 1 2 10 = b1 at *
  generalize fldR h 0 = fl at *
  rw [hr] at c2
  cases b0
  case false =>
    go_enter Tryz.func77, Tryz.ntmps77
    go_wp2_with fail
    refine (R0 _ K).mono ?_
    rintro e w1 ⟨rfl, hb1⟩
    go_wp2
    go_ret
    exact ⟨rfl, hb1⟩
  obtain ⟨rfl, h40⟩ := R40.out rfl
  replace h40 : Hid (fl.length = 40) := h40
  cases b1
  case false =>
    go_enter Tryz.func77, Tryz.ntmps77
    go_wp2_with fail
    refine (R0 _ K).mono ?_
    rintro e w1 ⟨rfl, hb1⟩
    go_wp2_with fail
    refine (R1 _ (K.later hb1)).mono ?_
    rintro e w2 ⟨rfl, hb2⟩
    go_wp2
    go_ret
    exact ⟨rfl, bel_after hb1 hb2⟩
  go_enter Tryz.func77, Tryz.ntmps77
  go_wp2_with fail
  refine (R0 _ K).mono ?_
  rintro e w1 ⟨rfl, hb1⟩
  go_wp2_with fail
  refine (R1 _ (K.later hb1)).mono ?_
  rintro e w2 ⟨rfl, hb2⟩
  have b2 := bel_after hb1 hb2
  go_wp2_with fail
  refine (RF _ (K.later b2)).mono ?_
  rintro e w3 ⟨⟨v, rfl, hv⟩, hb3⟩
  have b3 := bel_after b2 hb3
  have IS := isStack_any v fl _ (hv (by simp)) h40.out
  go_wp2_with fail
  refine IS.mono ?_
  rintro e w4 ⟨rfl, hb4⟩
  have b4 := bel_after b3 hb4
  clear IS
  go_wp2
  go_ret
  exact ⟨by simp, b4⟩

/-- What all but the parts asks of a machine. -/
noncomputable def okM (h : Hp) (pr : List Cd) (pc : Int) (ot : List Int) (st : Int) : Bool := okC h && (progB pr && (placeB pr.length pc && (outB ot && stateB st)))
theorem okM_vm (v : Mp) : vmB v = (okM v.h v.prog v.pc v.out v.st && partsB v.h) := by
  unfold vmB okM
  simp only [Bool.and_assoc]

end Go.Proofs.YtgacacbncefeaaaGreat
