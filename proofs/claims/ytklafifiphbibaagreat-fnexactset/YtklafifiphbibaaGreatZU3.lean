import Derived.Test.YtklafifiphbibaaGreatZFElem
import Derived.Test.YtklafifiphbibaaGreatZFKeep2
import Derived.Test.YtklafifiphbibaaGreatZFList
import Derived.Test.YtklafifiphbibaaGreatZMIAdd
import Derived.Test.YtklafifiphbibaaGreatZMBox
/- What a word means in a heap, in plain words. -/
namespace Go.Proofs.YtklafifiphbibaaGreat
open Go.RowKit

/-- What elementIn answers. -/
noncomputable def elW (h : Hp) (u : Value) (x : Int) : Value := if okC h = true then elV (obC h) u x else .iface 86 (.agg #[])

/-- A word in a right heap: which of the four it is. -/
theorem el_cases (h : Hp) (u : Value) (x : Int) :
    (elW h u x = .iface 86 (.agg #[]) ∧ (refB h x && okC h) = false ∧ (okC h = true → ¬ kindW x = 1)) ∨
    (okC h = true ∧ elW h u x = .iface 89 (.agg #[]) ∧ refB h x = false ∧ kindW x = 1) ∨
    (okC h = true ∧ refB h x = true ∧ ∃ a : Nat, a ∈ obC h ∧ x / 2 = a ∧ kindW x = 2 ∧ (elW h u x = .iface 91 (.agg #[u, .int .i64 a]) ∨ elW h u x = .iface 93 (.agg #[u, .int .i64 a]))) := by
  unfold elW
  cases hk : okC h
  · exact .inl ⟨rfl, by simp, fun q => by cases q⟩
  rw [if_pos rfl]
  unfold elV
  cases hf : fitB (obC h) x
  · refine .inl ⟨rfl, ?_, fun _ k => ?_⟩
    · cases hr : refB h x
      · rfl
      · obtain ⟨k, a, ha, e⟩ := ref_mem hr
        rw [fit_ref (decide_eq_true k), e, show (ints (obC h)).contains (a : Int) = true from List.contains_iff_mem.2 (List.mem_map.2 ⟨a, ha, rfl⟩)] at hf
        cases hf
    · unfold fitB at hf
      rw [k] at hf
      simp at hf
  rw [if_pos rfl]
  by_cases k : kindW x = 2
  · rw [if_pos k]
    rw [fit_ref (decide_eq_true k), List.contains_iff_mem] at hf
    obtain ⟨a, ha, e⟩ := List.mem_map.1 hf
    refine .inr (.inr ⟨rfl, ref_of k ha e.symm, a, ha, e.symm, k, ?_⟩)
    rw [← e]
    split
    · exact .inr rfl
    · exact .inl rfl
  · rw [if_neg k]
    have k1 : kindW x = 1 := by
      unfold fitB at hf
      rw [decide_eq_false k] at hf
      simpa using hf
    refine .inr (.inl ⟨rfl, rfl, ?_, k1⟩)
    unfold refB
    rw [decide_eq_false k]
    rfl

end Go.Proofs.YtklafifiphbibaaGreat

/- (*draft).write of the program: a field of a draft is set. -/
namespace Go.Proofs.YtklafifiphbibaaGreat
open Go.RowKit

/-- The box of a draft. -/
structure DX (W : World) (N : Nat) (u0 u1 u2 u3 u4 u5 u6 u7 u8 : Value) : Prop where
  c0 : W.cell? ⟨N, 0, none⟩ = some u0
  c1 : W.cell? ⟨N, 1, none⟩ = some u1
  c2 : W.cell? ⟨N, 2, none⟩ = some u2
  c3 : W.cell? ⟨N, 3, none⟩ = some u3
  c4 : W.cell? ⟨N, 4, none⟩ = some u4
  c5 : W.cell? ⟨N, 5, none⟩ = some u5
  c6 : W.cell? ⟨N, 6, none⟩ = some u6
  c7 : W.cell? ⟨N, 7, none⟩ = some u7
  c8 : W.cell? ⟨N, 8, none⟩ = some u8
  row : ∃ f, W.rowIs N 49 9 f
theorem DX.lt {W : World} {N : Nat} {u0 u1 u2 u3 u4 u5 u6 u7 u8 : Value} (h : DX W N u0 u1 u2 u3 u4 u5 u6 u7 u8) : N < W.heap.size := by
  obtain ⟨f, F⟩ := h.row
  exact F.lt
theorem DX.frozen {W : World} {N : Nat} {u0 u1 u2 u3 u4 u5 u6 u7 u8 : Value} (h : DX W N u0 u1 u2 u3 u4 u5 u6 u7 u8) (j : Nat) : W.frozen? ⟨N, j, none⟩ = false := by
  obtain ⟨f, F⟩ := h.row
  exact F.frozen j
theorem DX.block {W W' : World} {N : Nat} {u0 u1 u2 u3 u4 u5 u6 u7 u8 : Value} (h : DX W N u0 u1 u2 u3 u4 u5 u6 u7 u8) (hb : W'.heap[N]? = W.heap[N]?) : DX W' N u0 u1 u2 u3 u4 u5 u6 u7 u8 := by
  obtain ⟨f, F⟩ := h.row
  have e : ∀ o u, W.cell? ⟨N, o, none⟩ = some u → W'.cell? ⟨N, o, none⟩ = some u := fun o u q => (World.cell?_of_block (w := W) (a := ⟨N, o, none⟩) hb).trans q
  exact ⟨e _ _ h.c0, e _ _ h.c1, e _ _ h.c2, e _ _ h.c3, e _ _ h.c4, e _ _ h.c5, e _ _ h.c6, e _ _ h.c7, e _ _ h.c8, ⟨f, F.of_block hb⟩⟩
theorem DX.later {W W' : World} {N : Nat} {u0 u1 u2 u3 u4 u5 u6 u7 u8 : Value} (h : DX W N u0 u1 u2 u3 u4 u5 u6 u7 u8) (hb : Below W.heap.size W W') : DX W' N u0 u1 u2 u3 u4 u5 u6 u7 u8 := h.block (hb.block _ h.lt)
theorem DX.grown {W W' : World} {N : Nat} {r : Option Nat} {u0 u1 u2 u3 u4 u5 u6 u7 u8 : Value} (h : DX W N u0 u1 u2 u3 u4 u5 u6 u7 u8) (hg : W.grownBy W' r) (hr : some N ≠ r) : DX W' N u0 u1 u2 u3 u4 u5 u6 u7 u8 := h.block (hg.block _ h.lt hr)
theorem DX.set {W : World} {N b i : Nat} {u0 u1 u2 u3 u4 u5 u6 u7 u8 : Value} (h : DX W N u0 u1 u2 u3 u4 u5 u6 u7 u8) (hb : N ≠ b) (v : Value) : DX (W.setCell ⟨b, i, none⟩ v) N u0 u1 u2 u3 u4 u5 u6 u7 u8 := h.block (Below.heap_setCell _ _ _ _ hb)
theorem DX.set8 {W : World} {N : Nat} {u0 u1 u2 u3 u4 u5 u6 u7 u8 : Value} (h : DX W N u0 u1 u2 u3 u4 u5 u6 u7 u8) (v : Value) : DX (W.setCell ⟨N, 8, none⟩ v) N u0 u1 u2 u3 u4 u5 u6 u7 v := by
  obtain ⟨f, F⟩ := h.row
  have F' := F.set 8 v
  have e : ∀ o u, o ≠ 8 → W.cell? ⟨N, o, none⟩ = some u → (W.setCell ⟨N, 8, none⟩ v).cell? ⟨N, o, none⟩ = some u := fun o u ho q => by
    rw [World.cell?_setCell_other]
    · exact q
    · intro k
      simp at k <;> omega
  exact ⟨e _ _ (by omega) h.c0, e _ _ (by omega) h.c1, e _ _ (by omega) h.c2, e _ _ (by omega) h.c3, e _ _ (by omega) h.c4, e _ _ (by omega) h.c5, e _ _ (by omega) h.c6, e _ _ (by omega) h.c7, by rw [F'.cell (by omega), if_pos rfl], ⟨_, F'⟩⟩

theorem el_two {l : List Nat} {u : Value} {x : Int} {a : Nat} (ea : x / 2 = a) (k2 : kindW x = 2) (ev : elV l u x = .iface 91 (.agg #[u, .int .i64 a]) ∨ elV l u x = .iface 93 (.agg #[u, .int .i64 a])) :
    (elV l u x = .iface 91 (.agg #[u, .int .i64 a]) ∧ a < 2000) ∨ (elV l u x = .iface 93 (.agg #[u, .int .i64 a]) ∧ 2000 ≤ a) := by
  by_cases h : a < 2000
  · refine .inl ⟨?_, h⟩
    rcases ev with e | e
    · exact e
    · exfalso
      unfold elV at e
      by_cases f : fitB l x = true
      · rw [if_pos f, if_pos k2, if_neg (by omega : ¬ 2000 ≤ x / 2)] at e
        injection e with e1 e2
        exact absurd e1 (by decide)
      · rw [if_neg f] at e
        injection e with e1 e2
        exact absurd e1 (by decide)
  · refine .inr ⟨?_, by omega⟩
    rcases ev with e | e
    · exfalso
      unfold elV at e
      by_cases f : fitB l x = true
      · rw [if_pos f, if_pos k2, if_pos (by omega : 2000 ≤ x / 2)] at e
        injection e with e1 e2
        exact absurd e1 (by decide)
      · rw [if_neg f] at e
        injection e with e1 e2
        exact absurd e1 (by decide)
    · exact e


set_option maxRecDepth 100000 in
set_option maxHeartbeats 6400000 in
theorem implWrite_c (N B g1 g2 g3 oc : Nat) (oa : Option Addr) (h : Hp) (x i y : Int) (w : World) (D0 : DX w N (.slice (some ⟨g1, 0, none⟩) h.words.length h.words.length) (.slice oa (obC h).length oc) (.slice (some ⟨g2, 0, none⟩) h.roots.length h.roots.length) (.int .i64 h.old) (.int .i64 h.eden) (.int .i64 h.surv) (.bool h.flip) (.int .i64 h.hash) (.slice (some ⟨g3, 0, none⟩) h.kept.length h.kept.length))
    (q1 : RI w g1 h.words h.words.length) (q2 : RI w g2 h.roots h.roots.length) (q3 : RI w g3 h.kept h.kept.length) (io : IR w (.slice oa (obC h).length oc) (ints (obC h))) (farO : Far (.slice oa (obC h).length oc) g1) (hk : okC h = true)
    (bNN : B ≤ N) (bg1 : B ≤ g1) (bg3 : B ≤ g3) (n12 : g1 < g2) (n23 : g2 < g3) (n3N : g3 < N) :
    Calls Tryz.prog 24 #[.pointer (some ⟨N, 0, none⟩), .int .i64 x, .int .i64 i, .int .i64 y] w fun e w' => e = .returned (.bool (putB h x i y)) ∧ Below B w w' ∧
      (putB h x i y = true → ∃ g' n' c', DX w' N (.slice (some ⟨g1, 0, none⟩) h.words.length h.words.length) (.slice oa (obC h).length oc) (.slice (some ⟨g2, 0, none⟩) h.roots.length h.roots.length) (.int .i64 h.old) (.int .i64 h.eden) (.int .i64 h.surv) (.bool h.flip) (.int .i64 h.hash) (.slice (some ⟨g', 0, none⟩) n' c') ∧ RI w' g1 (putC h x i y).words h.words.length ∧ RI w' g2 h.roots h.roots.length ∧ RI w' g' (putC h x i y).kept c' ∧ n' = (putC h x i y).kept.length ∧ g' ≠ N ∧ g1 ≠ g' ∧ g2 ≠ g' ∧ B ≤ g') := by
  have OS := ok_sorted hk
  have OL : (obC h).length ≤ 1000000000 := by have := ob_short h; omega
  have FT := fun W (hb : Below w.heap.size w W) => draftFits_any (some ⟨g1, 0, none⟩) oa h.words.length h.words.length oc (obC h) y W (io.later hb) OS OL
  have EL := elementOf_any (some ⟨g1, 0, none⟩) oa h.words.length h.words.length oc (obC h) x w io OS OL
  have EE : elW h (.slice (some ⟨g1, 0, none⟩) h.words.length h.words.length) x = elV (obC h) (.slice (some ⟨g1, 0, none⟩) h.words.length h.words.length) x := by unfold elW; rw [hk]; rfl
  have ltN0 := D0.lt
  have bN : B ≤ w.heap.size := by omega
  obtain ⟨d0, d1, d2, d3, d4, d5, d6, d7, d8, -⟩ := id D0
  have ltg1 := q1.lt
  have ltg2 := q2.lt
  have ltg3 := q3.lt
  cases hft : fitB (obC h) y
  · have AB : putB h x i y = false := by unfold putB; rw [hk, hft]; rfl
    rw [hft] at FT
    clear EE hft
    generalize elV (obC h) (.slice (some ⟨g1, 0, none⟩) h.words.length h.words.length) x = evv at *
    go_enter Tryz.func24, Tryz.ntmps24
    go_wp2_with fail
    refine EL.mono ?_
    rintro e w3 ⟨rfl, hb3⟩
    obtain ⟨d0, d1, d2, d3, d4, d5, d6, d7, d8, -⟩ := D0.later hb3
    go_wp2_with fail
    refine (FT _ hb3).mono ?_
    rintro e w4 ⟨rfl, hb4⟩
    have bl := bel_after hb3 hb4
    clear EL FT
    go_wp2
    go_ret
    exact ⟨by rw [AB]; rfl, bl.mono bN, fun q => by rw [AB] at q; cases q⟩
  rw [hft] at FT
  rcases el_cases h (.slice (some ⟨g1, 0, none⟩) h.words.length h.words.length) x with ⟨ev, n, _⟩ | ⟨_, ev, n, _⟩ | ⟨_, r, a, ha, ea, k2, ev⟩
  · have AB : putB h x i y = false := by
      rw [hk, Bool.and_true] at n
      unfold putB
      rw [hk, hft, n]
      rfl
    rw [EE] at ev
    clear EE n
    have HP := fun W => hasPlace_any none 0 0 i W
    rw [decide_eq_false (by omega)] at HP
    rw [ev] at EL
    have hm := mNF
    clear ev
    go_enter Tryz.func24, Tryz.ntmps24
    go_wp2_with fail
    refine EL.mono ?_
    rintro e w3 ⟨rfl, hb3⟩
    obtain ⟨d0, d1, d2, d3, d4, d5, d6, d7, d8, -⟩ := D0.later hb3
    go_wp2_with fail
    refine (FT _ hb3).mono ?_
    rintro e w4 ⟨rfl, hb4⟩
    go_wp2_with fail
    refine (noneF_any _).mono ?_
    rintro e w5 ⟨rfl, hb5⟩
    have bl := bel_after (bel_after hb3 hb4) hb5
    clear EL hm FT
    go_wp2_with (go_at_call 35; refine (HP _).mono ?_; rintro e wq ⟨rfl, hq⟩; obtain rfl := hq.symm)
    go_ret
    exact ⟨by rw [AB]; rfl, bl.mono bN, fun q => by rw [AB] at q; cases q⟩
  · have AB : putB h x i y = false := by
      unfold putB
      rw [hk, hft, n]
      rfl
    rw [EE] at ev
    clear EE n
    have HP := fun W => hasPlace_any none 0 0 i W
    rw [decide_eq_false (by omega)] at HP
    rw [ev] at EL
    have hm := mUF
    clear ev
    go_enter Tryz.func24, Tryz.ntmps24
    go_wp2_with fail
    refine EL.mono ?_
    rintro e w3 ⟨rfl, hb3⟩
    obtain ⟨d0, d1, d2, d3, d4, d5, d6, d7, d8, -⟩ := D0.later hb3
    go_wp2_with fail
    refine (FT _ hb3).mono ?_
    rintro e w4 ⟨rfl, hb4⟩
    go_wp2_with fail
    refine (numF_any _).mono ?_
    rintro e w5 ⟨rfl, hb5⟩
    have bl := bel_after (bel_after hb3 hb4) hb5
    clear EL hm FT
    go_wp2_with (go_at_call 35; refine (HP _).mono ?_; rintro e wq ⟨rfl, hq⟩; obtain rfl := hq.symm)
    go_ret
    exact ⟨by rw [AB]; rfl, bl.mono bN, fun q => by rw [AB] at q; cases q⟩
  · have RG := c_right hk
    obtain ⟨q1', q2', q3'⟩ := RG.1.obj ha
    have q4' := size_of q3'
    have hl : Hid (h.words.length = 3200) := RG.1.1
    have PN : Hid (¬ (0 ≤ i ∧ i < gw h.words a) → putB h x i y = false) := (fun q => by unfold putB; rw [hk, hft, r, ea]; exact decide_eq_false q : ¬ (0 ≤ i ∧ i < gw h.words a) → putB h x i y = false)
    have PY : Hid ((0 ≤ i ∧ i < gw h.words a) → putB h x i y = true) := (fun q => by unfold putB; rw [hk, hft, r, ea]; exact decide_eq_true q : (0 ≤ i ∧ i < gw h.words a) → putB h x i y = true)
    have PL : Hid (∀ k : Nat, 0 ≤ (k : Int) ∧ (k : Int) < gw h.words a → a + 4 + k < 3200) := (fun k q => (put_lt RG ha q.2).2 : ∀ k : Nat, 0 ≤ (k : Int) ∧ (k : Int) < gw h.words a → a + 4 + k < 3200)
    have OF := fun W hb => objF_any g1 0 h.words.length h.words a W ((fun j hj => by rw [Nat.zero_add]; exact (q1.later hb).cell hj : WS W g1 0 h.words)) RG.1.1 (by rw [hl.out]; exact Nat.le_refl _) q1' q4' q2'
    have MU : Hid (∀ k : Nat, 0 ≤ (k : Int) ∧ (k : Int) < gw h.words a → (h.words.set (a + 4 + k) y).length = 3200 ∧ (0 ≤ gw (h.words.set (a + 4 + k) y) a ∧ gw (h.words.set (a + 4 + k) y) a ≤ 60) ∧ nx (h.words.set (a + 4 + k) y) a ≤ 3200 ∧ (∀ z, z ∈ flds (h.words.set (a + 4 + k) y) a → fitB (obC h) z = true) ∧ True) := (fun k q => by
      have PR := put_right RG ha q.2 y hft
      have ob := PR.1.obj ha
      refine ⟨by rw [List.length_set]; exact RG.1.1, size_of ob.2.2, ob.2.1, ?_, trivial⟩
      exact (fld_mem (p := fitB (obC h))).2 (PR.2.2.2.2.2.2.2.1 a ha) : ∀ k : Nat, 0 ≤ (k : Int) ∧ (k : Int) < gw h.words a → (h.words.set (a + 4 + k) y).length = 3200 ∧ (0 ≤ gw (h.words.set (a + 4 + k) y) a ∧ gw (h.words.set (a + 4 + k) y) a ≤ 60) ∧ nx (h.words.set (a + 4 + k) y) a ≤ 3200 ∧ (∀ z, z ∈ flds (h.words.set (a + 4 + k) y) a → fitB (obC h) z = true) ∧ True)
    have KS := kept_sorted RG
    have KL : h.kept.length ≤ 1000000 := by have := kept_short RG; omega
    have KK : Hid (∀ k : Nat, 0 ≤ (k : Int) ∧ (k : Int) < gw h.words a → ∀ bb, bb = (decide (a < 2000) && hasY (h.words.set (a + 4 + k) y) a) → Hid ((putH h a k y).kept.length = (lw h.kept a bb).length) ∧ Hid (∀ W g c, RI W g (lw h.kept a bb) c → RI W g (putH h a k y).kept c)) := (fun k q bb e => by
      have E := lw_kept RG ha q.2 y
      rw [← e] at E
      exact ⟨by rw [E]; rfl, fun W g c R => by rw [E] at R; exact R⟩ : ∀ k : Nat, 0 ≤ (k : Int) ∧ (k : Int) < gw h.words a → ∀ bb, bb = (decide (a < 2000) && hasY (h.words.set (a + 4 + k) y) a) → Hid ((putH h a k y).kept.length = (lw h.kept a bb).length) ∧ Hid (∀ W g c, RI W g (lw h.kept a bb) c → RI W g (putH h a k y).kept c))
    have OF1 : ∀ (ad : Addr) (n c : Nat), Value.slice oa (obC h).length oc = .slice (some ad) n c → 0 < n → ad.block ≠ g1 := fun ad n c e hn => by have := farO ad n c e hn; omega
    rw [EE] at ev
    have A2 : Hid ((elV (obC h) (.slice (some ⟨g1, 0, none⟩) h.words.length h.words.length) x = .iface 91 (.agg #[.slice (some ⟨g1, 0, none⟩) h.words.length h.words.length, .int .i64 a]) ∧ a < 2000) ∨ (elV (obC h) (.slice (some ⟨g1, 0, none⟩) h.words.length h.words.length) x = .iface 93 (.agg #[.slice (some ⟨g1, 0, none⟩) h.words.length h.words.length, .int .i64 a]) ∧ 2000 ≤ a)) := el_two ea k2 ev
    rw [hl.out] at EL D0 OF A2 FT
    clear d0 d1 d2 d3 d4 d5 d6 d7 d8
    obtain ⟨d0, d1, d2, d3, d4, d5, d6, d7, d8, -⟩ := id D0
    clear EE ev RG
    generalize elV (obC h) (.slice (some ⟨g1, 0, none⟩) 3200 3200) x = evv at *
    rcases A2 with ⟨ev, a2⟩ | ⟨ev, a2⟩
    · rw [ev] at EL
      have hm := mOF (.slice (some ⟨g1, 0, none⟩) 3200 3200) a
      clear ev
      go_enter Tryz.func24, Tryz.ntmps24
      go_wp2_with fail
      refine EL.mono ?_
      rintro e w3 ⟨rfl, hb3⟩
      have D3 := D0.later hb3
      obtain ⟨d0, d1, d2, d3, d4, d5, d6, d7, d8, -⟩ := id D3
      go_wp2_with fail
      refine (FT _ hb3).mono ?_
      rintro e w4 ⟨rfl, hb4⟩
      have b14 := bel_after hb3 hb4
      go_wp2_with fail
      refine (OF _ b14).mono ?_
      rintro e w5 ⟨⟨q, c, rfl, hc, hq⟩, hb5⟩
      have b15 := bel_after b14 hb5
      have HP := fun W => hasPlace_any (some ⟨g1, q, none⟩) (gw h.words a).toNat c i W
      clear d0 d1 d2 d3 d4 d5 d6 d7 d8
      by_cases hi : 0 ≤ i ∧ i < gw h.words a
      case neg =>
        have AB := PN.out hi
        rw [decide_eq_false (by omega)] at HP
        clear OF EL hm hc hq PY PN FT
        go_wp2_with (go_at_call 35; refine (HP _).mono ?_; rintro e wq ⟨rfl, hq⟩; obtain rfl := hq.symm)
        go_ret
        exact ⟨by rw [AB]; rfl, b15.mono bN, fun q => by rw [AB] at q; cases q⟩
      have AB := PY.out hi
      obtain ⟨k, rfl⟩ : ∃ k : Nat, i = k := ⟨i.toNat, by omega⟩
      rw [decide_eq_true (by omega)] at HP
      have OF5 := OF w5 b15
      replace hi : Hid (0 ≤ (k : Int) ∧ (k : Int) < gw h.words a) := hi
      clear EL PN PY OF FT
      go_wp2_with (go_at_call 35; refine (HP _).mono ?_; rintro e wq ⟨rfl, hq⟩; obtain rfl := hq.symm)
      refine OF5.mono ?_
      rintro e w6 ⟨⟨q5, c5, rfl, hc5, hq5⟩, hb6⟩
      obtain rfl : q5 = 0 + (a + 4) := hq5.resolve_left (by have := hi.out; omega)
      rw [Nat.zero_add]
      have b16 := bel_after b15 hb6
      have D6 := D0.later b16
      have P1 := q1.later b16
      have P2 := q2.later b16
      have P3 := q3.later b16
      have hk3 := PL.out k hi.out
      have pc := P1.cell (i := a + 4 + k) (by rw [hl.out]; omega)
      have pf := fun j => P1.frozen j
      have RO := fun W => implRefOf_any x W
      rw [show valK 2 x = a from by unfold valK; rw [if_pos k2, ea], show isK 2 x = true from decide_eq_true k2] at RO
      have kn : k < (gw h.words a).toNat := by have := hi.out; omega
      have kni : (k : Int) < (gw h.words a).toNat := by omega
      have S1 := P1.set (a + 4 + k) y
      have S2 := P2.setOther (b := g1) (i := a + 4 + k) (by omega) (.int .i64 y)
      have S3 := P3.setOther (b := g1) (i := a + 4 + k) (by omega) (.int .i64 y)
      have D7 := D6.set (b := g1) (i := a + 4 + k) (by omega) (.int .i64 y)
      have IO7 := IR.setOther (b := g1) (i := a + 4 + k) (io.later b16) OF1 (.int .i64 y)
      have hb7 := (b16.mono bN).setCell (p := ⟨g1, a + 4 + k, none⟩) (by show B ≤ g1; exact bg1) (.int .i64 y)
      generalize h.words.getD (a + 4 + k) 0 = y0 at *
      generalize (gw h.words a).toNat = nn at *
      clear P1 P2 P3 D3 D6 hq hq5 hc
      go_wp2_with (first | (go_at_call 35; refine (HP _).mono ?_; rintro e wq ⟨rfl, hq⟩; obtain rfl := hq.symm) | (go_at_call 51; refine (RO _).mono ?_; rintro e wq ⟨rfl, hq⟩; obtain rfl := hq.symm))
      have ltN : N < w6.heap.size := by have := D7.lt; simpa using this
      have lg1 := S1.lt
      have lg2 := S2.lt
      have lg3 := S3.lt
      refine Disk.z_plain 15 (fun W' => DX W' N (.slice (some ⟨g1, 0, none⟩) 3200 3200) (.slice oa (obC h).length oc) (.slice (some ⟨g2, 0, none⟩) h.roots.length h.roots.length) (.int .i64 h.old) (.int .i64 h.eden) (.int .i64 h.surv) (.bool h.flip) (.int .i64 h.hash) (.slice (some ⟨g3, 0, none⟩) h.kept.length h.kept.length)) (by kernel_rfl) (D7.later (Below.refl _ _).drew) fun hs => ?_
      refine Disk.z_take 0 42 (v := .pointer (some ⟨N, 0, none⟩)) rfl rfl (by kernel_rfl) (by kernel_rfl) (by kernel_rfl) (by kernel_rfl) (by rfl) hs (fun W' hSw => (by
        obtain ⟨s0, s1, s2, s3, s4, s5, s6, s7, s8, -⟩ := hSw
        go_simp; first | done | with_reducible rfl)) ?_
      simp only [List.setIfInBounds_toArray, List.set_cons_zero, List.set_cons_succ]
      refine Disk.z_take 1 43 (v := .pointer (some ⟨N, 0, none⟩)) rfl rfl (by kernel_rfl) (by kernel_rfl) (by kernel_rfl) (by kernel_rfl) (by rfl) hs (fun W' hSw => (by
        obtain ⟨s0, s1, s2, s3, s4, s5, s6, s7, s8, -⟩ := hSw
        go_simp; first | done | with_reducible rfl)) ?_
      simp only [List.setIfInBounds_toArray, List.set_cons_zero, List.set_cons_succ]
      refine Disk.z_take 2 44 (v := .pointer (some ⟨N, 0, none⟩)) rfl rfl (by kernel_rfl) (by kernel_rfl) (by kernel_rfl) (by kernel_rfl) (by rfl) hs (fun W' hSw => (by
        obtain ⟨s0, s1, s2, s3, s4, s5, s6, s7, s8, -⟩ := hSw
        go_simp; first | done | with_reducible rfl)) ?_
      simp only [List.setIfInBounds_toArray, List.set_cons_zero, List.set_cons_succ]
      refine Disk.z_take 3 45 (v := .pointer (some ⟨N, 8, none⟩)) rfl rfl (by kernel_rfl) (by kernel_rfl) (by kernel_rfl) (by kernel_rfl) (by rfl) hs (fun W' hSw => (by
        obtain ⟨s0, s1, s2, s3, s4, s5, s6, s7, s8, -⟩ := hSw
        go_simp; first | done | with_reducible rfl)) ?_
      simp only [List.setIfInBounds_toArray, List.set_cons_zero, List.set_cons_succ]
      refine Disk.z_take 4 46 (v := .slice (some ⟨g3, 0, none⟩) h.kept.length h.kept.length) rfl rfl (by kernel_rfl) (by kernel_rfl) (by kernel_rfl) (by kernel_rfl) (by rfl) hs (fun W' hSw => (by
        obtain ⟨s0, s1, s2, s3, s4, s5, s6, s7, s8, -⟩ := hSw
        go_simp; first | done | with_reducible rfl)) ?_
      simp only [List.setIfInBounds_toArray, List.set_cons_zero, List.set_cons_succ]
      refine Disk.z_take 5 47 (v := .int .i64 a) rfl rfl (by kernel_rfl) (by kernel_rfl) (by kernel_rfl) (by kernel_rfl) (by rfl) hs (fun W' hSw => (by
        obtain ⟨s0, s1, s2, s3, s4, s5, s6, s7, s8, -⟩ := hSw
        go_simp; first | done | with_reducible rfl)) ?_
      simp only [List.setIfInBounds_toArray, List.set_cons_zero, List.set_cons_succ]
      refine Disk.z_take 6 48 (v := .pointer (some ⟨N, 0, none⟩)) rfl rfl (by kernel_rfl) (by kernel_rfl) (by kernel_rfl) (by kernel_rfl) (by rfl) hs (fun W' hSw => (by
        obtain ⟨s0, s1, s2, s3, s4, s5, s6, s7, s8, -⟩ := hSw
        go_simp; first | done | with_reducible rfl)) ?_
      simp only [List.setIfInBounds_toArray, List.set_cons_zero, List.set_cons_succ]
      refine Disk.z_take 7 49 (v := .pointer (some ⟨N, 0, none⟩)) rfl rfl (by kernel_rfl) (by kernel_rfl) (by kernel_rfl) (by kernel_rfl) (by rfl) hs (fun W' hSw => (by
        obtain ⟨s0, s1, s2, s3, s4, s5, s6, s7, s8, -⟩ := hSw
        go_simp; first | done | with_reducible rfl)) ?_
      simp only [List.setIfInBounds_toArray, List.set_cons_zero, List.set_cons_succ]
      refine Disk.z_take 8 50 (v := .pointer (some ⟨N, 0, none⟩)) rfl rfl (by kernel_rfl) (by kernel_rfl) (by kernel_rfl) (by kernel_rfl) (by rfl) hs (fun W' hSw => (by
        obtain ⟨s0, s1, s2, s3, s4, s5, s6, s7, s8, -⟩ := hSw
        go_simp; first | done | with_reducible rfl)) ?_
      simp only [List.setIfInBounds_toArray, List.set_cons_zero, List.set_cons_succ]
      refine Disk.z_take 9 51 (v := .agg #[.slice (some ⟨g1, 0, none⟩) 3200 3200, .slice oa (obC h).length oc]) rfl rfl (by kernel_rfl) (by kernel_rfl) (by kernel_rfl) (by kernel_rfl) (by rfl) hs (fun W' hSw => (by
        obtain ⟨s0, s1, s2, s3, s4, s5, s6, s7, s8, -⟩ := hSw
        go_simp; first | done | with_reducible rfl)) ?_
      simp only [List.setIfInBounds_toArray, List.set_cons_zero, List.set_cons_succ]
      refine Disk.z_take 10 52 (v := .iface 91 (.agg #[.slice (some ⟨g1, 0, none⟩) 3200 3200, .int .i64 a])) rfl rfl (by kernel_rfl) (by kernel_rfl) (by kernel_rfl) (by kernel_rfl) (by rfl) hs (fun W' hSw => (by
        obtain ⟨s0, s1, s2, s3, s4, s5, s6, s7, s8, -⟩ := hSw
        go_simp; first | done | with_reducible rfl)) ?_
      simp only [List.setIfInBounds_toArray, List.set_cons_zero, List.set_cons_succ]
      refine Disk.z_call 11 53 rfl rfl (by kernel_rfl) (by rfl) (f := 53) (args := #[.agg #[.slice (some ⟨g1, 0, none⟩) 3200 3200, .slice oa (obC h).length oc], .iface 91 (.agg #[.slice (some ⟨g1, 0, none⟩) 3200 3200, .int .i64 a])]) (w0 := (w6.setCell ⟨g1, a + 4 + k, none⟩ (.int .i64 y)).drew) (by go_simp) ?_
      have WSS : WS (w6.setCell ⟨g1, a + 4 + k, none⟩ (.int .i64 y)) g1 0 (h.words.set (a + 4 + k) y) := fun j hj => by rw [Nat.zero_add]; exact S1.cell hj
      obtain ⟨mo1, mo2, mo3, mo4, mo5⟩ := MU.out k hi.out
      obtain ⟨bb, hbb⟩ : ∃ bb, bb = hasY (h.words.set (a + 4 + k) y) a := ⟨_, rfl⟩
      obtain ⟨KE, KR⟩ := KK.out k hi.out bb (by rw [hbb, decide_eq_true (by omega : a < 2000)]; rfl)
      have MK := mustOld_any g1 3200 oa oc (obC h) (h.words.set (a + 4 + k) y) a _ (WSS.later (Below.refl _ _).drew) mo1 (Nat.le_refl _) q1' mo2 mo3 (IO7.later (Below.refl _ _).drew) OS OL mo4
      rw [← hbb] at MK
      refine MK.mono ?_
      rintro e w7 ⟨rfl, hb8⟩
      have b67 : Below (w6.setCell ⟨g1, a + 4 + k, none⟩ (.int .i64 y)).heap.size (w6.setCell ⟨g1, a + 4 + k, none⟩ (.int .i64 y)) w7 := bel_after (Below.refl _ _).drew hb8
      have D8 := D7.later b67
      refine ⟨_, rfl, .inr D8, ?_⟩
      simp only [List.setIfInBounds_toArray, List.set_cons_zero, List.set_cons_succ]
      have S1' := S1.later b67
      have S2' := S2.later b67
      have S3' := S3.later b67
      have IO8 := IO7.later b67
      have hbw7 := hb7.trans (b67.mono (Nat.le_trans bN hb7.size))
      refine Disk.z_call 12 54 rfl rfl (by kernel_rfl) (by rfl) (f := 52) (args := #[.slice (some ⟨g3, 0, none⟩) h.kept.length h.kept.length, .int .i64 a, .bool bb]) (w0 := w7) (by go_simp) ?_
      refine (listWith_any g3 h.kept a bb w7 S3' KS KL).mono ?_
      rintro e w8 ⟨⟨g', n', c', rfl, hn', R3', wh⟩, G7⟩
      have szs : (w6.setCell ⟨g1, a + 4 + k, none⟩ (.int .i64 y)).heap.size = w6.heap.size := by simp
      have le6 : w6.heap.size ≤ w7.heap.size := by have := b67.size; omega
      have leB : B ≤ w7.heap.size := Nat.le_trans bN hbw7.size
      rw [szs] at lg1 lg2 lg3
      have ng : g' ≠ N ∧ g1 ≠ g' ∧ g2 ≠ g' ∧ B ≤ g' := by
        rcases wh with e | e <;> omega
      obtain ⟨ng1, ng3, ng4, ng5⟩ := ng
      have D9 := D8.grown G7 (by intro e; cases e; omega)
      refine ⟨_, rfl, .inr D9, ?_⟩
      simp only [List.setIfInBounds_toArray, List.set_cons_zero, List.set_cons_succ]
      have fD := fun j => D9.frozen j
      obtain ⟨t0, t1, t2, t3, t4, t5, t6, t7, t8, -⟩ := id D9
      refine Disk.z_run 13 55 (w' := w8) (v := .pointer (some ⟨N, 0, none⟩)) rfl rfl (by kernel_rfl) (by rfl) (by go_simp; first | done | with_reducible rfl) (.inr D9) ?_
      simp only [List.setIfInBounds_toArray, List.set_cons_zero, List.set_cons_succ]
      refine Disk.z_run 14 56 (w' := w8) (v := .pointer (some ⟨N, 8, none⟩)) rfl rfl (by kernel_rfl) (by rfl) (by go_simp; first | done | with_reducible rfl) (.inr D9) ?_
      simp only [List.setIfInBounds_toArray, List.set_cons_zero, List.set_cons_succ]
      refine Disk.z_skip 15 (w' := w8.setCell ⟨N, 8, none⟩ (.slice (some ⟨g', 0, none⟩) n' c')) rfl rfl (by kernel_rfl) (by rfl) (by go_simp; first | done | with_reducible rfl) (.inl rfl) ?_
      refine Disk.z_done (by kernel_rfl) ?_ _
      have E9 := D9.set8 (.slice (some ⟨g', 0, none⟩) n' c')
      have S1f := (S1'.grown G7 (by intro e; cases e; omega)).setOther (b := N) (i := 8) (by omega) (.slice (some ⟨g', 0, none⟩) n' c')
      have S2f := (S2'.grown G7 (by intro e; cases e; omega)).setOther (b := N) (i := 8) (by omega) (.slice (some ⟨g', 0, none⟩) n' c')
      have S3f := R3'.setOther (b := N) (i := 8) ng1 (.slice (some ⟨g', 0, none⟩) n' c')
      have hbw8 : Below B w w8 := Below.grown hbw7 G7 (Nat.le_trans bN hbw7.size) (fun q hq => by cases hq; omega)
      have hbw9 := hbw8.setCell (p := ⟨N, 8, none⟩) (by show B ≤ N; exact bNN) (.slice (some ⟨g', 0, none⟩) n' c')
      clear t0 t1 t2 t3 t4 t5 t6 t7 t8 D9 D8 D7 hs fD S1 S2 S3 S1' S2' S3' IO7 q1 q2 q3 b67 hb8 G7
      generalize w8.setCell ⟨N, 8, none⟩ (.slice (some ⟨g', 0, none⟩) n' c') = w9 at *
      go_wp2
      go_ret
      refine ⟨by rw [AB]; rfl, hbw9, fun _ => ⟨g', n', c', ?_, ?_, ?_, ?_, ?_, ng1, ng3, ng4, ng5⟩⟩
      · rw [hl.out]
        exact E9
      · rw [put_yes AB, ea, Int.toNat_natCast, Int.toNat_natCast]
        exact S1f
      · exact S2f
      · rw [put_yes AB, ea, Int.toNat_natCast, Int.toNat_natCast]
        exact KR.out _ _ _ S3f
      · rw [put_yes AB, ea, Int.toNat_natCast, Int.toNat_natCast]
        rw [hn']
        exact KE.out.symm
    · rw [ev] at EL
      have hm := mYF (.slice (some ⟨g1, 0, none⟩) 3200 3200) a
      clear ev
      go_enter Tryz.func24, Tryz.ntmps24
      go_wp2_with fail
      refine EL.mono ?_
      rintro e w3 ⟨rfl, hb3⟩
      have D3 := D0.later hb3
      obtain ⟨d0, d1, d2, d3, d4, d5, d6, d7, d8, -⟩ := id D3
      go_wp2_with fail
      refine (FT _ hb3).mono ?_
      rintro e w4 ⟨rfl, hb4⟩
      have b14 := bel_after hb3 hb4
      go_wp2_with fail
      refine (OF _ b14).mono ?_
      rintro e w5 ⟨⟨q, c, rfl, hc, hq⟩, hb5⟩
      have b15 := bel_after b14 hb5
      have HP := fun W => hasPlace_any (some ⟨g1, q, none⟩) (gw h.words a).toNat c i W
      clear d0 d1 d2 d3 d4 d5 d6 d7 d8
      by_cases hi : 0 ≤ i ∧ i < gw h.words a
      case neg =>
        have AB := PN.out hi
        rw [decide_eq_false (by omega)] at HP
        clear OF EL hm hc hq PY PN FT
        go_wp2_with (go_at_call 35; refine (HP _).mono ?_; rintro e wq ⟨rfl, hq⟩; obtain rfl := hq.symm)
        go_ret
        exact ⟨by rw [AB]; rfl, b15.mono bN, fun q => by rw [AB] at q; cases q⟩
      have AB := PY.out hi
      obtain ⟨k, rfl⟩ : ∃ k : Nat, i = k := ⟨i.toNat, by omega⟩
      rw [decide_eq_true (by omega)] at HP
      have OF5 := OF w5 b15
      replace hi : Hid (0 ≤ (k : Int) ∧ (k : Int) < gw h.words a) := hi
      clear EL PN PY OF FT
      go_wp2_with (go_at_call 35; refine (HP _).mono ?_; rintro e wq ⟨rfl, hq⟩; obtain rfl := hq.symm)
      refine OF5.mono ?_
      rintro e w6 ⟨⟨q5, c5, rfl, hc5, hq5⟩, hb6⟩
      obtain rfl : q5 = 0 + (a + 4) := hq5.resolve_left (by have := hi.out; omega)
      rw [Nat.zero_add]
      have b16 := bel_after b15 hb6
      have D6 := D0.later b16
      have P1 := q1.later b16
      have P2 := q2.later b16
      have P3 := q3.later b16
      have hk3 := PL.out k hi.out
      have pc := P1.cell (i := a + 4 + k) (by rw [hl.out]; omega)
      have pf := fun j => P1.frozen j
      have RO := fun W => implRefOf_any x W
      rw [show valK 2 x = a from by unfold valK; rw [if_pos k2, ea], show isK 2 x = true from decide_eq_true k2] at RO
      have kn : k < (gw h.words a).toNat := by have := hi.out; omega
      have kni : (k : Int) < (gw h.words a).toNat := by omega
      have S1 := P1.set (a + 4 + k) y
      have S2 := P2.setOther (b := g1) (i := a + 4 + k) (by omega) (.int .i64 y)
      have S3 := P3.setOther (b := g1) (i := a + 4 + k) (by omega) (.int .i64 y)
      have D7 := D6.set (b := g1) (i := a + 4 + k) (by omega) (.int .i64 y)
      have IO7 := IR.setOther (b := g1) (i := a + 4 + k) (io.later b16) OF1 (.int .i64 y)
      have hb7 := (b16.mono bN).setCell (p := ⟨g1, a + 4 + k, none⟩) (by show B ≤ g1; exact bg1) (.int .i64 y)
      generalize h.words.getD (a + 4 + k) 0 = y0 at *
      generalize (gw h.words a).toNat = nn at *
      clear P1 P2 P3 D3 D6 hq hq5 hc
      go_wp2_with (first | (go_at_call 35; refine (HP _).mono ?_; rintro e wq ⟨rfl, hq⟩; obtain rfl := hq.symm) | (go_at_call 51; refine (RO _).mono ?_; rintro e wq ⟨rfl, hq⟩; obtain rfl := hq.symm))
      have ltN : N < w6.heap.size := by have := D7.lt; simpa using this
      have lg1 := S1.lt
      have lg2 := S2.lt
      have lg3 := S3.lt
      refine Disk.z_plain 15 (fun W' => DX W' N (.slice (some ⟨g1, 0, none⟩) 3200 3200) (.slice oa (obC h).length oc) (.slice (some ⟨g2, 0, none⟩) h.roots.length h.roots.length) (.int .i64 h.old) (.int .i64 h.eden) (.int .i64 h.surv) (.bool h.flip) (.int .i64 h.hash) (.slice (some ⟨g3, 0, none⟩) h.kept.length h.kept.length)) (by kernel_rfl) (D7.later (Below.refl _ _).drew) fun hs => ?_
      refine Disk.z_take 0 42 (v := .pointer (some ⟨N, 0, none⟩)) rfl rfl (by kernel_rfl) (by kernel_rfl) (by kernel_rfl) (by kernel_rfl) (by rfl) hs (fun W' hSw => (by
        obtain ⟨s0, s1, s2, s3, s4, s5, s6, s7, s8, -⟩ := hSw
        go_simp; first | done | with_reducible rfl)) ?_
      simp only [List.setIfInBounds_toArray, List.set_cons_zero, List.set_cons_succ]
      refine Disk.z_take 1 43 (v := .pointer (some ⟨N, 0, none⟩)) rfl rfl (by kernel_rfl) (by kernel_rfl) (by kernel_rfl) (by kernel_rfl) (by rfl) hs (fun W' hSw => (by
        obtain ⟨s0, s1, s2, s3, s4, s5, s6, s7, s8, -⟩ := hSw
        go_simp; first | done | with_reducible rfl)) ?_
      simp only [List.setIfInBounds_toArray, List.set_cons_zero, List.set_cons_succ]
      refine Disk.z_take 2 44 (v := .pointer (some ⟨N, 0, none⟩)) rfl rfl (by kernel_rfl) (by kernel_rfl) (by kernel_rfl) (by kernel_rfl) (by rfl) hs (fun W' hSw => (by
        obtain ⟨s0, s1, s2, s3, s4, s5, s6, s7, s8, -⟩ := hSw
        go_simp; first | done | with_reducible rfl)) ?_
      simp only [List.setIfInBounds_toArray, List.set_cons_zero, List.set_cons_succ]
      refine Disk.z_take 3 45 (v := .pointer (some ⟨N, 8, none⟩)) rfl rfl (by kernel_rfl) (by kernel_rfl) (by kernel_rfl) (by kernel_rfl) (by rfl) hs (fun W' hSw => (by
        obtain ⟨s0, s1, s2, s3, s4, s5, s6, s7, s8, -⟩ := hSw
        go_simp; first | done | with_reducible rfl)) ?_
      simp only [List.setIfInBounds_toArray, List.set_cons_zero, List.set_cons_succ]
      refine Disk.z_take 4 46 (v := .slice (some ⟨g3, 0, none⟩) h.kept.length h.kept.length) rfl rfl (by kernel_rfl) (by kernel_rfl) (by kernel_rfl) (by kernel_rfl) (by rfl) hs (fun W' hSw => (by
        obtain ⟨s0, s1, s2, s3, s4, s5, s6, s7, s8, -⟩ := hSw
        go_simp; first | done | with_reducible rfl)) ?_
      simp only [List.setIfInBounds_toArray, List.set_cons_zero, List.set_cons_succ]
      refine Disk.z_take 5 47 (v := .int .i64 a) rfl rfl (by kernel_rfl) (by kernel_rfl) (by kernel_rfl) (by kernel_rfl) (by rfl) hs (fun W' hSw => (by
        obtain ⟨s0, s1, s2, s3, s4, s5, s6, s7, s8, -⟩ := hSw
        go_simp; first | done | with_reducible rfl)) ?_
      simp only [List.setIfInBounds_toArray, List.set_cons_zero, List.set_cons_succ]
      refine Disk.z_take 6 48 (v := .pointer (some ⟨N, 0, none⟩)) rfl rfl (by kernel_rfl) (by kernel_rfl) (by kernel_rfl) (by kernel_rfl) (by rfl) hs (fun W' hSw => (by
        obtain ⟨s0, s1, s2, s3, s4, s5, s6, s7, s8, -⟩ := hSw
        go_simp; first | done | with_reducible rfl)) ?_
      simp only [List.setIfInBounds_toArray, List.set_cons_zero, List.set_cons_succ]
      refine Disk.z_take 7 49 (v := .pointer (some ⟨N, 0, none⟩)) rfl rfl (by kernel_rfl) (by kernel_rfl) (by kernel_rfl) (by kernel_rfl) (by rfl) hs (fun W' hSw => (by
        obtain ⟨s0, s1, s2, s3, s4, s5, s6, s7, s8, -⟩ := hSw
        go_simp; first | done | with_reducible rfl)) ?_
      simp only [List.setIfInBounds_toArray, List.set_cons_zero, List.set_cons_succ]
      refine Disk.z_take 8 50 (v := .pointer (some ⟨N, 0, none⟩)) rfl rfl (by kernel_rfl) (by kernel_rfl) (by kernel_rfl) (by kernel_rfl) (by rfl) hs (fun W' hSw => (by
        obtain ⟨s0, s1, s2, s3, s4, s5, s6, s7, s8, -⟩ := hSw
        go_simp; first | done | with_reducible rfl)) ?_
      simp only [List.setIfInBounds_toArray, List.set_cons_zero, List.set_cons_succ]
      refine Disk.z_take 9 51 (v := .agg #[.slice (some ⟨g1, 0, none⟩) 3200 3200, .slice oa (obC h).length oc]) rfl rfl (by kernel_rfl) (by kernel_rfl) (by kernel_rfl) (by kernel_rfl) (by rfl) hs (fun W' hSw => (by
        obtain ⟨s0, s1, s2, s3, s4, s5, s6, s7, s8, -⟩ := hSw
        go_simp; first | done | with_reducible rfl)) ?_
      simp only [List.setIfInBounds_toArray, List.set_cons_zero, List.set_cons_succ]
      refine Disk.z_take 10 52 (v := .iface 93 (.agg #[.slice (some ⟨g1, 0, none⟩) 3200 3200, .int .i64 a])) rfl rfl (by kernel_rfl) (by kernel_rfl) (by kernel_rfl) (by kernel_rfl) (by rfl) hs (fun W' hSw => (by
        obtain ⟨s0, s1, s2, s3, s4, s5, s6, s7, s8, -⟩ := hSw
        go_simp; first | done | with_reducible rfl)) ?_
      simp only [List.setIfInBounds_toArray, List.set_cons_zero, List.set_cons_succ]
      refine Disk.z_call 11 53 rfl rfl (by kernel_rfl) (by rfl) (f := 53) (args := #[.agg #[.slice (some ⟨g1, 0, none⟩) 3200 3200, .slice oa (obC h).length oc], .iface 93 (.agg #[.slice (some ⟨g1, 0, none⟩) 3200 3200, .int .i64 a])]) (w0 := (w6.setCell ⟨g1, a + 4 + k, none⟩ (.int .i64 y)).drew) (by go_simp) ?_
      obtain ⟨bb, hbb⟩ : ∃ bb, bb = false := ⟨_, rfl⟩
      obtain ⟨KE, KR⟩ := KK.out k hi.out bb (by rw [hbb, decide_eq_false (by omega : ¬ a < 2000)]; rfl)
      have MK := fun W => mustYoung_any (.slice (some ⟨g1, 0, none⟩) 3200 3200) (some ⟨g1, 0, none⟩) oa 3200 3200 (obC h).length oc a W
      rw [← hbb] at MK
      refine (MK _).mono ?_
      rintro e w7 ⟨rfl, hb8⟩
      have b67 : Below (w6.setCell ⟨g1, a + 4 + k, none⟩ (.int .i64 y)).heap.size (w6.setCell ⟨g1, a + 4 + k, none⟩ (.int .i64 y)) w7 := bel_after (Below.refl _ _).drew hb8
      have D8 := D7.later b67
      refine ⟨_, rfl, .inr D8, ?_⟩
      simp only [List.setIfInBounds_toArray, List.set_cons_zero, List.set_cons_succ]
      have S1' := S1.later b67
      have S2' := S2.later b67
      have S3' := S3.later b67
      have IO8 := IO7.later b67
      have hbw7 := hb7.trans (b67.mono (Nat.le_trans bN hb7.size))
      refine Disk.z_call 12 54 rfl rfl (by kernel_rfl) (by rfl) (f := 52) (args := #[.slice (some ⟨g3, 0, none⟩) h.kept.length h.kept.length, .int .i64 a, .bool bb]) (w0 := w7) (by go_simp) ?_
      refine (listWith_any g3 h.kept a bb w7 S3' KS KL).mono ?_
      rintro e w8 ⟨⟨g', n', c', rfl, hn', R3', wh⟩, G7⟩
      have szs : (w6.setCell ⟨g1, a + 4 + k, none⟩ (.int .i64 y)).heap.size = w6.heap.size := by simp
      have le6 : w6.heap.size ≤ w7.heap.size := by have := b67.size; omega
      have leB : B ≤ w7.heap.size := Nat.le_trans bN hbw7.size
      rw [szs] at lg1 lg2 lg3
      have ng : g' ≠ N ∧ g1 ≠ g' ∧ g2 ≠ g' ∧ B ≤ g' := by
        rcases wh with e | e <;> omega
      obtain ⟨ng1, ng3, ng4, ng5⟩ := ng
      have D9 := D8.grown G7 (by intro e; cases e; omega)
      refine ⟨_, rfl, .inr D9, ?_⟩
      simp only [List.setIfInBounds_toArray, List.set_cons_zero, List.set_cons_succ]
      have fD := fun j => D9.frozen j
      obtain ⟨t0, t1, t2, t3, t4, t5, t6, t7, t8, -⟩ := id D9
      refine Disk.z_run 13 55 (w' := w8) (v := .pointer (some ⟨N, 0, none⟩)) rfl rfl (by kernel_rfl) (by rfl) (by go_simp; first | done | with_reducible rfl) (.inr D9) ?_
      simp only [List.setIfInBounds_toArray, List.set_cons_zero, List.set_cons_succ]
      refine Disk.z_run 14 56 (w' := w8) (v := .pointer (some ⟨N, 8, none⟩)) rfl rfl (by kernel_rfl) (by rfl) (by go_simp; first | done | with_reducible rfl) (.inr D9) ?_
      simp only [List.setIfInBounds_toArray, List.set_cons_zero, List.set_cons_succ]
      refine Disk.z_skip 15 (w' := w8.setCell ⟨N, 8, none⟩ (.slice (some ⟨g', 0, none⟩) n' c')) rfl rfl (by kernel_rfl) (by rfl) (by go_simp; first | done | with_reducible rfl) (.inl rfl) ?_
      refine Disk.z_done (by kernel_rfl) ?_ _
      have E9 := D9.set8 (.slice (some ⟨g', 0, none⟩) n' c')
      have S1f := (S1'.grown G7 (by intro e; cases e; omega)).setOther (b := N) (i := 8) (by omega) (.slice (some ⟨g', 0, none⟩) n' c')
      have S2f := (S2'.grown G7 (by intro e; cases e; omega)).setOther (b := N) (i := 8) (by omega) (.slice (some ⟨g', 0, none⟩) n' c')
      have S3f := R3'.setOther (b := N) (i := 8) ng1 (.slice (some ⟨g', 0, none⟩) n' c')
      have hbw8 : Below B w w8 := Below.grown hbw7 G7 (Nat.le_trans bN hbw7.size) (fun q hq => by cases hq; omega)
      have hbw9 := hbw8.setCell (p := ⟨N, 8, none⟩) (by show B ≤ N; exact bNN) (.slice (some ⟨g', 0, none⟩) n' c')
      clear t0 t1 t2 t3 t4 t5 t6 t7 t8 D9 D8 D7 hs fD S1 S2 S3 S1' S2' S3' IO7 q1 q2 q3 b67 hb8 G7
      generalize w8.setCell ⟨N, 8, none⟩ (.slice (some ⟨g', 0, none⟩) n' c') = w9 at *
      go_wp2
      go_ret
      refine ⟨by rw [AB]; rfl, hbw9, fun _ => ⟨g', n', c', ?_, ?_, ?_, ?_, ?_, ng1, ng3, ng4, ng5⟩⟩
      · rw [hl.out]
        exact E9
      · rw [put_yes AB, ea, Int.toNat_natCast, Int.toNat_natCast]
        exact S1f
      · exact S2f
      · rw [put_yes AB, ea, Int.toNat_natCast, Int.toNat_natCast]
        exact KR.out _ _ _ S3f
      · rw [put_yes AB, ea, Int.toNat_natCast, Int.toNat_natCast]
        rw [hn']
        exact KE.out.symm

end Go.Proofs.YtklafifiphbibaaGreat
