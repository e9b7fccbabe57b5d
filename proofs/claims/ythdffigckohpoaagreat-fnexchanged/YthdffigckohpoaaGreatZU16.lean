import Derived.Test.YthdffigckohpoaaGreatZU3
import Derived.Test.YthdffigckohpoaaGreatZU2
import Derived.Test.YthdffigckohpoaaGreatZHImpA
/- keptObjects of the program once more: its answer has a row of its own. -/
namespace Go.Proofs.YthdffigckohpoaaGreat
open Go.RowKit

set_option maxRecDepth 100000 in
set_option maxHeartbeats 1600000 in
theorem keptObjects_own (b o cap : Nat) (u : Value) (W : List Int) (l : List Nat) (w : World) (hW : WS w b o W) (hlen : W.length = 3200) (hcap : 3200 ≤ cap) (hu : IR w u (ints l)) (hl : l.length ≤ 3200)
    (hobj : ∀ a, a ∈ l → a + 4 ≤ 3200 ∧ nx W a ≤ 3200 ∧ objB W a = true) :
    Calls Tryz.prog 73 #[.slice (some ⟨b, o, none⟩) 3200 cap, u] w fun e w' => (∃ v, e = .returned v ∧ w'.ownsRow w.heap.size 2 1 v (keptOf W l).length (icells (keptOf W l))) ∧ Below w.heap.size w w' := by
  have HLN : Hid (W.length = 3200) := hlen
  obtain ⟨ua, uc, rfl, hc⟩ := intsI hu
  clear hlen hu
  go_enter Tryz.func73, Tryz.ntmps73
  go_wp2
  go_loopw [5, 10] (fun ov kv wr => ∃ (k : Nat) (v0 : Value), kv = .int .i64 k ∧ v0 = ov ∧ k ≤ l.length ∧ wr.ownsRow w.heap.size 2 1 v0 (keptI W (l.take k)).length (icells (ints (keptI W (l.take k)))) ∧ Below w.heap.size w wr) (fun _ kv _ => l.length - (intOf kv).toNat)
  case atStart => exact ⟨0, _, rfl, rfl, Nat.zero_le _, ⟨by simp [keptI, icells, ints], .inl ⟨rfl, rfl⟩⟩, Below.refl _ _⟩
  case round =>
    obtain ⟨k, ov, rfl, rfl, hk, hown, hb⟩ := hrel
    by_cases hlt : k < l.length
    · obtain ⟨b', o', e', hci⟩ := hc k hlt
      subst e'
      have ci := cell_later hb hci
      obtain ⟨q1, q2, q3⟩ := hobj _ (lget_mem l k hlt)
      have KS := keptI_snoc W (l.take k) (l.getD k 0)
      rw [← ltake_snoc l k hlt] at KS
      have FA := fieldsAt_any b o cap W (l.getD k 0) wr (hW.later hb) HLN.out hcap q1 (size_of (headB_of q3)) q2
      have hfl : (flds W (l.getD k 0)).length ≤ 60 := by rw [flds_length]; have := size_of (headB_of q3); omega
      have HYf := fun u wq hu' => hasYoung_any u (flds W (l.getD k 0)) wq hu' (by omega)
      rw [show (flds W (l.getD k 0)).any youngB = hasY W (l.getD k 0) from rfl] at HYf
      clear hci
      generalize l.getD k 0 = a at *
      by_cases h2 : a < 2000
      · have D : decide (2000 ≤ (a : Int)) = false := decide_eq_false (by omega)
        rw [decide_eq_true h2] at KS
        generalize hasY W a = y at *
        cases y
        · have KS' : Hid (keptI W (l.take (k + 1)) = keptI W (l.take k)) := KS
          clear KS
          go_wp2_with (first
            | (go_at_call 45; refine (isYoung_any _ _).mono ?_; rintro e wq ⟨rfl, hq⟩; obtain rfl := hq.symm; rw [D])
            | (go_at_call 44; refine FA.mono ?_; rintro e w2 ⟨⟨fv, rfl, hfv⟩, hw2⟩; obtain rfl := hw2.symm)
            | (go_at_call 98; refine (HYf _ _ hfv).mono ?_; rintro e wq ⟨rfl, hq⟩; obtain rfl := hq.symm))
          exact ⟨⟨k + 1, ov, by go_num, rfl, by omega, by rw [KS'.out]; exact hown, hb⟩, by simp [intOf]; omega⟩
        · have KS' : Hid (keptI W (l.take (k + 1)) = keptI W (l.take k) ++ [a]) := KS
          have hlk : (keptI W (l.take k)).length ≤ 3200 := by
            have := List.length_filter_le (fun a => decide (a < 2000) && hasY W a) (l.take k)
            rw [List.length_take] at this
            unfold keptI
            omega
          clear KS
          generalize keptI W (l.take k) = ks at *
          have hown2 := own_later hown (bel_one wr (.cells #[.int .i64 (a : Int)] 2))
          have hb2 := bel_after hb (bel_one wr (.cells #[.int .i64 (a : Int)] 2))
          have hcc : ∀ W : World, (W.alloc (.cells #[.int .i64 (a : Int)] 2)).cell? ⟨W.heap.size, 0, none⟩ = some (.int .i64 (a : Int)) := fun W => by simp
          have hsz := hb.size
          go_wp2_with (first
            | (go_at_call 45; refine (isYoung_any _ _).mono ?_; rintro e wq ⟨rfl, hq⟩; obtain rfl := hq.symm; rw [D])
            | (go_at_call 44; refine FA.mono ?_; rintro e w2 ⟨⟨fv, rfl, hfv⟩, hw2⟩; obtain rfl := hw2.symm)
            | (go_at_call 98; refine (HYf _ _ hfv).mono ?_; rintro e wq ⟨rfl, hq⟩; obtain rfl := hq.symm)
            | (at_builtin; refine app_int _ rfl _ _ rfl _ _ ks.length (icells (ints ks)) rfl hown2 _ 1 (a : Int) rfl (hcc _) (by omega) (by simp; omega) ?_; intro v4 w4 hown4 hg4; have hb4 := own_grown hb2 hown2 hg4 (by simp; omega)))
          exact ⟨⟨k + 1, v4, by go_num, rfl, by omega, by rw [KS'.out]; simpa [icells, ints] using hown4, hb4⟩, by simp [intOf]; omega⟩
      · have D : decide (2000 ≤ (a : Int)) = true := decide_eq_true (by omega)
        rw [decide_eq_false h2] at KS
        have KS' : Hid (keptI W (l.take (k + 1)) = keptI W (l.take k)) := KS
        clear KS
        go_wp2_with (go_at_call 45; refine (isYoung_any _ _).mono ?_; rintro e wq ⟨rfl, hq⟩; obtain rfl := hq.symm; rw [D])
        exact ⟨⟨k + 1, ov, by go_num, rfl, by omega, by rw [KS'.out]; exact hown, hb⟩, by simp [intOf]; omega⟩
    · obtain rfl : k = l.length := by omega
      rw [List.take_length] at hown
      go_wp2
      exact bodyPost_ret (v := ov) (by simp [results, Tryz.results73, go_sem]) rfl ⟨⟨ov, rfl, by have e : (keptOf W l).length = (keptI W l).length := ints_length _; rw [e]; exact hown⟩, hb⟩

end Go.Proofs.YthdffigckohpoaaGreat

/- The box of a draft; the fields of an object with their place. -/
namespace Go.Proofs.YthdffigckohpoaaGreat
open Go.RowKit

/-- The box of a draft. -/
structure DY (W : World) (N : Nat) (u0 u1 u2 u3 u4 u5 u6 u7 u8 : Value) : Prop where
  c0 : W.cell? ⟨N, 0, none⟩ = some u0
  c1 : W.cell? ⟨N, 1, none⟩ = some u1
  c2 : W.cell? ⟨N, 2, none⟩ = some u2
  c3 : W.cell? ⟨N, 3, none⟩ = some u3
  c4 : W.cell? ⟨N, 4, none⟩ = some u4
  c5 : W.cell? ⟨N, 5, none⟩ = some u5
  c6 : W.cell? ⟨N, 6, none⟩ = some u6
  c7 : W.cell? ⟨N, 7, none⟩ = some u7
  c8 : W.cell? ⟨N, 8, none⟩ = some u8
  row : ∃ f, W.rowIs N 49 9 f
theorem DY.lt {W : World} {N : Nat} {u0 u1 u2 u3 u4 u5 u6 u7 u8 : Value} (h : DY W N u0 u1 u2 u3 u4 u5 u6 u7 u8) : N < W.heap.size := by
  obtain ⟨f, F⟩ := h.row
  exact F.lt
theorem DY.frozen {W : World} {N : Nat} {u0 u1 u2 u3 u4 u5 u6 u7 u8 : Value} (h : DY W N u0 u1 u2 u3 u4 u5 u6 u7 u8) (j : Nat) : W.frozen? ⟨N, j, none⟩ = false := by
  obtain ⟨f, F⟩ := h.row
  exact F.frozen j
theorem DY.block {W W' : World} {N : Nat} {u0 u1 u2 u3 u4 u5 u6 u7 u8 : Value} (h : DY W N u0 u1 u2 u3 u4 u5 u6 u7 u8) (hb : W'.heap[N]? = W.heap[N]?) : DY W' N u0 u1 u2 u3 u4 u5 u6 u7 u8 := by
  obtain ⟨f, F⟩ := h.row
  have e : ∀ o u, W.cell? ⟨N, o, none⟩ = some u → W'.cell? ⟨N, o, none⟩ = some u := fun o u q => (World.cell?_of_block (w := W) (a := ⟨N, o, none⟩) hb).trans q
  exact ⟨e _ _ h.c0, e _ _ h.c1, e _ _ h.c2, e _ _ h.c3, e _ _ h.c4, e _ _ h.c5, e _ _ h.c6, e _ _ h.c7, e _ _ h.c8, ⟨f, F.of_block hb⟩⟩
theorem DY.later {W W' : World} {N : Nat} {u0 u1 u2 u3 u4 u5 u6 u7 u8 : Value} (h : DY W N u0 u1 u2 u3 u4 u5 u6 u7 u8) (hb : Below W.heap.size W W') : DY W' N u0 u1 u2 u3 u4 u5 u6 u7 u8 := h.block (hb.block _ h.lt)
theorem DY.grown {W W' : World} {N : Nat} {r : Option Nat} {u0 u1 u2 u3 u4 u5 u6 u7 u8 : Value} (h : DY W N u0 u1 u2 u3 u4 u5 u6 u7 u8) (hg : W.grownBy W' r) (hr : some N ≠ r) : DY W' N u0 u1 u2 u3 u4 u5 u6 u7 u8 := h.block (hg.block _ h.lt hr)
theorem DY.set {W : World} {N b i : Nat} {u0 u1 u2 u3 u4 u5 u6 u7 u8 : Value} (h : DY W N u0 u1 u2 u3 u4 u5 u6 u7 u8) (hb : N ≠ b) (v : Value) : DY (W.setCell ⟨b, i, none⟩ v) N u0 u1 u2 u3 u4 u5 u6 u7 u8 := h.block (Below.heap_setCell _ _ _ _ hb)
theorem DY.set8 {W : World} {N : Nat} {u0 u1 u2 u3 u4 u5 u6 u7 u8 : Value} (h : DY W N u0 u1 u2 u3 u4 u5 u6 u7 u8) (v : Value) : DY (W.setCell ⟨N, 8, none⟩ v) N u0 u1 u2 u3 u4 u5 u6 u7 v := by
  obtain ⟨f, F⟩ := h.row
  have F' := F.set 8 v
  have e : ∀ o u, o ≠ 8 → W.cell? ⟨N, o, none⟩ = some u → (W.setCell ⟨N, 8, none⟩ v).cell? ⟨N, o, none⟩ = some u := fun o u ho q => by
    rw [World.cell?_setCell_other]
    · exact q
    · intro k
      simp at k <;> omega
  exact ⟨e _ _ (by omega) h.c0, e _ _ (by omega) h.c1, e _ _ (by omega) h.c2, e _ _ (by omega) h.c3, e _ _ (by omega) h.c4, e _ _ (by omega) h.c5, e _ _ (by omega) h.c6, e _ _ (by omega) h.c7, by rw [F'.cell (by omega), if_pos rfl], ⟨_, F'⟩⟩

theorem DY.new (w : World) (u0 u1 u2 u3 u4 u5 u6 u7 u8 : Value) : DY (w.alloc (.cells #[u0, u1, u2, u3, u4, u5, u6, u7, u8] 49)) w.heap.size u0 u1 u2 u3 u4 u5 u6 u7 u8 :=
  ⟨cell_new w _ _ _ rfl 0 _ rfl, cell_new w _ _ _ rfl 1 _ rfl, cell_new w _ _ _ rfl 2 _ rfl, cell_new w _ _ _ rfl 3 _ rfl, cell_new w _ _ _ rfl 4 _ rfl, cell_new w _ _ _ rfl 5 _ rfl, cell_new w _ _ _ rfl 6 _ rfl, cell_new w _ _ _ rfl 7 _ rfl, cell_new w _ _ _ rfl 8 _ rfl, ⟨_, row_any w _ 49⟩⟩
theorem fieldsAt_w (g cap : Nat) (W : List Int) (a m : Nat) (w : World) (hW : WS w g 0 W) (hl : W.length = 3200) (hc : 3200 ≤ cap) (ha : a + 4 ≤ 3200) (hm : gw W a = (m : Int)) (m60 : m ≤ 60) (hn : nx W a ≤ 3200) :
    Calls Tryz.prog 44 #[.slice (some ⟨g, 0, none⟩) 3200 cap, .int .i64 a] w fun e w' => (∃ q c, e = .returned (.slice (some ⟨g, q, none⟩) m c) ∧ m ≤ c ∧ (m = 0 ∨ q = a + 4)) ∧ w' = w := by
  have B := behind_any g 0 cap W a w hW hl ha (by omega)
  have hn' : nx W a = a + 4 + m := by unfold nx; rw [hm]; rfl
  rw [hn'] at B hn
  clear hm hW hl hn'
  go_enter Tryz.func44, Tryz.ntmps44
  go_wp2_with fail
  refine B.mono ?_
  rintro x w1 ⟨rfl, rfl⟩
  go_wp2
  · have h0 : m = 0 := by omega
    go_ret
    exact ⟨⟨_, _, rfl, by omega, .inl h0⟩, rfl⟩
  · go_ret
    exact ⟨⟨_, _, rfl, by omega, .inr (by omega)⟩, rfl⟩
theorem own_osY {w : World} {B n : Nat} {v : Value} {xs : List Value} (h : w.ownsRow B 2 1 v n xs) : Disk.OS w 2 1 v n ∧ ∀ b, Disk.rowOf v n = some b → B ≤ b := by
  rcases h.2 with ⟨rfl, rfl⟩ | ⟨g, cap, cur, rfl, hB, hh, h1, h2, h3, h4⟩
  · exact ⟨⟨_, _, rfl, .inl rfl⟩, fun b q => (zero_row q).elim⟩
  · exact ⟨⟨_, _, rfl, .inr ⟨g, cur.size, fun i => cur[i]?.getD undef, rfl, by omega, ⟨cur, hh, rfl, fun i hi => by simp [hi]⟩⟩⟩, fun b q => by have := rowof q; omega⟩
theorem HN.of_own3Y {B B3 g1 g2 c1 c2 : Nat} {w : World} {v3 : Value} {h : Hp} (r1 : RI w g1 h.words c1) (r2 : RI w g2 h.roots c2) (o3 : w.ownsRow B3 2 1 v3 h.kept.length (icells h.kept))
    (b1 : B ≤ g1) (b2 : B ≤ g2) (_b3 : B ≤ B3) (d12 : g1 ≠ g2) (d13 : g1 < B3) (d23 : g2 < B3) :
    HN B w (.agg #[.slice (some ⟨g1, 0, none⟩) h.words.length c1, .slice (some ⟨g2, 0, none⟩) h.roots.length c2, .int .i64 h.old, .int .i64 h.eden, .int .i64 h.surv, .bool h.flip, .int .i64 h.hash, v3]) h := by
  obtain ⟨s3, k3⟩ := own_osY o3
  exact ⟨_, _, _, rfl, ⟨r1.os, r2.os, s3⟩, ⟨r1.ir r1.le, r2.ir r2.le, IR_of_owns o3⟩, ⟨fun b k => by have := rowof k; omega, fun b k => by have := rowof k; omega, fun b k => by have := k3 b k; omega⟩,
    fun b k k' => by have := rowof k; have := rowof k'; omega, fun b k k' => by have := rowof k; have := k3 b k'; omega, fun b k k' => by have := rowof k; have := k3 b k'; omega⟩
theorem own_blockY {w w' : World} {B n : Nat} {v : Value} {xs : List Value} (h : w.ownsRow B 2 1 v n xs) (hb : ∀ b, B ≤ b → w'.heap[b]? = w.heap[b]?) : w'.ownsRow B 2 1 v n xs := by
  obtain ⟨hl, h⟩ := h
  refine ⟨hl, ?_⟩
  rcases h with e | ⟨g, cap, cur, e, hB, hh, r⟩
  · exact .inl e
  · exact .inr ⟨g, cap, cur, e, hB, (hb g hB).trans hh, r⟩

end Go.Proofs.YthdffigckohpoaaGreat
