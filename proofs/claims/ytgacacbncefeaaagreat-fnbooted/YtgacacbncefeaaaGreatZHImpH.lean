/- hashesOk of the program. -/
import Derived.Test.YtgacacbncefeaaaGreatZHImpG
import Derived.Lib.OwnBridge
namespace Go.Proofs.YtgacacbncefeaaaGreat
open Go.RowKit

theorem compact_len {zs : List Int} (hs : zs.Pairwise (· ≤ ·)) : (Lib.compact zs).length = zs.length ↔ zs.Nodup := by
  unfold Lib.compact Lib.compactUpTo
  rw [List.length_map]
  have e : ((List.range zs.length).filter (Lib.keeps zs.toArray)).length = zs.length ↔ ∀ j, j < zs.length → Lib.keeps zs.toArray j = true := by
    have := List.length_filter_eq_length_iff (l := List.range zs.length) (p := Lib.keeps zs.toArray)
    rw [List.length_range] at this
    rw [this]
    exact ⟨fun h j hj => h j (List.mem_range.2 hj), fun h j hj => h j (List.mem_range.1 hj)⟩
  rw [e, List.nodup_iff_pairwise_ne, List.pairwise_iff_getElem]
  rw [List.pairwise_iff_getElem] at hs
  constructor
  · intro h i j hi hj hij q
    have k := h j hj
    unfold Lib.keeps at k
    have k := (of_decide_eq_true k).resolve_left (by omega)
    have h1 : zs.toArray[j]! = zs[j] := by simp [hj]
    have h2 : zs.toArray[j - 1]! = zs[j - 1] := by simp [show j - 1 < zs.length by omega]
    rw [h1, h2] at k
    have b := hs (j - 1) j (by omega) hj (by omega)
    have c : zs[i] ≤ zs[j - 1] := by
      rcases Nat.lt_or_ge i (j - 1) with q | q
      · exact hs i (j - 1) hi (by omega) q
      · have : i = j - 1 := by omega
        simp [this]
    omega
  · intro h j hj
    unfold Lib.keeps
    refine decide_eq_true ?_
    by_cases e0 : j = 0
    · exact .inl e0
    · refine .inr fun q => ?_
      have h1 : zs.toArray[j]! = zs[j] := by simp [hj]
      have h2 : zs.toArray[j - 1]! = zs[j - 1] := by simp [show j - 1 < zs.length by omega]
      rw [h1, h2] at q
      exact h (j - 1) j (by omega) hj (by omega) q.symm
theorem sorted_ints (zs : List Int) : (zs.mergeSort fun x y => decide (x ≤ y)).Pairwise (· ≤ ·) := by
  have h := List.pairwise_mergeSort (le := fun x y : Int => decide (x ≤ y)) (fun a b c h1 h2 => by simp at *; omega) (fun a b => by simp; omega) zs
  exact h.imp (fun h => by simpa using h)
theorem perm_nodup (zs : List Int) : (zs.mergeSort fun x y => decide (x ≤ y)).Nodup ↔ zs.Nodup := (List.mergeSort_perm zs _).nodup_iff

/-- Sort and Compact of an own row: how many are left. -/
theorem sort_any (v : Value) (zs : List Int) (B : Nat) (w : World) (ho : w.ownsRow B 2 1 v zs.length (icells zs)) (hl : zs.length ≤ 1000000) :
    Calls Tryz.prog 105 #[v] w fun e w' => e = .returned (.tuple #[]) ∧ w'.ownsRow B 2 1 v zs.length (icells (zs.mergeSort fun x y => decide (x ≤ y))) ∧ (∀ w0, Below B w0 w → Below B w0 w') := by
  by_cases hv : v = .slice none 0 0
  · subst hv
    have h0 : zs.length = 0 := by
      rcases ho.2 with ⟨_, e⟩ | ⟨g, cap, cur, e, _⟩
      · exact e
      · cases e
    obtain rfl := List.length_eq_zero_iff.1 h0
    refine (AnyM.slices_Sort_int_none Tryz.laysSortI none 0 w).mono ?_
    rintro e w' ⟨rfl, rfl⟩
    exact ⟨rfl, by simpa using ho, fun _ h => h⟩
  · obtain ⟨g, cap, rfl, hB, hg, hn, hm, _, hH⟩ := Lib.holds_of_ownsRow (enc := Value.int .i64) (zs := zs) ho hv
    refine (AnyM.slices_Sort_int Tryz.laysSortI g 0 cap zs w hH hg (by omega)).mono ?_
    rintro e w' ⟨rfl, n, os, rfl⟩
    have h1 := Lib.ownsRow_putRow (enc := Value.int .i64) (q := n) (k := zs.length) (ys := zs.mergeSort fun x y => decide (x ≤ y)) ho (by simp) (Nat.le_refl _)
    rw [List.take_of_length_le (by simp)] at h1
    have hgr : ∀ (a : World) (os : Array Obj), Below a.heap.size a (Sort.grow a os) := fun a os => ⟨rfl, rfl, rfl, by simp [Sort.grow], fun k hk => by simp [Sort.grow, Array.getElem?_append, hk]⟩
    refine ⟨rfl, own_later h1 (hgr _ _), fun w0 h => ?_⟩
    have h2 := Lib.below_putRow (enc := Value.int .i64) (q := n) (g := g) (d := (zs.mergeSort fun x y => decide (x ≤ y)).toArray) h hB
    exact h2.trans ((hgr _ _).mono (by simp [Sort.putRow, Sort.mapBlock, Sort.ahead]; omega))
theorem compact_any (v : Value) (zs : List Int) (B : Nat) (w : World) (ho : w.ownsRow B 2 1 v zs.length (icells zs)) (hl : zs.length ≤ 1000000) :
    Calls Tryz.prog 106 #[v] w fun e w' => (∃ ao cap, e = .returned (.slice ao (Lib.compact zs).length cap)) ∧ (∀ w0, Below B w0 w → Below B w0 w') := by
  by_cases hv : v = .slice none 0 0
  · subst hv
    have h0 : zs.length = 0 := by
      rcases ho.2 with ⟨_, e⟩ | ⟨g, cap, cur, e, _⟩
      · exact e
      · cases e
    obtain rfl := List.length_eq_zero_iff.1 h0
    refine (AnyG.slices_Compact_int_empty Tryz.laysCompactI none 0 w).mono ?_
    rintro e w' ⟨rfl, rfl⟩
    exact ⟨⟨_, _, rfl⟩, fun _ h => h⟩
  · obtain ⟨g, cap, rfl, hB, hg, hn, hm, _, hH⟩ := Lib.holds_of_ownsRow (enc := Value.int .i64) (zs := zs) ho hv
    refine (AnyG.slices_Compact_int Tryz.laysCompactI g 0 cap zs w hH (by omega) hn).mono ?_
    rintro e w' ⟨rfl, n, rfl⟩
    exact ⟨⟨_, _, rfl⟩, fun w0 h => Lib.below_putRow h hB⟩

theorem own_lowI' {w : World} {B e size n b : Nat} {v : Value} {xs : List Value} (h : w.ownsRow B e size v n xs) (hk : v.ownBlock = some b) : B ≤ b := by
  rcases h.2 with ⟨rfl, _⟩ | ⟨g, cap, cur, rfl, hg, _⟩
  · cases hk
  · cases hk; exact hg
def hoP (h : Hp) (l : List Nat) : Prop := (1 ≤ h.hash ∧ h.hash ≤ 1000000000) ∧ (∀ a, a ∈ l → gw h.words (a + 2) < h.hash) ∧ (hashesOf h.words l).Nodup

def HoOut (h : Hp) (l : List Nat) (e : Ending) : Prop := ∃ ok : Bool, e = .returned (.bool ok) ∧ (ok = true ↔ hoP h l)
theorem hdF (a b c d : Int) (w : World) : (Instr.field 100 (.agg #[.int .i64 a, .int .i64 b, .int .i64 c, .int .i64 d]) 2).run Tryz.prog w = .ok (.int .i64 c) w := by kernel_rfl

set_option maxRecDepth 100000 in
set_option maxHeartbeats 1600000 in
theorem hashesOk_any (v u : Value) (h : Hp) (l : List Nat) (w : World) (hv : HR w v h) (hu : IR w u (ints l)) (hl : l.length ≤ 3200) (hlen : h.words.length = 3200)
    (hobj : ∀ a, a ∈ l → a + 4 ≤ 3200) :
    Calls Tryz.prog 79 #[v, u] w fun e w' => HoOut h l e ∧ Below w.heap.size w w' := by
  obtain ⟨v1, v2, v3, rfl, i1, i2, i3⟩ := hv
  obtain ⟨b, o, cap, rfl, hcap, hW⟩ := i1.ws (by omega)
  rw [hlen] at hcap ⊢
  have HLN : Hid (h.words.length = 3200) := hlen
  obtain ⟨ua, uc, rfl, hc⟩ := intsI hu
  have hb0 := bel_one w (.cells #[.slice (some ⟨b, o, none⟩) 3200 cap, v2, .int .i64 h.old, .int .i64 h.eden, .int .i64 h.surv, .bool h.flip, .int .i64 h.hash, v3] 28)
  have X0 := Bx.new w (.slice (some ⟨b, o, none⟩) 3200 cap) v2 v3 h 28
  have hdf := hdF
  clear i1 i2 i3 hlen hu
  by_cases hh1 : h.hash < 1
  · have G : Hid (HoOut h l (.returned (.bool false))) := ⟨false, rfl, by simp; exact fun k => by have := k.1.1; omega⟩
    clear X0 hc hW
    go_enter Tryz.func79, Tryz.ntmps79
    go_wp2
    go_ret
    exact ⟨G.out, hb0⟩
  by_cases hh2 : 1000000000 < h.hash
  · have G : Hid (HoOut h l (.returned (.bool false))) := ⟨false, rfl, by simp; exact fun k => by have := k.1.2; omega⟩
    clear X0 hc hW
    go_enter Tryz.func79, Tryz.ntmps79
    go_wp2
    go_ret
    exact ⟨G.out, hb0⟩
  have hsz0 : (w.alloc (.cells #[.slice (some ⟨b, o, none⟩) 3200 cap, v2, .int .i64 h.old, .int .i64 h.eden, .int .i64 h.surv, .bool h.flip, .int .i64 h.hash, v3] 28)).heap.size = w.heap.size + 1 := by simp
  have x0 := X0.c0
  have x6 := X0.c6
  have HSZ : Hid ((w.alloc (.cells #[.slice (some ⟨b, o, none⟩) 3200 cap, v2, .int .i64 h.old, .int .i64 h.eden, .int .i64 h.surv, .bool h.flip, .int .i64 h.hash, v3] 28)).heap.size = w.heap.size + 1) := hsz0
  clear X0 hsz0
  go_enter Tryz.func79, Tryz.ntmps79
  go_wp2
  go_loopw [5, 19] (fun ov kv wr => ∃ (k : Nat) (v0 : Value), kv = .int .i64 k ∧ v0 = ov ∧ k ≤ l.length ∧ Hid (∀ j, j < k → gw h.words (l.getD j 0 + 2) < h.hash) ∧ wr.ownsRow (w.heap.size + 1) 2 1 v0 k (icells (hashesOf h.words (l.take k))) ∧ wr.cell? ⟨w.heap.size, 0, none⟩ = some (.slice (some ⟨b, o, none⟩) 3200 cap) ∧ wr.cell? ⟨w.heap.size, 6, none⟩ = some (.int .i64 h.hash) ∧ w.heap.size + 1 ≤ wr.heap.size ∧ Below w.heap.size w wr) (fun _ kv _ => l.length - (intOf kv).toNat)
  case atStart => exact ⟨0, _, rfl, rfl, Nat.zero_le _, fun j hj => by omega, ⟨by simp [hashesOf, icells], .inl ⟨rfl, rfl⟩⟩, x0, x6, by rw [HSZ.out]; omega, hb0⟩
  case round =>
    obtain ⟨k, ov, rfl, rfl, hk, hj, hown, c0, c6, hsz, hb⟩ := hrel
    by_cases hlt : k < l.length
    · obtain ⟨b', o', e', hci⟩ := hc k hlt
      subst e'
      have ci := cell_later hb hci
      have q1 := hobj _ (lget_mem l k hlt)
      have NX : Hid (gw h.words (l.getD k 0 + 2) < h.hash → ∀ j, j < k + 1 → gw h.words (l.getD j 0 + 2) < h.hash) := fun e => all_upto hj.out e
      have BAD : Hid (¬ gw h.words (l.getD k 0 + 2) < h.hash → HoOut h l (.returned (.bool false))) := fun e => ⟨false, rfl, by simp; exact fun q => e (q.2.1 _ (lget_mem l k hlt))⟩
      have HS : Hid (icells (hashesOf h.words (l.take (k + 1))) = icells (hashesOf h.words (l.take k)) ++ [.int .i64 (gw h.words (l.getD k 0 + 2))]) := (by rw [ltake_snoc l k hlt]; simp [hashesOf, icells] : icells (hashesOf h.words (l.take (k + 1))) = icells (hashesOf h.words (l.take k)) ++ [.int .i64 (gw h.words (l.getD k 0 + 2))])
      have HA := headerAt_any b o cap h.words (l.getD k 0) wr (hW.later hb) HLN.out q1
      clear hci hj
      generalize l.getD k 0 = a at *
      generalize gw h.words (a + 2) = x at *
      by_cases hx : x < h.hash
      · have N := NX.out hx
        clear NX BAD
        go_wp2_with fail
        refine HA.mono ?_
        rintro e w1 ⟨rfl, hb1⟩
        have d0 := cell_later hb1 c0
        have d6 := cell_later hb1 c6
        have al := bel_after hb1 (bel_one w1 (.cells #[.int .i64 x] 2))
        have hown2 := own_later hown al
        have hb2 := bel_after hb al
        have e0 := cell_later al c0
        have e6 := cell_later al c6
        have hcc : ∀ W : World, (W.alloc (.cells #[.int .i64 x] 2)).cell? ⟨W.heap.size, 0, none⟩ = some (.int .i64 x) := fun W => by simp
        have s1 := hb1.size
        go_wp2_with (at_builtin; refine app_int _ rfl _ _ rfl _ _ k (icells (hashesOf h.words (l.take k))) rfl hown2 _ 1 x rfl (hcc _) (by omega) (by simp; omega) ?_; intro v4 w4 hown4 hg4'; have hg4 : (w1.alloc (.cells #[.int .i64 x] 2)).grownBy w4 ov.ownBlock := hg4'; have hb4 := Below.grown hb2 hg4 (by simp; omega) (fun b e => by have := own_lowI' hown2 e; omega); have f0 := hg4.cell e0 (fun e => by have q : w.heap.size + 1 ≤ w.heap.size := own_lowI' hown2 e.symm; omega); have f6 := hg4.cell e6 (fun e => by have q : w.heap.size + 1 ≤ w.heap.size := own_lowI' hown2 e.symm; omega); have hs4 := hg4.size)
        exact ⟨⟨k + 1, v4, by go_num, rfl, by omega, N, by rw [HS.out]; exact hown4, f0, f6, by simp at hs4; omega, hb4⟩, by simp [intOf]; omega⟩
      · have G := BAD.out hx
        clear NX BAD
        go_wp2_with fail
        refine HA.mono ?_
        rintro e w1 ⟨rfl, hb1⟩
        have d0 := cell_later hb1 c0
        have d6 := cell_later hb1 c6
        go_wp2
        go_ret
        exact ⟨G, bel_after hb hb1⟩
    · obtain rfl : k = l.length := by omega
      rw [List.take_length] at hown
      have hle : (hashesOf h.words l).length = l.length := by simp [hashesOf]
      have hown' : wr.ownsRow (w.heap.size + 1) 2 1 ov (hashesOf h.words l).length (icells (hashesOf h.words l)) := by rw [hle]; exact hown
      have SA := sort_any ov (hashesOf h.words l) _ wr hown' (by rw [hle]; omega)
      have DONE : Hid (∀ n : Nat, n = (Lib.compact ((hashesOf h.words l).mergeSort fun x y => decide (x ≤ y))).length → HoOut h l (.returned (.bool ((n : Int) == (l.length : Int))))) := fun n hn => by
        refine ⟨_, rfl, ?_⟩
        have cl := compact_len (sorted_ints (hashesOf h.words l))
        rw [perm_nodup, List.length_mergeSort, hle, ← hn] at cl
        rw [beq_iff_eq, Int.ofNat_inj, cl]
        constructor
        · intro q
          refine ⟨by omega, fun a ha => ?_, q⟩
          obtain ⟨j, hj', e⟩ := List.getElem_of_mem ha
          have := hj.out j hj'
          simpa [hj', e] using this
        · intro q
          exact q.2.2
      clear hj hown hW hobj c0 c6 hc
      go_wp2_with fail
      refine SA.mono ?_
      rintro e w1 ⟨rfl, ho1, hB1⟩
      have hlm : ((hashesOf h.words l).mergeSort fun x y => decide (x ≤ y)).length = (hashesOf h.words l).length := by simp
      rw [← hlm] at ho1
      have CA := compact_any ov _ _ w1 ho1 (by rw [hlm, hle]; omega)
      generalize hnn : (Lib.compact ((hashesOf h.words l).mergeSort fun x y => decide (x ≤ y))).length = nn at *
      have D := DONE.out nn rfl
      clear DONE hlm ho1 SA hle hnn
      go_wp2_with fail
      refine CA.mono ?_
      rintro e w2 ⟨⟨ao, cp, rfl⟩, hB2⟩
      have hB3 : Below w.heap.size w w2 := hb.trans ((hB2 wr (hB1 wr (Below.refl _ _))).mono (by omega))
      go_wp2
      go_ret
      exact ⟨D, hB3⟩

end Go.Proofs.YtgacacbncefeaaaGreat
