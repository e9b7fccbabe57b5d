/- Graphs that own their memory; markNodeS, markGraph, heldGraph. -/
import Derived.Test.YtnppoeifhmkphaaGreatDoorZGLawG
import Derived.Test.YtnppoeifhmkphaaGreatDoorZGrG
namespace Go.Proofs.YtnppoeifhmkphaaGreatDoor
open Go.RowKit


/-- The cells of a row of nodes of which i are marked. -/
def mkF (k : Int) (ns : List Nd) (f : Nat → Value) (i j : Nat) : Value := if j < i * 3 ∧ j % 3 = 0 then .int .i64 (mkK k ns (j / 3)) else if j < i * 3 ∧ j % 3 = 1 then .int .i64 (mkK k ns (j / 3) + 1) else f j
theorem mkF_zero (k : Int) (ns : List Nd) (f : Nat → Value) (j : Nat) : mkF k ns f 0 j = f j := by
  unfold mkF
  rw [if_neg (by omega), if_neg (by omega)]
theorem mkF_next {w : World} {g t N i : Nat} {k : Int} {ns : List Nd} {f : Nat → Value} (h : w.rowIs g t N (mkF k ns f i)) :
    ((w.setCell ⟨g, i * 3, none⟩ (.int .i64 (mkK k ns i))).setCell ⟨g, i * 3 + 1, none⟩ (.int .i64 (mkK k ns i + 1))).rowIs g t N (mkF k ns f (i + 1)) := by
  refine ((h.set (i * 3) _).set (i * 3 + 1) _).congr fun j _ => ?_
  unfold mkF
  by_cases e1 : j = i * 3 + 1
  · subst e1
    rw [if_pos rfl, if_neg (by omega), if_pos (by omega), show (i * 3 + 1) / 3 = i from by omega]
  · rw [if_neg e1]
    by_cases e0 : j = i * 3
    · subst e0
      rw [if_pos rfl, if_pos (by omega), show i * 3 / 3 = i from by omega]
    · rw [if_neg e0]
      by_cases h0 : j < i * 3 ∧ j % 3 = 0
      · rw [if_pos h0, if_pos (by omega)]
      · rw [if_neg h0]
        by_cases h1 : j < i * 3 ∧ j % 3 = 1
        · rw [if_pos h1, if_neg (by omega), if_pos (by omega)]
        · rw [if_neg h1, if_neg (by omega), if_neg (by omega)]

/-- The state of the marking. -/
structure MkSt (w wr : World) (g N : Nat) (k : Int) (ns : List Nd) (f fv : Nat → Value) (i B : Nat) : Prop where
  row : wr.rowIs g 45 N (mkF k ns f i)
  done : ∀ j, j < i → IR wr (fv j) (imarks (mkK k ns j + 2) (ns.getD j nd0).fl.length)
  left : ∀ j, i ≤ j → j < ns.length → wr.ownsRow B 2 1 (fv j) (ns.getD j nd0).fl.length (icells (ns.getD j nd0).fl)
  grew : Grew w wr (fun b => b = g ∨ ∃ j, j < ns.length ∧ (fv j).ownBlock = some b)
theorem rowOf_own {v : Value} {n b : Nat} (h : Disk.rowOf v n = some b) : v.ownBlock = some b := by
  unfold Disk.rowOf at h
  split at h
  · cases h
  · exact h
theorem inB_own' {v : Value} {b n cap : Nat} {ao : Option Addr} (_ : v = .slice ao n cap) (k : inB v b) : v.ownBlock = some b := by
  obtain ⟨o, m, c, e, hm⟩ := k
  rw [e]
  rfl

set_option maxRecDepth 100000 in
set_option maxHeartbeats 1600000 in
theorem markNodeS_any (B : Nat) (nv : Value) (ns : List Nd) (fv : Nat → Value) (k : Int) (w : World) (hv : NOwn B w nv ns fv) (h0 : 0 < k) (h1 : mkK k ns ns.length ≤ 1000000000000) (h2 : ns.length ≤ 1000000000000) :
    Calls Tryz.prog 32 #[nv, .int .i64 k] w fun e w' => (e = .returned (.int .i64 (mkK k ns ns.length)) ∧ NR w' nv (nmk k ns)) ∧ Grew w w' (fun b => nv.ownBlock = some b ∨ ∃ j, j < ns.length ∧ (fv j).ownBlock = some b) := by
  obtain ⟨xs, ho, ht, hf, ha⟩ := hv
  rcases ho.2 with ⟨rfl, hz⟩ | ⟨g, cap, cur, rfl, hB, hh, hc, _, hcs, htk⟩
  · have hn : ns = [] := List.eq_nil_of_length_eq_zero hz
    subst hn
    have G : Hid (∀ e, e = Ending.returned (.int .i64 k) → (e = .returned (.int .i64 (mkK k [] ([] : List Nd).length)) ∧ NR w (.slice none 0 0) (nmk k [])) ∧ Grew w w (fun b => Value.ownBlock (.slice none 0 0) = some b ∨ ∃ j, j < ([] : List Nd).length ∧ (fv j).ownBlock = some b)) := fun e he => ⟨⟨by rw [he]; simp [mkK], ⟨none, 0, rfl, Nat.le_refl _, fun i hi => absurd hi (Nat.not_lt_zero i)⟩⟩, Grew.refl _ _⟩
    clear hf ha ht ho h1 h2 hz
    go_enter Tryz.func32, Tryz.ntmps32
    go_wp2
    refine wp_loop_rounds 1 ?_
    rw [rounds_succ]
    go_wp2
    go_ret
    exact G.out _ rfl
  · have R0 : w.rowIs g 45 cur.size (fun j => cur[j]?.getD undef) := ⟨cur, hh, rfl, fun i hi => by simp [hi]⟩
    have FV : Hid (∀ i, i < ns.length → (fun j => cur[j]?.getD undef) (i * 3 + 2) = fv i) := fun i hi => by
      have h3 := (ht.2 i hi).2.2
      rw [← htk, List.getElem?_take_of_lt (by omega)] at h3
      simp only [Array.getElem?_toList] at h3
      simp [h3]
    have szc : ns.length * 3 ≤ cur.size := by rw [hcs]; exact Nat.mul_le_mul_right _ hc
    have S0 : MkSt w w g cur.size k ns (fun j => cur[j]?.getD undef) fv 0 B := ⟨R0.congr (fun i _ => (mkF_zero k ns (fun j => cur[j]?.getD undef) i).symm), fun j hj => by omega, fun j _ hj => hf j hj, Grew.refl _ _⟩
    have HA : Hid (∀ i j, i < ns.length → j < ns.length → i ≠ j → ∀ b, (fv i).ownBlock = some b → (fv j).ownBlock ≠ some b) := ha
    have TG : Hid (∀ i, i < ns.length → (fv i).ownBlock ≠ some g) := fun i hi => type_ne ho (hf i hi) (by decide) rfl
    have SH : Hid (∀ i, i < ns.length → ∃ ao c, fv i = .slice ao (ns.getD i nd0).fl.length c) := fun i hi => own_shape (hf i hi)
    generalize hff : (fun j : Nat => cur[j]?.getD undef) = f at *
    generalize cur.size = N at *
    clear ho ht hf ha hh hcs htk hff R0
    go_enter Tryz.func32, Tryz.ntmps32
    go_wp2
    go_loopw [1, 5] (fun kv iv wr => ∃ i : Nat, i ≤ ns.length ∧ iv = .int .i64 i ∧ kv = .int .i64 (mkK k ns i) ∧ MkSt w wr g N k ns f fv i B) (fun _ iv _ => ns.length - (intOf iv).toNat)
    case atStart => exact ⟨0, Nat.zero_le _, rfl, by rw [mkK_zero], S0⟩
    case round =>
      clear S0
      obtain ⟨i, hi, rfl, rfl, S⟩ := hrel
      by_cases hil : i < ns.length
      · have q0 := S.row.cell (i := i * 3) (by omega)
        have q1 := S.row.cell (i := i * 3 + 1) (by omega)
        have fz0 := S.row.frozen (i * 3)
        have fz1 := S.row.frozen (i * 3 + 1)
        have R2 := mkF_next S.row
        have q2 : ((wr.setCell ⟨g, i * 3, none⟩ (.int .i64 (mkK k ns i))).setCell ⟨g, i * 3 + 1, none⟩ (.int .i64 (mkK k ns i + 1))).cell? ⟨g, i * 3 + 2, none⟩ = some (fv i) := by
          rw [R2.cell (by omega)]
          unfold mkF
          rw [if_neg (by omega), if_neg (by omega), FV.out i hil]
        have q1' : (wr.setCell ⟨g, i * 3, none⟩ (.int .i64 (mkK k ns i))).cell? ⟨g, i * 3 + 1, none⟩ = some (mkF k ns f i (i * 3 + 1)) := by
          rw [World.cell?_setCell_other _ _ _ _ (by simp)]
          exact q1
        have fz1' : (wr.setCell ⟨g, i * 3, none⟩ (.int .i64 (mkK k ns i))).frozen? ⟨g, i * 3 + 1, none⟩ = false := ((S.row.set (i * 3) (.int .i64 (mkK k ns i)))).frozen (i * 3 + 1)
        have G2 : Grew wr ((wr.setCell ⟨g, i * 3, none⟩ (.int .i64 (mkK k ns i))).setCell ⟨g, i * 3 + 1, none⟩ (.int .i64 (mkK k ns i + 1))) (fun b => b = g) := (Grew.set _ _ _ _).trans (Grew.set _ _ _ _)
        have O2 : ∀ j, i ≤ j → j < ns.length → ((wr.setCell ⟨g, i * 3, none⟩ (.int .i64 (mkK k ns i))).setCell ⟨g, i * 3 + 1, none⟩ (.int .i64 (mkK k ns i + 1))).ownsRow B 2 1 (fv j) (ns.getD j nd0).fl.length (icells (ns.getD j nd0).fl) := fun j h1 h2 => G2.own (S.left j h1 h2) (fun b e q => TG.out j h2 (by rw [e, q]))
        have D2 : ∀ j, j < i → IR ((wr.setCell ⟨g, i * 3, none⟩ (.int .i64 (mkK k ns i))).setCell ⟨g, i * 3 + 1, none⟩ (.int .i64 (mkK k ns i + 1))) (fv j) (imarks (mkK k ns j + 2) (ns.getD j nd0).fl.length) := fun j hj => G2.ir (S.done j hj) (fun b e q => by
          obtain ⟨ao, c, es⟩ := SH.out j (by omega)
          exact TG.out j (by omega) (by rw [← q]; exact inB_own' es e))
        have W2 := S.grew.trans (G2.mono fun b _ e => .inl e)
        generalize hw2 : (wr.setCell ⟨g, i * 3, none⟩ (.int .i64 (mkK k ns i))).setCell ⟨g, i * 3 + 1, none⟩ (.int .i64 (mkK k ns i + 1)) = w2 at q2 R2 O2 D2 W2 G2
        obtain ⟨b1, b2⟩ := mkK_bounds k ns i hi
        have KS := mkK_succ k ns i hil
        obtain ⟨b3, b4⟩ := mkK_bounds k ns (i + 1) hil
        obtain ⟨ao, c, es⟩ := SH.out i hil
        have MK := markInt64S_any (fv i) (ns.getD i nd0).fl.length (mkK k ns i + 2) w2 (OS_of_owns (O2 i (Nat.le_refl _) hil)) ⟨ao, c, es, by
          obtain ⟨_, _, e3, hcap, _⟩ := own_cell (O2 i (Nat.le_refl _) hil)
          rw [es] at e3
          simp only [Value.slice.injEq] at e3
          omega⟩ (by omega) (by omega)
        have FIN : Hid (∀ w3, w2.grownBy w3 (Disk.rowOf (fv i) (ns.getD i nd0).fl.length) → IR w3 (fv i) (imarks (mkK k ns i + 2) (ns.getD i nd0).fl.length) → MkSt w w3 g N k ns f fv (i + 1) B) := fun w3 g3 m3 => by
          have G3 : Grew w2 w3 (fun b => (fv i).ownBlock = some b) := (Grew.grown g3).mono fun b _ e => rowOf_own e
          refine ⟨G3.row R2 (TG.out i hil), fun j hj => ?_, fun j h1 h2 => G3.own (O2 j (by omega) h2) (fun b e q => HA.out j i h2 hil (by omega) b e q), W2.trans (G3.mono fun b _ e => .inr ⟨i, hil, e⟩)⟩
          by_cases e : j = i
          · subst e; exact m3
          · obtain ⟨ao', c', es'⟩ := SH.out j (by omega)
            exact G3.ir (D2 j (by omega)) (fun b k q => HA.out j i (by omega) hil e b (inB_own' es' k) q)
        have KE : Hid (∀ y, y = mkK k ns i + 2 + ((ns.getD i nd0).fl.length : Int) → y = mkK k ns (i + 1)) := fun y e => by rw [e, KS]
        clear S R2 G2 O2 D2 W2 b3 b4 KS q1 fz1 es
        generalize (ns.getD i nd0).fl.length = m at *
        generalize mkF k ns f i (i * 3) = z0 at *
        generalize mkF k ns f i (i * 3 + 1) = z1 at *
        generalize mkK k ns i = x at *
        have hii : (i : Int) < ns.length := by omega
        have e3 : x + 1 + 1 = x + 2 := by omega
        generalize fv i = fi at *
        go_wp2_with fail
        refine MK.mono ?_
        rintro e w3 ⟨rfl, g3, m3⟩
        have SF := FIN.out w3 g3 m3
        go_wp2
        exact ⟨⟨i + 1, by omega, by go_num, congrArg (Value.int .i64) (KE.out _ rfl), SF⟩, by simp [intOf]; omega⟩
      · obtain rfl : i = ns.length := by omega
        have G : Hid (NR wr (.slice (some ⟨g, 0, none⟩) ns.length cap) (nmk k ns) ∧ Grew w wr (fun b => Value.ownBlock (.slice (some ⟨g, 0, none⟩) ns.length cap) = some b ∨ ∃ j, j < ns.length ∧ (fv j).ownBlock = some b)) := by
          refine ⟨⟨_, cap, by rw [nmk_length], by rw [nmk_length]; exact hc, fun j hj => ?_⟩, S.grew.mono fun b _ e => e.imp (fun e => by rw [e]; rfl) id⟩
          rw [nmk_length] at hj
          rw [nmk_get k ns j hj]
          obtain ⟨ao, c, es⟩ := SH.out j hj
          refine ⟨g, 0, ao, (ns.getD j nd0).fl.length, c, rfl, ?_, ?_, ?_, by rw [← es]; exact S.done j hj⟩
          · rw [Nat.zero_add, S.row.cell (by omega)]
            unfold mkF
            rw [if_pos (by omega), show j * 3 / 3 = j from by omega]
          · rw [Nat.zero_add, S.row.cell (by omega)]
            unfold mkF
            rw [if_neg (by omega), if_pos (by omega), show (j * 3 + 1) / 3 = j from by omega]
          · rw [Nat.zero_add, S.row.cell (by omega)]
            unfold mkF
            rw [if_neg (by omega), if_neg (by omega), FV.out j hj, es]
        clear S
        go_wp2
        go_ret
        exact ⟨⟨rfl, G.out.1⟩, G.out.2⟩

end Go.Proofs.YtnppoeifhmkphaaGreatDoor
