/- newestSuper of the program. -/
import Derived.Test.YtjclpbaiiklhcaaGreatDoorZV12
import Derived.Test.YtjclpbaiiklhcaaGreatDoorZV10
import Derived.Test.YtjclpbaiiklhcaaGreatDoorZDBase
namespace Go.Proofs.YtjclpbaiiklhcaaGreatDoor
open Go.RowKit

theorem Disk.SR.cellAt {w : World} {ao : Option Addr} {n cap : Nat} {ss : List ByteArray} (h : Disk.SR w (.slice ao n cap) ss) (k : Nat) (hk : k < ss.length) : ∃ b o, ao = some ⟨b, o, none⟩ ∧ w.cell? ⟨b, o + k, none⟩ = some (.string (ss.getD k ByteArray.empty)) := by
  obtain ⟨ao', cap', e, h⟩ := h
  simp only [Value.slice.injEq] at e
  obtain ⟨rfl, _, _⟩ := e
  exact h k hk
def stepR (ss : List ByteArray) (p : Int × List Int) (t : ByteArray) : Int × List Int :=
  match superR ss t with
  | none => p
  | some (e, l) => if p.1 < e then (e, l) else p
def nk (ss : List ByteArray) : Nat → Int × List Int
  | 0 => (0, [])
  | k + 1 => stepR ss (nk ss k) (textAt ss k)
theorem superR_pos {ss : List ByteArray} {t : ByteArray} {e : Int} {l : List Int} (h : superR ss t = some (e, l)) : 1 ≤ e ∧ supR t = some (e, l) ∧ soundB ss e l l.length = true := by
  unfold superR at h
  cases hs : supR t with
  | none => rw [hs] at h; simp at h
  | some x =>
    obtain ⟨e', l'⟩ := x
    rw [hs] at h
    simp only at h
    split at h
    · rename_i hh
      simp only [Option.some.injEq, Prod.mk.injEq] at h
      obtain ⟨rfl, rfl⟩ := h
      exact ⟨or_pos hs, rfl, hh⟩
    · simp at h
theorem nk_two (ss : List ByteArray) : nk ss 2 = newR ss := by
  show stepR ss (stepR ss (0, []) (textAt ss 0)) (textAt ss 1) = newR ss
  unfold newR stepR
  cases h0 : superR ss (textAt ss 0) with
  | none =>
    cases h1 : superR ss (textAt ss 1) with
    | none => rfl
    | some y =>
      obtain ⟨f, m⟩ := y
      rfl
  | some x =>
    obtain ⟨e, l⟩ := x
    have hp := (superR_pos h0).1
    have e0 : (if ((0 : Int), ([] : List Int)).1 < e then (e, l) else (0, [])) = (e, l) := if_pos (by show (0 : Int) < e; omega)
    simp only [e0]
    cases h1 : superR ss (textAt ss 1) with
    | none =>
      show (e, l) = if e < 0 then _ else (e, l)
      rw [if_neg (by omega)]
    | some y =>
      obtain ⟨f, m⟩ := y
      rfl
theorem step_no {ss : List ByteArray} {p : Int × List Int} {t : ByteArray} (h : superR ss t = none) : stepR ss p t = p := by unfold stepR; rw [h]
theorem superR_none {ss : List ByteArray} {t : ByteArray} (h : supR t = none) : superR ss t = none := by unfold superR; rw [h]
theorem superR_unsound {ss : List ByteArray} {t : ByteArray} {e : Int} {l : List Int} (h : supR t = some (e, l)) (k : soundB ss e l l.length = false) : superR ss t = none := by unfold superR; rw [h]; simp only; rw [if_neg (by rw [k]; simp)]
theorem superR_sound {ss : List ByteArray} {t : ByteArray} {e : Int} {l : List Int} (h : supR t = some (e, l)) (k : soundB ss e l l.length = true) : superR ss t = some (e, l) := by unfold superR; rw [h]; simp only; rw [if_pos k]
theorem step_small {ss : List ByteArray} {p : Int × List Int} {t : ByteArray} {e : Int} {l : List Int} (h : supR t = some (e, l)) (k : e ≤ p.1) : stepR ss p t = p := by
  cases hs : soundB ss e l l.length
  · exact step_no (superR_unsound h hs)
  · unfold stepR
    rw [superR_sound h hs]
    simp only
    rw [if_neg (by omega)]
theorem step_great {ss : List ByteArray} {p : Int × List Int} {t : ByteArray} {e : Int} {l : List Int} (h : supR t = some (e, l)) (hs : soundB ss e l l.length = true) (k : p.1 < e) : stepR ss p t = (e, l) := by
  unfold stepR
  rw [superR_sound h hs]
  simp only
  rw [if_pos k]

/-- The newest superblock so far, in block M. -/
structure Nw (M B : Nat) (ss : List ByteArray) (e : Int) (l : List Int) (w : World) : Prop where
  own : ∃ v bv, w.cell? ⟨M, 0, none⟩ = some (.int .i64 e) ∧ w.cell? ⟨M, 1, none⟩ = some v ∧ w.cell? ⟨M, 2, none⟩ = some bv ∧ w.ownsRow B 2 1 v l.length (icells l) ∧ w.ownsRow B 9 1 bv l.length (tcells (bodiesK ss l l.length))
  f0 : w.frozen? ⟨M, 0, none⟩ = false
  f1 : w.frozen? ⟨M, 1, none⟩ = false
  f2 : w.frozen? ⟨M, 2, none⟩ = false
  lt : M < w.heap.size
theorem Nw.later {M B : Nat} {ss : List ByteArray} {e : Int} {l : List Int} {w w' : World} (h : Nw M B ss e l w) (hb : Below w.heap.size w w') : Nw M B ss e l w' := by
  obtain ⟨⟨v, bv, c0, c1, c2, o1, o2⟩, f0, f1, f2, lt⟩ := h
  exact ⟨⟨v, bv, cell_later hb c0, cell_later hb c1, cell_later hb c2, own_later o1 hb, own_later o2 hb⟩, frozen_later hb lt f0, frozen_later hb lt f1, frozen_later hb lt f2, Nat.lt_of_lt_of_le lt hb.size⟩

theorem frozen_set (w : World) (a b : Addr) (v : Value) : (w.setCell a v).frozen? b = w.frozen? b := World.frozen?_setCell ..
theorem three_set {W : World} {R : Nat} {u0 u1 u2 : Value} (c0 : W.cell? ⟨R, 0, none⟩ = some u0) (c1 : W.cell? ⟨R, 1, none⟩ = some u1) (c2 : W.cell? ⟨R, 2, none⟩ = some u2) (v0 v1 v2 : Value) :
    (((W.setCell ⟨R, 0, none⟩ v0).setCell ⟨R, 1, none⟩ v1).setCell ⟨R, 2, none⟩ v2).cell? ⟨R, 0, none⟩ = some v0 ∧ (((W.setCell ⟨R, 0, none⟩ v0).setCell ⟨R, 1, none⟩ v1).setCell ⟨R, 2, none⟩ v2).cell? ⟨R, 1, none⟩ = some v1 ∧ (((W.setCell ⟨R, 0, none⟩ v0).setCell ⟨R, 1, none⟩ v1).setCell ⟨R, 2, none⟩ v2).cell? ⟨R, 2, none⟩ = some v2 := by
  have h2 : ((W.setCell ⟨R, 0, none⟩ v0).setCell ⟨R, 1, none⟩ v1).cell? ⟨R, 2, none⟩ = some u2 := by rw [World.cell?_setCell_other _ _ _ _ (by simp), World.cell?_setCell_other _ _ _ _ (by simp)]; exact c2
  have h1 : (W.setCell ⟨R, 0, none⟩ v0).cell? ⟨R, 1, none⟩ = some u1 := by rw [World.cell?_setCell_other _ _ _ _ (by simp)]; exact c1
  refine ⟨?_, ?_, World.cell?_setCell_same _ _ _ h2⟩
  · rw [World.cell?_setCell_other _ _ _ _ (by simp), World.cell?_setCell_other _ _ _ _ (by simp)]
    exact World.cell?_setCell_same _ _ _ c0
  · rw [World.cell?_setCell_other _ _ _ _ (by simp)]
    exact World.cell?_setCell_same _ _ _ h1
/-- A newer one stored there. -/
theorem Nw.put {M B : Nat} {ss : List ByteArray} {e e' : Int} {l l' : List Int} {w : World} {v' bv' : Value} (h : Nw M B ss e l w) (hM : M < B) (o1 : w.ownsRow B 2 1 v' l'.length (icells l')) (o2 : w.ownsRow B 9 1 bv' l'.length (tcells (bodiesK ss l' l'.length))) :
    Nw M B ss e' l' (((w.setCell ⟨M, 0, none⟩ (.int .i64 e')).setCell ⟨M, 1, none⟩ v').setCell ⟨M, 2, none⟩ bv') := by
  obtain ⟨⟨v, bv, c0, c1, c2, _, _⟩, f0, f1, f2, lt⟩ := h
  obtain ⟨t0, t1, t2⟩ := three_set c0 c1 c2 (.int .i64 e') v' bv'
  refine ⟨⟨v', bv', t0, t1, t2, own_store (own_store (own_store o1 hM _) hM _) hM _, own_store (own_store (own_store o2 hM _) hM _) hM _⟩, ?_, ?_, ?_, ?_⟩
  · rw [frozen_set, frozen_set, frozen_set]; exact f0
  · rw [frozen_set, frozen_set, frozen_set]; exact f1
  · rw [frozen_set, frozen_set, frozen_set]; exact f2
  · simpa [World.setCell] using lt

theorem own_store3 {w : World} {B e size n R : Nat} {v : Value} {xs : List Value} (h : w.ownsRow B e size v n xs) (hR : R < B) (x y z : Value) : (((w.setCell ⟨R, 0, none⟩ x).setCell ⟨R, 1, none⟩ y).setCell ⟨R, 2, none⟩ z).ownsRow B e size v n xs :=
  own_store (own_store (own_store h hR x) hR y) hR z
theorem Zs.low {R B : Nat} {w w' : World} (h : Zs R w) (hb : Below B w w') (hR : R < B) : Zs R w' :=
  ⟨(hb.cell (p := ⟨R, 0, none⟩) hR).trans h.c0, (hb.cell (p := ⟨R, 1, none⟩) hR).trans h.c1, (hb.cell (p := ⟨R, 2, none⟩) hR).trans h.c2, (hb.frozen (p := ⟨R, 0, none⟩) hR).trans h.f0, (hb.frozen (p := ⟨R, 1, none⟩) hR).trans h.f1, (hb.frozen (p := ⟨R, 2, none⟩) hR).trans h.f2, Nat.lt_of_lt_of_le h.lt hb.size⟩

set_option maxRecDepth 100000 in
set_option maxHeartbeats 6400000 in
theorem newestSuper_cap (v1 v2 : Value) (ss : List ByteArray) (ws : List Disk.Wr) (a0 a1 a2 a3 : Addr) (w : World) (hv1 : Disk.SR w v1 ss) (hv2 : Disk.WR w v2 ws) (h1 : ss.length ≤ 10000000000000) (h2 : ws.length ≤ 10000000000000) (hcp : ∃ ao cap, v1 = .slice ao ss.length cap ∧ ss.length ≤ cap) (hss : Disk.okD ss ws = true → Ss w v1 ss) (hC : Ctx a0 a1 a2 a3 w) :
    Calls Tryz.prog 32 #[.agg #[v1, v2]] w fun x w' => (∃ v bv, x = .returned (.agg #[.int .i64 (newestR ss ws).1, v, bv]) ∧ w'.ownsRow w.heap.size 2 1 v (newestR ss ws).2.length (icells (newestR ss ws).2) ∧ w'.ownsRow w.heap.size 9 1 bv (newestR ss ws).2.length (tcells (bodiesK ss (newestR ss ws).2 (newestR ss ws).2.length))) ∧ Below w.heap.size w w' := by
  have hb0 := bel_after (bel_after (bel_one w (.cells #[v1, v2] 27)) (bel_one _ (.cells #[.int .i64 0, .slice none 0 0, .slice none 0 0] 58))) (bel_one _ (.cells #[.int .i64 0, .slice none 0 0, .slice none 0 0] 58))
  have OK := Disk.implDiskOk_any v1 v2 ss ws _ (hv1.later hb0) (hv2.later hb0) h1 h2
  have Z1 := (Zs.new (w.alloc (.cells #[v1, v2] 27))).later (bel_one _ (.cells #[.int .i64 0, .slice none 0 0, .slice none 0 0] 58))
  have Z2 := Zs.new ((w.alloc (.cells #[v1, v2] 27)).alloc (.cells #[.int .i64 0, .slice none 0 0, .slice none 0 0] 58))
  have D0 : (((w.alloc (.cells #[v1, v2] 27)).alloc (.cells #[.int .i64 0, .slice none 0 0, .slice none 0 0] 58)).alloc (.cells #[.int .i64 0, .slice none 0 0, .slice none 0 0] 58)).cell? ⟨w.heap.size, 0, none⟩ = some v1 := cell_later (bel_one _ _) (cell_later (bel_one _ _) (by simp))
  have D1 : (((w.alloc (.cells #[v1, v2] 27)).alloc (.cells #[.int .i64 0, .slice none 0 0, .slice none 0 0] 58)).alloc (.cells #[.int .i64 0, .slice none 0 0, .slice none 0 0] 58)).cell? ⟨w.heap.size, 1, none⟩ = some v2 := cell_later (bel_one _ _) (cell_later (bel_one _ _) (by simp))
  simp only [World.size_alloc] at Z1 Z2
  go_enter Tryz.func32, Tryz.ntmps32
  go_wp2_with fail
  refine OK.mono ?_
  rintro x w1 ⟨rfl, hb1⟩
  have hbw := bel_after hb0 hb1
  have z1 := Z1.later hb1
  have z2 := Z2.later hb1
  have d0 := cell_later hb1 D0
  have d1 := cell_later hb1 D1
  have hsz1 : w.heap.size + 1 + 1 + 1 ≤ w1.heap.size := by have := hb1.size; simpa using this
  clear OK Z1 Z2 D0 D1 hb0 hb1
  cases hok : Disk.okD ss ws
  · have G : Hid (newestR ss ws = (0, [])) := newestR_no hok
    clear hok
    obtain ⟨c0, c1, c2, f0, f1, f2, lt⟩ := z1
    obtain ⟨m0, m1, m2, _, _, _, _⟩ := z2
    go_wp2
    exact bodyPost_ret (v := .agg #[.int .i64 0, .slice none 0 0, .slice none 0 0]) (by simp [results, Tryz.results32, go_sem, c0, c1, c2]) rfl ⟨⟨_, _, by rw [G.out], by rw [G.out]; exact World.ownsRow_nil _ _ _ _, by rw [G.out]; exact World.ownsRow_nil _ _ _ _⟩, zs_ends hbw (by omega) _ _ _⟩
  · have G : Hid (newestR ss ws = nk ss 2) := (by rw [newestR_yes hok, nk_two] : newestR ss ws = nk ss 2)
    have hS := hss hok
    have hS1 := hS.later hbw
    obtain ⟨cao, ccp, hcu, hcl⟩ := hcp
    rw [hS.len] at hcu hcl
    subst hcu
    have hc2 : (2 : Int) ≤ (ccp : Int) := by omega
    have n0 : Nw (w.heap.size + 1 + 1) (w.heap.size + 1 + 1 + 1) ss 0 [] w1 := ⟨⟨_, _, z2.c0, z2.c1, z2.c2, World.ownsRow_nil _ _ _ _, World.ownsRow_nil _ _ _ _⟩, z2.f0, z2.f1, z2.f2, z2.lt⟩
    obtain ⟨⟨so, scp, hsv, hsr⟩, hlen, hfit⟩ := hS1
    rw [hlen] at hsv
    simp only [Value.slice.injEq, true_and] at hsv
    obtain ⟨rfl, rfl⟩ := hsv
    rw [hlen] at hsr
    clear hok hss hv1 hv2 z2
    obtain ⟨b, o, rfl, _⟩ := hsr 0 (by omega)
    have HLN : Hid (ss.length = 64) := hlen
    clear hlen
    go_wp2
    go_loopw [18] (fun iv wr => ∃ k : Nat, k ≤ 2 ∧ iv = .int .i64 k ∧ Nw (w.heap.size + 1 + 1) (w.heap.size + 1 + 1 + 1) ss (nk ss k).1 (nk ss k).2 wr ∧ Below (w.heap.size + 1 + 1) w1 wr) (fun iv _ => 2 - (intOf iv).toNat)
    case atStart => exact ⟨0, by omega, rfl, n0, Below.refl _ _⟩
    case round =>
      obtain ⟨k, hk, rfl, hN, hb⟩ := hrel
      have hbwr : Below w.heap.size w wr := hbw.trans (hb.mono (by omega))
      have hszr : w.heap.size + 1 + 1 + 1 ≤ wr.heap.size := Nat.le_trans hsz1 hb.size
      by_cases hlt : k < 2
      · obtain ⟨b', o', e', hc⟩ := (hS.later hbwr).sr.cellAt k (by have := HLN.out; omega)
        cases e'
        have hfk := hfit k (by omega)
        have hSr := hS.later hbwr
        have hCr := hC.later hbwr
        have RS := readSuper_any (textAt ss k) wr (by omega) hCr.env
        have e0 : wr.cell? ⟨w.heap.size, 0, none⟩ = some (.slice (some ⟨b, o, none⟩) 64 ccp) := (hb.cell (p := ⟨w.heap.size, 0, none⟩) (by simp; omega)).trans d0
        have e1 : wr.cell? ⟨w.heap.size, 1, none⟩ = some v2 := (hb.cell (p := ⟨w.heap.size, 1, none⟩) (by simp; omega)).trans d1
        have NK : nk ss (k + 1) = stepR ss (nk ss k) (textAt ss k) := rfl
        change wr.cell? _ = some (.string (textAt ss k)) at hc
        generalize textAt ss k = tx at *
        have HNK : Hid (nk ss (k + 1) = stepR ss (nk ss k) tx) := NK
        clear NK
        generalize nk ss k = p at *
        obtain ⟨pe, pl⟩ := p
        simp only at hN
        clear hsr
        go_wp2_with fail
        refine RS.mono ?_
        rintro x w3 ⟨hout, hb3⟩
        clear RS
        have hN3 := hN.later hb3
        have hsz3 := Nat.le_trans hszr hb3.size
        have ltw : w.heap.size < w3.heap.size := by omega
        have hb13 : Below (w.heap.size + 1 + 1) w1 w3 := hb.trans (hb3.mono (by omega))
        have g0 := cell_later hb3 e0
        have g1 := cell_later hb3 e1
        unfold SupOut at hout
        cases hsup : supR tx with
        | none =>
          rw [hsup] at hout
          simp only at hout
          subst hout
          have GK : Hid (nk ss (k + 1) = (pe, pl)) := (by rw [HNK.out, step_no (superR_none hsup)] : nk ss (k + 1) = (pe, pl))
          have hN4 := hN3.later (bel_one w3 (.cells #[.int .i64 0, .slice none 0 0, .slice none 0 0] 58))
          have hb4 : Below (w.heap.size + 1 + 1) w1 (w3.alloc (.cells #[.int .i64 0, .slice none 0 0, .slice none 0 0] 58)) := hb13.alloc (by omega) _
          clear hsup HNK hN hN3 hb3
          go_wp2
          exact ⟨⟨k + 1, by omega, by go_num, by rw [GK.out]; exact hN4, hb4⟩, by simp [intOf]; omega⟩
        | some y =>
          obtain ⟨e', l'⟩ := y
          rw [hsup] at hout
          simp only at hout
          obtain ⟨v', rfl, ho'⟩ := hout
          obtain ⟨so', sc', rfl, _⟩ := own_cell ho'
          have hb34 := bel_one w3 (.cells #[.int .i64 e', .slice so' l'.length sc', .slice none 0 0] 58)
          have hN4 := hN3.later hb34
          have hb4 : Below (w.heap.size + 1 + 1) w1 (w3.alloc (.cells #[.int .i64 e', .slice so' l'.length sc', .slice none 0 0] 58)) := hb13.alloc (by omega) _
          obtain ⟨⟨mv, mbv, m0, m1, m2, _, _⟩, mf0, mf1, mf2, mlt⟩ := hN3
          by_cases hle : e' ≤ pe
          · have GK : Hid (nk ss (k + 1) = (pe, pl)) := (by rw [HNK.out, step_small hsup hle] : nk ss (k + 1) = (pe, pl))
            clear hsup HNK hN hb3
            go_wp2
            exact ⟨⟨k + 1, by omega, by go_num, by rw [GK.out]; exact hN4, hb4⟩, by simp [intOf]; omega⟩
          · have OM := or_mem tx
            have OL := or_len tx
            rw [hsup] at OM OL
            have hb04 := bel_after hbwr (bel_after hb3 hb34)
            have SBo := superBodies_any (.slice (some ⟨b, o, none⟩) 64 ccp) v2 (.slice so' l'.length sc') ss e' l' a0 a1 a2 a3 _ (hS.later hb04) ((IR_of_owns ho').later hb34) OL OM (hC.later hb04)
            go_wp2_with fail
            refine SBo.mono ?_
            rintro x w5 ⟨hbod, hb5⟩
            clear SBo OM OL
            have hb35 := bel_after hb34 hb5
            unfold BodOut at hbod
            cases hsd : soundB ss e' l' l'.length
            · rw [hsd, if_neg (by simp)] at hbod
              subst hbod
              have GK : Hid (nk ss (k + 1) = (pe, pl)) := (by rw [HNK.out, step_no (superR_unsound hsup hsd)] : nk ss (k + 1) = (pe, pl))
              have hN5 := hN4.later hb5
              have hb15 : Below (w.heap.size + 1 + 1) w1 w5 := hb13.trans (hb35.mono (by omega))
              clear hsup HNK hN hb3 hsd
              go_wp2
              exact ⟨⟨k + 1, by omega, by go_num, by rw [GK.out]; exact hN5, hb15⟩, by simp [intOf]; omega⟩
            · rw [hsd, if_pos rfl] at hbod
              obtain ⟨bv', rfl, hob⟩ := hbod
              obtain ⟨bo', bc', rfl, _⟩ := own_cell hob
              have GK : Hid (nk ss (k + 1) = (e', l')) := (by rw [HNK.out, step_great hsup hsd (by show pe < e'; omega)] : nk ss (k + 1) = (e', l'))
              simp only [World.size_alloc] at hob
              have s0 : w5.cell? ⟨w3.heap.size, 0, none⟩ = some (.int .i64 e') := cell_later hb5 (by simp)
              have s1 : w5.cell? ⟨w3.heap.size, 1, none⟩ = some (.slice so' l'.length sc') := cell_later hb5 (by simp)
              have s2 : w5.cell? ⟨w3.heap.size, 2, none⟩ = some (.slice none 0 0) := cell_later hb5 (by simp)
              have sf : w5.frozen? ⟨w3.heap.size, 2, none⟩ = false := frozen_later hb5 (by simp) (by simp)
              have k0 := cell_later hb35 m0
              have k1 := cell_later hb35 m1
              have k2 := cell_later hb35 m2
              have kf0 := frozen_later hb35 mlt mf0
              have kf1 := frozen_later hb35 mlt mf1
              have kf2 := frozen_later hb35 mlt mf2
              have hb36 : Below w3.heap.size w3 (w5.setCell ⟨w3.heap.size, 2, none⟩ (.slice bo' l'.length bc')) := hb35.setCell (p := ⟨w3.heap.size, 2, none⟩) (Nat.le_refl _) _
              have hN6 := (hN.later hb3).later hb36
              have o1 := own_mono (own_later ho' hb36) hszr
              have o2 := own_mono (own_store (o := 2) hob (Nat.lt_succ_self _) (.slice bo' l'.length bc')) (Nat.le_trans hsz3 (Nat.le_succ _))
              have hN7 := hN6.put (e' := e') (by omega) o1 o2
              have hb17 : Below (w.heap.size + 1 + 1) w1 ((((w5.setCell ⟨w3.heap.size, 2, none⟩ (.slice bo' l'.length bc')).setCell ⟨w.heap.size + 1 + 1, 0, none⟩ (.int .i64 e')).setCell ⟨w.heap.size + 1 + 1, 1, none⟩ (.slice so' l'.length sc')).setCell ⟨w.heap.size + 1 + 1, 2, none⟩ (.slice bo' l'.length bc')) :=
                (((hb13.trans (hb36.mono (by omega))).setCell (p := ⟨w.heap.size + 1 + 1, 0, none⟩) (Nat.le_refl _) _).setCell (p := ⟨w.heap.size + 1 + 1, 1, none⟩) (Nat.le_refl _) _).setCell (p := ⟨w.heap.size + 1 + 1, 2, none⟩) (Nat.le_refl _) _
              have nes : ¬ w3.heap.size = w.heap.size + 1 + 1 := by omega
              have nes' : ¬ w.heap.size + 1 + 1 = w3.heap.size := by omega
              clear hsup HNK hN hb3 hsd hN4 hN6 o1 o2 hob ho' hb36 m0 m1 m2 mf0 mf1 mf2
              go_wp2
              exact ⟨⟨k + 1, by omega, by go_num, by rw [GK.out]; exact hN7, hb17⟩, by simp [intOf]; omega⟩
      · obtain rfl : k = 2 := by omega
        rw [← G.out] at hN
        obtain ⟨⟨ne, nl⟩, hnw⟩ : ∃ nw, newestR ss ws = nw := ⟨_, rfl⟩
        rw [hnw] at hN
        have HNW : Hid (newestR ss ws = (ne, nl)) := hnw
        clear hnw
        simp only at hN
        obtain ⟨⟨mv, mbv, m0, m1, m2, o1, o2⟩, _, _, _, _⟩ := hN
        obtain ⟨c0, c1, c2, f0, f1, f2, lt⟩ := z1.low hb (by omega)
        obtain ⟨mo, mc, rfl, _⟩ := own_cell o1
        obtain ⟨bo, bc, rfl, _⟩ := own_cell o2
        have t1 := own_mono (B' := w.heap.size) (own_store3 o1 (R := w.heap.size + 1) (by omega) (.int .i64 ne) (.slice mo nl.length mc) (.slice bo nl.length bc)) (by omega)
        have t2 := own_mono (B' := w.heap.size) (own_store3 o2 (R := w.heap.size + 1) (by omega) (.int .i64 ne) (.slice mo nl.length mc) (.slice bo nl.length bc)) (by omega)
        clear hsr n0 o1 o2
        go_wp2
        exact bodyPost_ret (v := .agg #[.int .i64 ne, .slice mo nl.length mc, .slice bo nl.length bc]) (by simp [results, Tryz.results32, go_sem, c0, c1, c2]) rfl ⟨⟨_, _, by rw [HNW.out], by rw [HNW.out]; exact t1, by rw [HNW.out]; exact t2⟩, zs_ends hbwr (by omega) _ _ _⟩

theorem newestSuper_any (v1 v2 : Value) (ss : List ByteArray) (ws : List Disk.Wr) (a0 a1 a2 a3 : Addr) (w : World) (hv1 : Disk.SR w v1 ss) (hv2 : Disk.WR w v2 ws) (h1 : ss.length ≤ 10000000000000) (h2 : ws.length ≤ 10000000000000) (hcp : ∃ ao, v1 = .slice ao ss.length ss.length) (hss : Disk.okD ss ws = true → Ss w v1 ss) (hC : Ctx a0 a1 a2 a3 w) :
    Calls Tryz.prog 32 #[.agg #[v1, v2]] w fun x w' => (∃ v bv, x = .returned (.agg #[.int .i64 (newestR ss ws).1, v, bv]) ∧ w'.ownsRow w.heap.size 2 1 v (newestR ss ws).2.length (icells (newestR ss ws).2) ∧ w'.ownsRow w.heap.size 9 1 bv (newestR ss ws).2.length (tcells (bodiesK ss (newestR ss ws).2 (newestR ss ws).2.length))) ∧ Below w.heap.size w w' :=
  newestSuper_cap v1 v2 ss ws a0 a1 a2 a3 w hv1 hv2 h1 h2 (hcp.elim fun ao e => ⟨ao, _, e, Nat.le_refl _⟩) hss hC

end Go.Proofs.YtjclpbaiiklhcaaGreatDoor
