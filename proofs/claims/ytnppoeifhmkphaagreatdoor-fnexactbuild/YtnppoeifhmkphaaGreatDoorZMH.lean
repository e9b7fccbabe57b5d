import Derived.Test.YtnppoeifhmkphaaGreatDoorZML
import Derived.Test.YtnppoeifhmkphaaGreatDoorZGRen
import Derived.Test.YtnppoeifhmkphaaGreatDoorZMBase
import Derived.Test.YtnppoeifhmkphaaGreatDoorZMCpy
import Derived.Test.YtnppoeifhmkphaaGreatDoorZMJ
import Derived.Test.YtnppoeifhmkphaaGreatDoorZMI
import Derived.Test.YtnppoeifhmkphaaGreatDoorZHLawM
/- Nodes laid down one behind the other, in plain words. -/
namespace Go.Proofs.YtnppoeifhmkphaaGreatDoor
open Go.RowKit

def partW (ns : List Nd) (k : Nat) : List Int := (ns.take k).flatMap (nodeW ns) ++ List.replicate (3200 - plc ns k) 0
theorem part_len (ns : List Nd) (k : Nat) : ((ns.take k).flatMap (nodeW ns)).length = plc ns k := by
  unfold plc
  rw [List.length_flatMap]
  congr 1
  refine List.map_congr_left fun n _ => ?_
  simp [nodeW]
  omega
theorem part_length (ns : List Nd) (k : Nat) (h : plc ns k ≤ 3200) : (partW ns k).length = 3200 := by
  unfold partW
  rw [List.length_append, part_len, List.length_replicate]
  omega
theorem part_zero (ns : List Nd) : partW ns 0 = List.replicate 3200 0 := by
  unfold partW
  rw [show plc ns 0 = 0 from by simp [plc], List.take_zero, List.flatMap_nil, List.nil_append]
theorem part_all (ns : List Nd) : partW ns ns.length = laidW ns := by
  unfold partW laidW
  rw [laidU_length, List.take_length]
  rfl
theorem splice_app (A l : List Int) (m : Nat) : splice (A ++ List.replicate m 0) A.length l = A ++ l ++ List.replicate (m - l.length) 0 := by
  unfold splice
  rw [List.take_left, List.drop_append, List.drop_eq_nil_of_le (by omega), List.nil_append, show A.length + l.length - A.length = l.length from by omega, List.drop_replicate, List.append_assoc]
theorem part_succ (ns : List Nd) (k : Nat) (hk : k < ns.length) :
    splice (splice (partW ns k) (plc ns k) [((ns.getD k nd0).fl.length : Int), (ns.getD k nd0).cls, (ns.getD k nd0).hash, 0]) (plc ns k + 4) ((ns.getD k nd0).fl.map (rnI ns)) = partW ns (k + 1) := by
  have hs := plc_succ ns k hk
  have e1 : splice (partW ns k) (plc ns k) [((ns.getD k nd0).fl.length : Int), (ns.getD k nd0).cls, (ns.getD k nd0).hash, 0] = ((ns.take k).flatMap (nodeW ns) ++ [((ns.getD k nd0).fl.length : Int), (ns.getD k nd0).cls, (ns.getD k nd0).hash, 0]) ++ List.replicate (3200 - plc ns k - 4) 0 := by
    have q := splice_app ((ns.take k).flatMap (nodeW ns)) [((ns.getD k nd0).fl.length : Int), (ns.getD k nd0).cls, (ns.getD k nd0).hash, 0] (3200 - plc ns k)
    rw [part_len] at q
    exact q
  rw [e1]
  have q := splice_app ((ns.take k).flatMap (nodeW ns) ++ [((ns.getD k nd0).fl.length : Int), (ns.getD k nd0).cls, (ns.getD k nd0).hash, 0]) ((ns.getD k nd0).fl.map (rnI ns)) (3200 - plc ns k - 4)
  rw [List.length_append, part_len, List.length_map] at q
  rw [show plc ns k + 4 = plc ns k + [((ns.getD k nd0).fl.length : Int), (ns.getD k nd0).cls, (ns.getD k nd0).hash, 0].length from rfl, q]
  unfold partW
  rw [List.take_succ_eq_append_getElem hk, List.flatMap_append, show ns[k] = ns.getD k nd0 from by simp [hk], hs]
  rw [show 3200 - plc ns k - 4 - (ns.getD k nd0).fl.length = 3200 - (plc ns k + (4 + (ns.getD k nd0).fl.length)) from by omega]
  simp [nodeW]
theorem rnM_plcF (ns : List Nd) : rnM (plcF ns ns.length) = rnI ns := by
  funext x
  unfold rnM rnI
  cases hx : isK 2 x
  · simp
  · simp only [if_true]
    have h0 : 0 ≤ x / 2 := by
      have q : kindW x = 2 := of_decide_eq_true hx
      unfold kindW at q
      split at q
      · split at q
        · rename_i a
          exact (of_decide_eq_true a).1
        · omega
      · split at q <;> omega
    unfold plcF
    by_cases h1 : x / 2 < (ns.length : Int)
    · rw [if_pos ⟨h0, h1⟩, if_pos (by omega)]
      rfl
    · rw [if_neg (by omega), if_neg (by omega)]
      rfl
theorem plcF_bound (ns : List Nd) (h : plc ns ns.length ≤ 2000) (y : Int) : 0 ≤ (plcF ns ns.length y).getD 0 ∧ (plcF ns ns.length y).getD 0 ≤ 3199 := by
  unfold plcF
  split
  · rename_i a
    have q := plc_le ns y.toNat (ns.length - y.toNat) (by omega)
    rw [show y.toNat + (ns.length - y.toNat) = ns.length from by omega] at q
    simp
    omega
  · simp
theorem plcF_at (ns : List Nd) (k : Nat) (h : k < ns.length) : (plcF ns ns.length (k : Int)).getD 0 = (plc ns k : Nat) := by
  unfold plcF
  rw [if_pos (by omega)]
  simp

theorem rnI_even {ns : List Nd} {x : Int} (h : x % 2 = 0) : rnI ns x = x := by
  unfold rnI
  rw [(wok_kind_even h).2]
  rfl
theorem rnI_odd {ns : List Nd} {x : Int} (h : ¬ x % 2 = 0) (h1 : 0 < x) (h2 : x / 2 < (ns.length : Int)) (hn : ns.length ≤ 500) : rnI ns x = 2 * ((plc ns (x / 2).toNat : Nat) : Int) + 1 := by
  have q : isK 2 x = true := by
    rw [(wok_kind_odd h).1, wok_odd h]
    exact decide_eq_true (by omega)
  unfold rnI
  rw [q, if_pos rfl, if_pos (by omega)]
theorem splice_nil (W : List Int) (i : Nat) : splice W i [] = W := by simp [splice]
theorem splice_step (W L : List Int) (i j : Nat) (hj : j < L.length) (h : i + L.length ≤ W.length) : (splice W i (L.take j)).set (i + j) (L.getD j 0) = splice W i (L.take (j + 1)) := by
  have l0 : (L.take j).length = j := by rw [List.length_take]; omega
  have l1 : (L.take (j + 1)).length = j + 1 := by rw [List.length_take]; omega
  refine ilists_eq (by rw [List.length_set, length_splice _ _ _ (by omega), length_splice _ _ _ (by omega)]) fun q hq => ?_
  rw [List.length_set, length_splice _ _ _ (by omega)] at hq
  rw [splice_get _ _ _ _ (by omega), l1]
  have e : ((splice W i (L.take j)).set (i + j) (L.getD j 0)).getD q 0 = if i + j = q then L.getD j 0 else (splice W i (L.take j)).getD q 0 := by
    simp only [List.getD_eq_getElem?_getD, List.getElem?_set, length_splice W i (L.take j) (by omega)]
    by_cases h' : i + j = q
    · subst h'
      rw [if_pos rfl, if_pos rfl, if_pos hq]
      rfl
    · rw [if_neg h', if_neg h']
  rw [e, splice_get _ _ _ _ (by omega), l0]
  by_cases h1 : q < i
  · rw [if_neg (by omega), if_pos h1, if_pos h1]
  · by_cases h2 : i + j = q
    · subst h2
      rw [if_pos rfl, if_neg h1, if_pos (by omega), show i + j - i = j from by omega]
      simp [List.getD_eq_getElem?_getD]
    · rw [if_neg h2, if_neg h1, if_neg h1]
      by_cases h3 : q < i + j
      · rw [if_pos h3, if_pos (by omega)]
        simp only [List.getD_eq_getElem?_getD]
        rw [List.getElem?_take_of_lt (by omega), List.getElem?_take_of_lt (by omega)]
      · rw [if_neg h3, if_neg (by omega)]

end Go.Proofs.YtnppoeifhmkphaaGreatDoor

/- The state of laidGraph on its way. -/
namespace Go.Proofs.YtnppoeifhmkphaaGreatDoor
open Go.RowKit

theorem own_stay {w w' : World} {B n gW : Nat} {v : Value} {xs : List Value} (h : w.ownsRow B 2 1 v n xs) (hg : w.grownBy w' (some gW)) (hB : gW < B) : w'.ownsRow B 2 1 v n xs := by
  obtain ⟨hl, h⟩ := h
  refine ⟨hl, ?_⟩
  rcases h with h | ⟨g, cap, cur, hv, hb, hh, r⟩
  · exact .inl h
  · refine .inr ⟨g, cap, cur, hv, hb, ?_, r⟩
    have hlt : g < w.heap.size := by
      rcases Nat.lt_or_ge g w.heap.size with q | q
      · exact q
      · rw [Array.getElem?_eq_none q] at hh; cases hh
    rw [hg.block g hlt (fun e => by injection e; omega)]
    exact hh

theorem own_stay' {w w' : World} {B n c : Nat} {v : Value} {xs : List Value} (h : w.ownsRow B 2 1 v n xs) (hg : w.grownBy w' (some c)) (hB : c < B) : w'.ownsRow B 2 1 v n xs := own_stay h hg hB

/-- What holds while nodes are laid: the argument's box, the result's, the heap's, its rows and the map. -/
structure LS (w W : World) (g : Gr) (ra : Option Addr) (rc : Nat) (na : Option Addr) (nc M mn gW H : Nat) (ro : Option Addr) (cR k : Nat) : Prop where
  bel : Below w.heap.size w W
  g0 : W.cell? ⟨w.heap.size, 0, none⟩ = some (.slice ra g.roots.length rc)
  g1 : W.cell? ⟨w.heap.size, 1, none⟩ = some (.slice na g.nodes.length nc)
  g2 : W.cell? ⟨w.heap.size, 2, none⟩ = some (.int .i64 g.hash)
  res : ∃ f, W.rowIs (w.heap.size + 1) 35 8 f
  box : W.rowIs H 35 8 (fun i => (#[.slice (some ⟨gW, 0, none⟩) 3200 3200, .slice ro g.roots.length cR, .int .i64 ((plc g.nodes g.nodes.length : Nat) : Int), .int .i64 2000, .int .i64 2600, .bool false, .int .i64 g.hash, .slice none 0 0] : Array Value)[i]?.getD undef)
  words : RI W gW (partW g.nodes k) 3200
  roots : W.ownsRow (H + 1) 2 1 (.slice ro g.roots.length cR) g.roots.length (icells (g.roots.map (rnI g.nodes)))
  map : MP W M mn (plcF g.nodes g.nodes.length)
  o1 : w.heap.size + 1 < M
  o2 : M < gW
  o3 : gW < H
theorem LS.later {W' w W : World} {g : Gr} {ra na ro : Option Addr} {rc nc M mn gW H cR k : Nat} (h : LS w W g ra rc na nc M mn gW H ro cR k) (hb : Below W.heap.size W W') : LS w W' g ra rc na nc M mn gW H ro cR k := by
  obtain ⟨f, R⟩ := h.res
  exact ⟨h.bel.trans (hb.mono h.bel.size), cell_later hb h.g0, cell_later hb h.g1, cell_later hb h.g2, ⟨f, R.of_block (hb.block _ R.lt)⟩, h.box.of_block (hb.block _ h.box.lt), h.words.later hb, own_later h.roots hb, h.map.later hb, h.o1, h.o2, h.o3⟩
theorem LS.put {W' w W : World} {g : Gr} {ra na ro : Option Addr} {rc nc M mn gW H cR k j : Nat} (h : LS w W g ra rc na nc M mn gW H ro cR k) (hg : W.grownBy W' (some gW)) (hw : RI W' gW (partW g.nodes j) 3200) : LS w W' g ra rc na nc M mn gW H ro cR j := by
  obtain ⟨f, R⟩ := h.res
  have o1 := h.o1
  have o2 := h.o2
  have o3 := h.o3
  have n0 : some w.heap.size ≠ some gW := fun e => by injection e; omega
  have n1 : some (w.heap.size + 1) ≠ some gW := fun e => by injection e; omega
  have n2 : some H ≠ some gW := fun e => by injection e; omega
  exact ⟨Below.grown h.bel hg h.bel.size (fun k hk => by cases hk; omega), hg.cell h.g0 n0, hg.cell h.g1 n0, hg.cell h.g2 n0, ⟨f, R.of_block (hg.block _ R.lt n1)⟩, h.box.of_block (hg.block _ h.box.lt n2), hw, own_stay h.roots hg (by omega), (Grew.grown hg).mp h.map (fun e => by have e2 : gW = M := Option.some.inj e; omega), o1, o2, o3⟩
set_option maxHeartbeats 800000 in
theorem implNewHeap_x (w : World) : Calls Tryz.prog 42 #[] w fun e w' => (e = .returned (.agg #[.slice (some ⟨w.heap.size + 1, 0, none⟩) 3200 3200, .slice none 0 0, .int .i64 0, .int .i64 2000, .int .i64 2600, .bool false, .int .i64 1, .slice none 0 0]) ∧ RI w' (w.heap.size + 1) (List.replicate 3200 0) 3200) ∧ Below w.heap.size w w' := by
  have hmk := makeW
  have hr := made_ri (w.alloc (.cells #[.slice (some ⟨w.heap.size + 1, 0, none⟩) 3200 3200, .slice none 0 0, .int .i64 0, .int .i64 2000, .int .i64 2600, .bool false, .int .i64 1, .slice none 0 0] 35)) 3200
  rw [World.size_alloc] at hr
  go_enter Tryz.func42, Tryz.ntmps42
  go_wp2
  exact bodyPost_ret (v := .agg #[.slice (some ⟨w.heap.size + 1, 0, none⟩) 3200 3200, .slice none 0 0, .int .i64 0, .int .i64 2000, .int .i64 2600, .bool false, .int .i64 1, .slice none 0 0]) (by simp [results, Tryz.results42, go_sem]) rfl ⟨⟨rfl, hr⟩, bel_after (bel_one _ _) (bel_one _ _)⟩
set_option maxHeartbeats 800000 in
theorem specNewHeap_x (w : World) : Calls Tryz.prog 38 #[] w fun e w' => (e = .returned (.agg #[.slice (some ⟨w.heap.size + 1, 0, none⟩) 3200 3200, .slice none 0 0, .int .i64 0, .int .i64 2000, .int .i64 2600, .bool false, .int .i64 1, .slice none 0 0]) ∧ RI w' (w.heap.size + 1) (List.replicate 3200 0) 3200) ∧ Below w.heap.size w w' := by
  have hmk := makeW
  have hr := made_ri (w.alloc (.cells #[.slice (some ⟨w.heap.size + 1, 0, none⟩) 3200 3200, .slice none 0 0, .int .i64 0, .int .i64 2000, .int .i64 2600, .bool false, .int .i64 1, .slice none 0 0] 35)) 3200
  rw [World.size_alloc] at hr
  go_enter Tryz.func38, Tryz.ntmps38
  go_wp2
  exact bodyPost_ret (v := .agg #[.slice (some ⟨w.heap.size + 1, 0, none⟩) 3200 3200, .slice none 0 0, .int .i64 0, .int .i64 2000, .int .i64 2600, .bool false, .int .i64 1, .slice none 0 0]) (by simp [results, Tryz.results38, go_sem]) rfl ⟨⟨rfl, hr⟩, bel_after (bel_one _ _) (bel_one _ _)⟩

end Go.Proofs.YtnppoeifhmkphaaGreatDoor
