
import Derived.Test.YthdffigckohpoaaGreatZV13
import Derived.Test.YthdffigckohpoaaGreatZCSort2
import Derived.Test.YthdffigckohpoaaGreatZV4
import Derived.Test.YthdffigckohpoaaGreatZCSpec
import Derived.Test.YthdffigckohpoaaGreatZV11
/- Where each object that is reached goes, in plain words. -/
namespace Go.Proofs.YthdffigckohpoaaGreat
open Go.RowKit
theorem srt_eq {h : Hp} (k : okC h = true) {m : List Int} (p : m.Perm (ints (ordF h.words h.roots))) (q : m.Pairwise (fun a b => leI a b = true)) : m = ints (rchL h) := by
 have p2 : (ints (ordF h.words h.roots)).Perm (ints (rchL h)) := by unfold ints; exact (rch_perm k).map _
 have q2 : (ints (rchL h)).Pairwise (fun a b => leI a b = true) := by
  unfold ints
  rw [List.pairwise_map]
  exact (rch_sorted k).imp (fun x => by unfold leI; simp; omega)
 refine List.Perm.eq_of_pairwise (le := fun a b => leI a b = true) (fun a b _ _ h1 h2 => ?_) q q2 (p.trans p2)
 unfold leI at h1 h2
 simp at h1 h2
 omega
theorem rch_len {h : Hp} (k : okC h = true) : (rchL h).length = (ordF h.words h.roots).length := (rch_perm k).length_eq.symm
theorem rch_obs {h : Hp} (k : okC h = true) : (rchL h).length <= 3200 /\ ∀ a, a ∈ rchL h -> a + 4 <= 3200 /\ 0 <= gw h.words a /\ gw h.words a <= 60 := by
 have R := c_right k
 refine ⟨by rw [rch_len k]; exact ord_len R, fun a ha => ?_⟩
 have q := R.1.obj ((List.mem_filter.1 ha).1)
 exact ⟨q.1, size_of q.2.2⟩
/-- Where the first i of them go. -/
def plF (W : List Int) (rl : List Nat) (i : Nat) : Int -> Option Int := fun x => if x ∈ ints (rl.take i) then some (szS W (rl.take (rl.idxOf x.toNat))) else none
theorem plF_zero (W : List Int) (rl : List Nat) : plF W rl 0 = fun _ => none := by
 funext x
 simp [plF, ints]
theorem idx_at {rl : List Nat} (nd : rl.Nodup) {i : Nat} (hi : i < rl.length) : rl.idxOf (rl.getD i 0) = i := by
 have e : rl.getD i 0 = rl[i] := by simp [List.getD_eq_getElem?_getD, hi]
 rw [e]
 exact nd.idxOf_getElem i hi
theorem plF_succ (W : List Int) {rl : List Nat} (nd : rl.Nodup) {i : Nat} (hi : i < rl.length) : putF (plF W rl i) ((rl.getD i 0 : Nat) : Int) (szS W (rl.take i)) = plF W rl (i + 1) := by
 funext x
 unfold putF plF
 have e : rl.take (i + 1) = rl.take i ++ [rl.getD i 0] := ltake_snoc rl i hi
 rw [e]
 by_cases hx : x = ((rl.getD i 0 : Nat) : Int)
 ·subst hx
  rw [if_pos rfl, if_pos (by simp [ints]), Int.toNat_natCast, idx_at nd hi]
 ·rw [if_neg hx]
  have : x ∈ ints (rl.take i ++ [rl.getD i 0]) ↔ x ∈ ints (rl.take i) := by
   unfold ints
   rw [List.map_append, List.mem_append]
   constructor
   ·rintro (q | q)
    ·exact q
    ·simp only [List.map_cons, List.map_nil, List.mem_singleton] at q
     exact absurd q hx
   ·exact .inl
  by_cases q : x ∈ ints (rl.take i)
  ·rw [if_pos q, if_pos (this.2 q)]
  ·rw [if_neg q, if_neg (fun z => q (this.1 z))]
end Go.Proofs.YthdffigckohpoaaGreat
/- Moves in plain words, and that the model says the same. -/
namespace Go.Proofs.YthdffigckohpoaaGreat
open Go.RowKit
noncomputable def mvL (h : Hp) : List Int := (obC h).map fun a => (plF h.words (rchL h) (rchL h).length ((a : Nat) : Int)).getD (-1)
/-- What Moves answers. -/
noncomputable def mvC (h : Hp) : List Int := if okC h = true /\ szS h.words (rchL h) <= 2000 then mvL h else []
theorem mv_len (h : Hp) : (mvL h).length = (obC h).length := by simp [mvL]
theorem mv_at {h : Hp} {j : Nat} (hj : j < (obC h).length) : (mvL h).getD j 0 = (plF h.words (rchL h) (rchL h).length (((obC h).getD j 0 : Nat) : Int)).getD (-1) := by
 simp [mvL, List.getD_eq_getElem?_getD, hj]
theorem mv_short (h : Hp) : (mvC h).length <= 3200 := by
 unfold mvC
 split
 ·rw [mv_len]; exact ob_short h
 ·simp
theorem gt_char {h : Hp} {l : List Nat} (R : RightAt h l) (sn : List Bool) (p : Nat -> Bool) (hp : ∀ a, sn.getD a false = p a) : ∀ k, k <= l.length -> ((gtS h.words sn l k).2 : Int) = szS h.words ((l.take k).filter p) /\ GT h.words l (gtS h.words sn l k) k ∧
  ∀ j, j < k -> ((gtS h.words sn l k).1.getD (l.getD j 0) 0 : Int) = if p (l.getD j 0) = true then szS h.words ((l.take j).filter p) + 1 else 0
 | 0, _ => ⟨by simp [gtS, szS], gt_start _ _ _, fun j hj => absurd hj (Nat.not_lt_zero j)⟩
 | k + 1, hk => by
  obtain ⟨e, G, A⟩ := gt_char R sn p hp k (by omega)
  have so := ((right_iff R.1.1).1 R).1.sorted
  have hlt : k < l.length := hk
  have E : gtS h.words sn l (k + 1) = gt1 h.words sn (gtS h.words sn l k) (l.getD k 0) := rfl
  have G' := gt_step R sn G hlt
  rw [<- E] at G'
  have hm : l.getD k 0 ∈ l := getD_mem hlt
  obtain ⟨o1, o2, o3⟩ := R.1.obj hm
  have sz := size_of o3
  have tk : l.take (k + 1) = l.take k ++ [l.getD k 0] := ltake_snoc l k hlt
  refine ⟨?_, G', fun j hj => ?_⟩
  ·rw [E, tk, List.filter_append, szS_app]
   unfold gt1
   rw [hp]
   cases hs : p (l.getD k 0)
   ·simp only [Bool.false_eq_true, if_false, List.filter_cons, hs, List.filter_nil, szS]
    omega
   ·simp only [if_true, List.filter_cons, hs, List.filter_nil, szS]
    omega
  ·rw [E]
   unfold gt1
   rw [hp]
   cases hs : p (l.getD k 0)
   ·simp only [Bool.false_eq_true, if_false]
    by_cases e2 : j = k
    ·subst e2
     rw [hs, if_neg (by simp), G.z _ (fun j' hj' => sorted_ne so hlt hj')]
     rfl
    ·exact A j (by omega)
   ·simp only [if_true]
    rw [getD_set_nat _ _ _ _ (by rw [G.len]; omega)]
    by_cases e2 : j = k
    ·subst e2
     rw [if_pos rfl, if_pos hs]
     omega
    ·rw [if_neg (fun q => sorted_ne so hlt (show j < k from by omega) q.symm)]
     exact A j (by omega)
theorem idx_part {A B : List Nat} {a : Nat} (h : a ∉ A) : (A ++ a :: B).take ((A ++ a :: B).idxOf a) = A := by
 have e : (A ++ a :: B).idxOf a = A.length := by
  rw [List.idxOf_append, if_neg h]
  simp
 rw [e]
 simp
/-- The model's moves are these. -/
theorem mv_spec {h : Hp} (k : okC h = true) {i : Nat} (e : i = (rcS h i).1.length) : ((gtS h.words (rcS h i).2 (obC h) (obC h).length).2 : Int) = szS h.words (rchL h) ∧
  ∀ j, j < (obC h).length -> ((gtS h.words (rcS h i).2 (obC h) (obC h).length).1.getD ((obC h).getD j 0) 0 : Int) - 1 = (mvL h).getD j 0 := by
 have R := c_right k
 have so := ok_sorted k
 have P := gt_char R (rcS h i).2 (fun a => decide (a ∈ ordF h.words h.roots)) (fun a => by
  have := seen_iff R e a
  cases hs : (rcS h i).2.getD a false
  ·rw [hs] at this
   have n : ¬ a ∈ ordF h.words h.roots := fun q => by have := this.2 q; cases this
   simp [n]
  ·have y := this.1 hs
   simp [y]) (obC h).length (Nat.le_refl _)
 rw [List.take_length] at P
 refine ⟨P.1, fun j hj => ?_⟩
 rw [P.2.2 j hj, mv_at hj]
 have sp : obC h = (obC h).take j ++ (obC h).getD j 0 :: (obC h).drop (j + 1) := by
  have e1 := List.take_append_drop j (obC h)
  rw [List.drop_eq_getElem_cons hj] at e1
  have e2 : (obC h).getD j 0 = (obC h)[j] := by simp [List.getD_eq_getElem?_getD, hj]
  rw [e2]
  exact e1.symm
 have na : (obC h).getD j 0 ∉ (obC h).take j := fun q => by
  obtain ⟨m, hm, em⟩ := List.mem_iff_getElem.1 q
  rw [List.length_take] at hm
  have := sorted_ne so hj (show m < j from by omega)
  apply this
  rw [List.getElem_take] at em
  rw [<- em]
  simp [List.getD_eq_getElem?_getD, show m < (obC h).length from by omega]
 by_cases hq : (obC h).getD j 0 ∈ ordF h.words h.roots
 ·have hr : rchL h = ((obC h).take j).filter (fun a => decide (a ∈ ordF h.words h.roots)) ++ (obC h).getD j 0 :: ((obC h).drop (j + 1)).filter (fun a => decide (a ∈ ordF h.words h.roots)) := by
   unfold rchL
   conv => lhs; rw [sp]
   rw [List.filter_append, List.filter_cons, if_pos (decide_eq_true hq)]
  have ip := idx_part (A := ((obC h).take j).filter (fun a => decide (a ∈ ordF h.words h.roots))) (B := ((obC h).drop (j + 1)).filter (fun a => decide (a ∈ ordF h.words h.roots))) (fun q => na (List.mem_filter.1 q).1)
  rw [<- hr] at ip
  rw [if_pos (decide_eq_true hq)]
  unfold plF
  rw [List.take_length, if_pos, Int.toNat_natCast, ip]
  ·show _ + 1 - 1 = _
   simp
  ·exact List.mem_map.2 ⟨_, by rw [hr]; simp, rfl⟩
 ·rw [if_neg (by simpa using hq)]
  unfold plF
  rw [List.take_length, if_neg]
  ·rfl
  ·intro q
   obtain ⟨b, hb, eb⟩ := List.mem_map.1 q
   have : b = (obC h).getD j 0 := by omega
   subst this
   have := (List.mem_filter.1 hb).2
   exact hq (by simpa using this)
end Go.Proofs.YthdffigckohpoaaGreat
/- Compacting in plain words: objects copied down within the same words come to lie as the model lays them. -/
namespace Go.Proofs.YthdffigckohpoaaGreat
open Go.RowKit
/-- The words of an object, behind the moves. -/
def owd (W : List Int) (f : Int -> Option Int) (a : Nat) : List Int := [gw W a, gw W (a + 1), gw W (a + 2), gw W (a + 3)] ++ (flds W a).map (rnM f)
theorem owd_len (W : List Int) (f : Int -> Option Int) (a : Nat) : (owd W f a).length = 4 + (gw W a).toNat := by
 simp [owd, flds]
 omega
theorem owd_head (W : List Int) (f : Int -> Option Int) (a k : Nat) (h : k < 4) : (owd W f a).getD k 0 = gw W (a + k) := by
 rcases (show k = 0 ∨ k = 1 ∨ k = 2 ∨ k = 3 from by omega) with rfl | rfl | rfl | rfl <;> simp [owd]
theorem owd_fld (W : List Int) (f : Int -> Option Int) (a k : Nat) (h1 : 4 <= k) (h2 : k < 4 + (gw W a).toNat) : (owd W f a).getD k 0 = rnM f (gw W (a + k)) := by
 obtain ⟨j, rfl⟩ : ∃ j, k = 4 + j := ⟨k - 4, by omega⟩
 have e : (owd W f a).getD (4 + j) 0 = ((flds W a).map (rnM f)).getD j 0 := by
  unfold owd
  rw [gd_right (by simp)]
  simp
 rw [e]
 have hj : j < (gw W a).toNat := by omega
 simp [flds, List.getD_eq_getElem?_getD, hj, show a + (4 + j) = a + 4 + j from by omega]
def outW (W : List Int) (f : Int -> Option Int) (l : List Nat) : List Int := l.flatMap (owd W f)
theorem outW_snoc (W : List Int) (f : Int -> Option Int) (l : List Nat) (a : Nat) : outW W f (l ++ [a]) = outW W f l ++ owd W f a := by simp [outW]
theorem outW_app (W : List Int) (f : Int -> Option Int) (l m : List Nat) : outW W f (l ++ m) = outW W f l ++ outW W f m := by simp [outW]
theorem outW_size {W : List Int} (f : Int -> Option Int) : ∀ {l : List Nat}, (∀ a, a ∈ l -> 0 <= gw W a) -> ((outW W f l).length : Int) = szS W l
 | [], _ => by simp [outW, szS]
 | a :: l, h => by
  have ih := outW_size f (l := l) fun b hb => h b (by simp [hb])
  have h0 := h a (by simp)
  have e : outW W f (a :: l) = owd W f a ++ outW W f l := by simp [outW]
  rw [e, List.length_append, owd_len, szS]
  omega
theorem getD_past {l : List Int} {j : Nat} (h : l.length <= j) : l.getD j 0 = 0 := by simp [List.getD_eq_getElem?_getD, h]
theorem list_ext {l m : List Int} (hl : l.length = m.length) (h : ∀ j, l.getD j 0 = m.getD j 0) : l = m := by
 refine List.ext_getElem hl fun i h1 h2 => ?_
 have := h i
 simpa [List.getD_eq_getElem?_getD, h1, h2] using this
section
variable {h : Hp} (k : okC h = true)
include k
theorem rl_apart {i j : Nat} (hij : i < j) (hj : j < (rchL h).length) : nx h.words ((rchL h).getD i 0) <= (rchL h).getD j 0 := by
 have R := c_right k
 have mi : (rchL h).getD i 0 ∈ rchL h := lget_mem _ _ (by omega)
 have mj : (rchL h).getD j 0 ∈ rchL h := lget_mem _ _ hj
 have lt := List.pairwise_iff_getElem.1 (rch_sorted k) i j (by omega) hj hij
 refine R.1.apart (List.mem_filter.1 mi).1 (List.mem_filter.1 mj).1 ?_
 simpa [List.getD_eq_getElem?_getD, List.getElem?_eq_getElem hj, List.getElem?_eq_getElem (show i < (rchL h).length from by omega)] using lt
theorem rl_place (f : Int -> Option Int) : ∀ i, i < (rchL h).length -> (outW h.words f ((rchL h).take i)).length <= (rchL h).getD i 0
 | 0, _ => by simp [outW]
 | i + 1, hi => by
  have ih := rl_place f i (by omega)
  have ap := rl_apart k (i := i) (j := i + 1) (by omega) hi
  rw [ltake_snoc _ _ (show i < (rchL h).length from by omega), outW_snoc, List.length_append, owd_len]
  unfold nx at ap
  omega
end
/-- The words when i objects lie at their places. -/
structure DW (h : Hp) (f : Int -> Option Int) (i : Nat) (V : List Int) : Prop where
 len : V.length = 3200
 pre : ∀ j, j < (outW h.words f ((rchL h).take i)).length -> V.getD j 0 = (outW h.words f ((rchL h).take i)).getD j 0
 rest : ∀ j, (∀ q, q < i -> nx h.words ((rchL h).getD q 0) <= j) -> V.getD j 0 = h.words.getD j 0
theorem dw_start {h : Hp} (k : okC h = true) (f : Int -> Option Int) : DW h f 0 h.words := ⟨(c_right k).1.1, fun j hj => by simp [outW] at hj, fun _ _ => rfl⟩
/-- What is read of the object whose turn it is. -/
theorem dw_obj {h : Hp} (k : okC h = true) {f : Int -> Option Int} {i : Nat} {V : List Int} (d : DW h f i V) (hi : i < (rchL h).length) : ∀ j, (rchL h).getD i 0 <= j -> V.getD j 0 = h.words.getD j 0 := fun j hj =>
 d.rest j (fun _ hq => Nat.le_trans (rl_apart k hq hi) hj)
theorem dw_flds {h : Hp} (k : okC h = true) {f : Int -> Option Int} {i : Nat} {V : List Int} (d : DW h f i V) (hi : i < (rchL h).length) : flds V ((rchL h).getD i 0) = flds h.words ((rchL h).getD i 0) := by
 have e0 : gw V ((rchL h).getD i 0) = gw h.words ((rchL h).getD i 0) := dw_obj k d hi _ (Nat.le_refl _)
 unfold flds
 rw [e0]
 exact List.map_congr_left fun j _ => dw_obj k d hi _ (by omega)
/-- The fields renamed in place: the object's words. -/
theorem dw_win {h : Hp} (k : okC h = true) {f : Int -> Option Int} {i : Nat} {V : List Int} (d : DW h f i V) (hi : i < (rchL h).length) : ∀ q, q < 4 + (gw h.words ((rchL h).getD i 0)).toNat →
  (splice V ((rchL h).getD i 0 + 4) ((flds h.words ((rchL h).getD i 0)).map (rnM f))).getD ((rchL h).getD i 0 + q) 0 = (owd h.words f ((rchL h).getD i 0)).getD q 0 := fun q hq => by
 have ob := (rch_obs k).2 _ (lget_mem _ _ hi)
 have R := c_right k
 have nx_ := (R.1.obj (List.mem_filter.1 (lget_mem (rchL h) i hi)).1).2.1
 have fl : ((flds h.words ((rchL h).getD i 0)).map (rnM f)).length = (gw h.words ((rchL h).getD i 0)).toNat := by simp [flds]
 have O := dw_obj k d hi
 unfold nx at nx_
 generalize (rchL h).getD i 0 = a at *
 rw [splice_get _ _ _ _ (by rw [fl, d.len]; omega), fl]
 by_cases h4 : q < 4
 ·rw [if_pos (by omega), owd_head _ _ _ _ h4]
  exact O _ (by omega)
 ·rw [if_neg (by omega), if_pos (by omega), owd_fld _ _ _ _ (by omega) hq]
  have hj : a + q - (a + 4) < (gw h.words a).toNat := by omega
  simp [flds, List.getD_eq_getElem?_getD, hj, show a + 4 + (a + q - (a + 4)) = a + q from by omega]
theorem dw_step {h : Hp} (k : okC h = true) {f : Int -> Option Int} {i : Nat} {V : List Int} (d : DW h f i V) (hi : i < (rchL h).length) :
  DW h f (i + 1) (splice (splice V ((rchL h).getD i 0 + 4) ((flds h.words ((rchL h).getD i 0)).map (rnM f))) (outW h.words f ((rchL h).take i)).length (owd h.words f ((rchL h).getD i 0))) := by
 have R := c_right k
 have nx_ := (R.1.obj (List.mem_filter.1 (lget_mem (rchL h) i hi)).1).2.1
 have pl := rl_place k f i hi
 have fl : ((flds h.words ((rchL h).getD i 0)).map (rnM f)).length = (gw h.words ((rchL h).getD i 0)).toNat := by simp [flds]
 have ol := owd_len h.words f ((rchL h).getD i 0)
 have e := ltake_snoc (rchL h) i hi
 have L := d.len
 unfold nx at nx_
 have l1 : (splice V ((rchL h).getD i 0 + 4) ((flds h.words ((rchL h).getD i 0)).map (rnM f))).length = 3200 := by
  unfold splice
  simp only [List.length_append, List.length_take, List.length_drop, fl, L]
  omega
 have S := fun j => splice_get V ((flds h.words ((rchL h).getD i 0)).map (rnM f)) ((rchL h).getD i 0 + 4) j (by rw [fl, L]; omega)
 rw [fl] at S
 generalize splice V ((rchL h).getD i 0 + 4) ((flds h.words ((rchL h).getD i 0)).map (rnM f)) = V1 at *
 have S2 := fun j => splice_get V1 (owd h.words f ((rchL h).getD i 0)) (outW h.words f ((rchL h).take i)).length j (by rw [ol, l1]; omega)
 rw [ol] at S2
 refine ⟨?_, fun j hj => ?_, fun j hj => ?_⟩
 ·unfold splice
  simp only [List.length_append, List.length_take, List.length_drop, ol, l1]
  omega
 ·rw [e, outW_snoc] at hj ⊢
  rw [List.length_append, ol] at hj
  rw [S2]
  by_cases h1 : j < (outW h.words f ((rchL h).take i)).length
  ·rw [if_pos h1, gd_left h1, S, if_pos (by omega)]
   exact d.pre j h1
  ·rw [if_neg h1, if_pos (by omega), gd_right (by omega)]
 ·have hn := hj i (by omega)
  unfold nx at hn
  rw [S2, if_neg (by omega), if_neg (by omega), S, if_neg (by omega), if_neg (by omega)]
  exact d.rest j (fun q hq => hj q (by omega))
/-- All lie there, and what is behind them is cleared. -/
theorem dw_end {h : Hp} {f : Int -> Option Int} {V : List Int} (d : DW h f (rchL h).length V) (hE : (outW h.words f (rchL h)).length <= 3200) :
  V.take (outW h.words f (rchL h)).length ++ List.replicate (3200 - (outW h.words f (rchL h)).length) 0 = outW h.words f (rchL h) ++ List.replicate (3200 - (outW h.words f (rchL h)).length) 0 := by
 have p := d.pre
 rw [List.take_length] at p
 have L := d.len
 congr 1
 refine list_ext (by rw [List.length_take]; omega) fun j => ?_
 by_cases hj : j < (outW h.words f (rchL h)).length
 ·rw [<- p j hj]
  simp [List.getD_eq_getElem?_getD, hj]
 ·rw [getD_past (l := V.take _) (by rw [List.length_take]; omega), getD_past (by omega)]
/-! The model's words -/
theorem cf_get (W : List Int) (went : List Nat) (V : List Int) (a tq : Nat) : ∀ k, tq + k <= V.length -> ∀ j, (cf W went V a tq k).getD j 0 = if tq <= j /\ j < tq + k then (if 4 <= j - tq then cw went (gw W (a + (j - tq))) else gw W (a + (j - tq))) else V.getD j 0
 | 0, _, j => by rw [if_neg (by omega)]; rfl
 | k + 1, h, j => by
  have ih := cf_get W went V a tq k (by omega) j
  have L := cf_len W went V a tq k
  rw [cf]
  have g : ((cf W went V a tq k).set (tq + k) (if 4 <= k then cw went (gw W (a + k)) else gw W (a + k))).getD j 0 = if j = tq + k then (if 4 <= k then cw went (gw W (a + k)) else gw W (a + k)) else (cf W went V a tq k).getD j 0 := gw_set (cf W went V a tq k) (tq + k) j _ (by omega)
  rw [g, ih]
  by_cases e : j = tq + k
  ·subst e
   rw [if_pos rfl, if_pos (c := tq <= tq + k /\ tq + k < tq + (k + 1)) (by omega), show tq + k - tq = k from by omega]
  ·rw [if_neg e]
   by_cases q : tq <= j /\ j < tq + k
   ·rw [if_pos q, if_pos (c := tq <= j /\ j < tq + (k + 1)) (by omega)]
   ·rw [if_neg q, if_neg (c := tq <= j /\ j < tq + (k + 1)) (by omega)]
/-- A word of a reached object means the same to both. -/
theorem cw_rn {h : Hp} (k : okC h = true) {i : Nat} (e : i = (rcS h i).1.length) {x : Int} (hf : fitB (obC h) x = true) (hr : isK 2 x = true -> (x / 2).toNat ∈ ordF h.words h.roots) :
  cw (gtS h.words (rcS h i).2 (obC h) (obC h).length).1 x = rnM (plF h.words (rchL h) (rchL h).length) x := by
 unfold cw rnM
 by_cases hx : x % 2 = 0
 ·have nk : ¬ isK 2 x = true := fun q => isK_odd q hx
  rw [if_pos hx, if_neg nk]
 ·have ik := odd_isK hf hx
  rw [if_neg hx, if_pos ik]
  have hm := hr ik
  obtain ⟨a, ha, e2, -, -⟩ := odd_obj hf hx
  rw [e2, Int.toNat_natCast] at hm ⊢
  obtain ⟨j, hj, ej⟩ := List.mem_iff_getElem.1 ha
  have ej' : (obC h).getD j 0 = a := by rw [<- ej]; simp [List.getD_eq_getElem?_getD, hj]
  have M := (mv_spec k e).2 j hj
  rw [ej', mv_at hj, ej'] at M
  have pm : plF h.words (rchL h) (rchL h).length (a : Int) = some (szS h.words ((rchL h).take ((rchL h).idxOf a))) := by
   unfold plF
   rw [List.take_length, if_pos, Int.toNat_natCast]
   exact List.mem_map.2 ⟨a, List.mem_filter.2 ⟨ha, decide_eq_true hm⟩, rfl⟩
  rw [pm] at M ⊢
  simp only [Option.getD_some] at M ⊢
  omega
/-- The model lays the same words. -/
theorem cfS_get {h : Hp} (k : okC h = true) {i : Nat} (e : i = (rcS h i).1.length) (hE : (outW h.words (plF h.words (rchL h) (rchL h).length) (rchL h)).length <= 3200) :
  ∀ n, n <= (obC h).length -> ∀ j, (cfS h.words (gtS h.words (rcS h i).2 (obC h) (obC h).length).1 (obC h) n).getD j 0 = (outW h.words (plF h.words (rchL h) (rchL h).length) (((obC h).take n).filter fun a => decide (a ∈ ordF h.words h.roots))).getD j 0
 | 0, _, j => by
  rw [cfS]
  simp only [outW, List.take_zero, List.filter_nil, List.flatMap_nil, List.getD_eq_getElem?_getD, List.getElem?_replicate, List.getElem?_nil]
  split <;> rfl
 | n + 1, hn, j => by
  have ih := cfS_get k e hE n (by omega)
  have R := c_right k
  have hlt : n < (obC h).length := hn
  have M := (gt_char R (rcS h i).2 (fun a => decide (a ∈ ordF h.words h.roots)) (fun a => by
   have := seen_iff R e a
   cases hs : (rcS h i).2.getD a false
   ·rw [hs] at this
    have nn : ¬ a ∈ ordF h.words h.roots := fun q => by have := this.2 q; cases this
    simp [nn]
   ·have y := this.1 hs
    simp [y]) (obC h).length (Nat.le_refl _)).2.2 n hlt
  have tk : (obC h).take (n + 1) = (obC h).take n ++ [(obC h).getD n 0] := ltake_snoc _ _ hlt
  have mem : (obC h).getD n 0 ∈ obC h := getD_mem hlt
  obtain ⟨o1, o2, o3⟩ := R.1.obj mem
  have sz := size_of o3
  have ff := right_fields R mem
  have oc : (obC h).getD n 0 ∈ ordF h.words h.roots -> ∀ x, x ∈ flds h.words ((obC h).getD n 0) -> isK 2 x = true -> (x / 2).toNat ∈ ordF h.words h.roots := fun q x hx kx => ord_fields R q hx kx
  rw [tk, List.filter_append]
  rw [cfS]
  by_cases hs : (obC h).getD n 0 ∈ ordF h.words h.roots
  ·rw [if_pos (decide_eq_true hs)] at M
   have nn : ∀ a, a ∈ ((obC h).take n).filter (fun a => decide (a ∈ ordF h.words h.roots)) -> 0 <= gw h.words a := fun a ha => (size_of (R.1.obj (List.mem_of_mem_take (List.mem_filter.1 ha).1)).2.2).1
   have os := outW_size (plF h.words (rchL h) (rchL h).length) nn
   have wz : ¬ (gtS h.words (rcS h i).2 (obC h) (obC h).length).1.getD ((obC h).getD n 0) 0 = 0 := by omega
   have fs : List.filter (fun a => decide (a ∈ ordF h.words h.roots)) [(obC h).getD n 0] = [(obC h).getD n 0] := by rw [List.filter_cons, if_pos (decide_eq_true hs)]; rfl
   rw [if_neg wz, fs, outW_snoc]
   have bound : (outW h.words (plF h.words (rchL h) (rchL h).length) (((obC h).take n).filter fun a => decide (a ∈ ordF h.words h.roots))).length + (4 + (gw h.words ((obC h).getD n 0)).toNat) <= 3200 := by
    have e1 : (obC h).take (n + 1) ++ (obC h).drop (n + 1) = obC h := List.take_append_drop _ _
    have e2 : rchL h = (((obC h).take n).filter (fun a => decide (a ∈ ordF h.words h.roots)) ++ [(obC h).getD n 0]) ++ ((obC h).drop (n + 1)).filter (fun a => decide (a ∈ ordF h.words h.roots)) := by
     unfold rchL
     conv => lhs; rw [<- e1]
     rw [List.filter_append, tk, List.filter_append, fs]
    have e3 := congrArg (fun z => (outW h.words (plF h.words (rchL h) (rchL h).length) z).length) e2
    simp only [outW_app, List.length_append] at e3
    have e4 : (outW h.words (plF h.words (rchL h) (rchL h).length) [(obC h).getD n 0]).length = 4 + (gw h.words ((obC h).getD n 0)).toNat := by
     rw [<- owd_len h.words (plF h.words (rchL h) (rchL h).length)]
     simp [outW]
    omega
   generalize (gtS h.words (rcS h i).2 (obC h) (obC h).length).1.getD ((obC h).getD n 0) 0 = tq at *
   have cwr : ∀ q, 4 <= q -> q < 4 + (gw h.words ((obC h).getD n 0)).toNat -> cw (gtS h.words (rcS h i).2 (obC h) (obC h).length).1 (gw h.words ((obC h).getD n 0 + q)) = rnM (plF h.words (rchL h) (rchL h).length) (gw h.words ((obC h).getD n 0 + q)) := fun q q1 q2 => by
    have mx : gw h.words ((obC h).getD n 0 + q) ∈ flds h.words ((obC h).getD n 0) := by
     unfold flds
     exact List.mem_map.2 ⟨q - 4, by rw [List.mem_range]; omega, by rw [show (obC h).getD n 0 + 4 + (q - 4) = (obC h).getD n 0 + q from by omega]⟩
    exact cw_rn k e (ff _ mx) (fun kx => oc hs _ mx kx)
   have ol := owd_len h.words (plF h.words (rchL h) (rchL h).length) ((obC h).getD n 0)
   have OH := owd_head h.words (plF h.words (rchL h) (rchL h).length) ((obC h).getD n 0)
   have OF := owd_fld h.words (plF h.words (rchL h) (rchL h).length) ((obC h).getD n 0)
   have ihj := ih j
   rw [cf_get _ _ _ _ _ _ (by rw [cfS_len]; omega), ihj]
   generalize outW h.words (plF h.words (rchL h) (rchL h).length) (((obC h).take n).filter fun a => decide (a ∈ ordF h.words h.roots)) = A at *
   generalize owd h.words (plF h.words (rchL h) (rchL h).length) ((obC h).getD n 0) = B at *
   by_cases hw : tq - 1 <= j /\ j < tq - 1 + (4 + (gw h.words ((obC h).getD n 0)).toNat)
   ·rw [if_pos hw, gd_right (by omega), show j - A.length = j - (tq - 1) from by omega]
    by_cases h4 : 4 <= j - (tq - 1)
    ·rw [if_pos h4, cwr _ h4 (by omega), OF _ h4 (by omega)]
    ·rw [if_neg h4, OH _ (by omega)]
   ·rw [if_neg hw]
    by_cases h1 : j < A.length
    ·rw [gd_left h1]
    ·rw [getD_past (by omega), getD_past (by rw [List.length_append]; omega)]
  ·have fs : List.filter (fun a => decide (a ∈ ordF h.words h.roots)) [(obC h).getD n 0] = [] := by rw [List.filter_cons, if_neg (by simpa using hs)]; rfl
   rw [if_neg (by simpa using hs)] at M
   rw [if_pos (by omega), fs, List.append_nil]
   exact ih j
/-- The compacted heap, as both make it. -/
theorem co_words {h : Hp} (k : okC h = true) {i : Nat} (e : i = (rcS h i).1.length) (hE : (outW h.words (plF h.words (rchL h) (rchL h).length) (rchL h)).length <= 3200) :
  cfS h.words (gtS h.words (rcS h i).2 (obC h) (obC h).length).1 (obC h) (obC h).length = outW h.words (plF h.words (rchL h) (rchL h).length) (rchL h) ++ List.replicate (3200 - (outW h.words (plF h.words (rchL h) (rchL h).length) (rchL h)).length) 0 := by
 refine list_ext (by rw [cfS_len, List.length_append, List.length_replicate]; omega) fun j => ?_
 rw [cfS_get k e hE _ (Nat.le_refl _), List.take_length]
 show (outW h.words _ (rchL h)).getD j 0 = _
 by_cases hj : j < (outW h.words (plF h.words (rchL h) (rchL h).length) (rchL h)).length
 ·rw [gd_left hj]
 ·rw [gd_right (by omega), getD_past (by omega)]
  simp only [List.getD_eq_getElem?_getD, List.getElem?_replicate]
  split <;> rfl
theorem co_roots {h : Hp} (k : okC h = true) {i : Nat} (e : i = (rcS h i).1.length) : h.roots.map (cw (gtS h.words (rcS h i).2 (obC h) (obC h).length).1) = h.roots.map (rnM (plF h.words (rchL h) (rchL h).length)) :=
 List.map_congr_left fun x hx => cw_rn k e (right_roots (c_right k) x hx) (fun kx => ord_roots hx kx)
end Go.Proofs.YthdffigckohpoaaGreat
/- Compact of the model, in one word. -/
namespace Go.Proofs.YthdffigckohpoaaGreat
open Go.RowKit
noncomputable def coB (h : Hp) : Bool := okC h && decide (szS h.words (rchL h) <= 2000)
/-- The compacted heap. -/
noncomputable def coP (h : Hp) : Hp := { words := outW h.words (plF h.words (rchL h) (rchL h).length) (rchL h) ++ List.replicate (3200 - (outW h.words (plF h.words (rchL h) (rchL h).length) (rchL h)).length) 0, roots := h.roots.map (rnM (plF h.words (rchL h) (rchL h).length)), old := szS h.words (rchL h), eden := 2000, surv := 2600, flip := false, hash := h.hash, kept := [] }
noncomputable def coC (h : Hp) : Hp := if coB h = true then coP h else zeroH
theorem co_same {h : Hp} (k : okC h = true) {i : Nat} (e : i = (rcS h i).1.length) (hf : szS h.words (rchL h) <= 2000) : coH h (obC h) (gtS h.words (rcS h i).2 (obC h) (obC h).length).1 (gtS h.words (rcS h i).2 (obC h) (obC h).length).2 = coP h := by
 have M := (mv_spec k e).1
 have sz := outW_size (plF h.words (rchL h) (rchL h).length) (l := rchL h) (fun a ha => ((rch_obs k).2 a ha).2.1)
 unfold coH coP
 rw [co_words k e (by omega), co_roots k e, M]
theorem co_short (h : Hp) : (coC h).words.length <= 1000000000 /\ (coC h).roots.length <= 1000000000 /\ (coC h).kept.length <= 1000000000 := by
 unfold coC
 split
 ·rename_i hb
  unfold coB at hb
  simp only [Bool.and_eq_true, decide_eq_true_eq] at hb
  have sz := outW_size (plF h.words (rchL h) (rchL h).length) (l := rchL h) (fun a ha => ((rch_obs hb.1).2 a ha).2.1)
  have r := (c_right hb.1).2.2.2.2.2.1
  refine ⟨?_, ?_, by simp [coP]⟩
  ·show (outW _ _ _ ++ List.replicate _ 0).length <= _
   rw [List.length_append, List.length_replicate]
   omega
  ·show (h.roots.map _).length <= _
   rw [List.length_map]
   omega
 ·simp [zeroH]
set_option maxRecDepth 100000 in
set_option maxHeartbeats 1600000 in
theorem specCompact_none (v : Value) (h : Hp) (w : World) (hv : HR w v h) (hro : h.roots.length <= 1000000000000) (hke : h.kept.length <= 1000000000000) (hk : okC h = false) :
  Calls Tryz.prog 9 #[v] w fun e w' => e = .returned (.tuple #[.agg #[.slice none 0 0, .slice none 0 0, .int .i64 0, .int .i64 0, .int .i64 0, .bool false, .int .i64 0, .slice none 0 0], .bool false]) /\ Below w.heap.size w w' := by
 obtain ⟨v1, v2, v3, rfl, i1, i2, i3⟩ := id hv
 obtain ⟨a1, c1, rfl, -⟩ := IRs i1
 obtain ⟨a2, c2, rfl, -⟩ := IRs i2
 obtain ⟨a3, c3, rfl, -⟩ := IRs i3
 have S0 := CS.new w (.slice a1 h.words.length c1) (.slice a2 h.roots.length c2) (.int .i64 h.old) (.int .i64 h.eden) (.int .i64 h.surv) (.bool h.flip) (.int .i64 h.hash) (.slice a3 h.kept.length c3)
 have C := specHeapOk_c _ h _ (hv.later S0.bel) hro hke
 rw [hk] at C
 clear i1 i2 i3
 go_enter Tryz.func9, Tryz.ntmps9
 go_wp2_with fail
 refine C.mono ?_
 rintro e w1 ⟨rfl, hb1⟩
 have S1 := S0.later hb1
 clear C S0 hb1
 obtain ⟨fk, K⟩ := S1.res
 have fR := fun i => K.frozen i
 obtain ⟨r0, r1, r2, r3, r4, r5, r6, r7⟩ := zrc8 K
 have ltR := K.lt
 have B9 := zbel8 (N := w.heap.size + 1) (S1.bel) (Nat.le_succ _)
 clear K S1
 go_wp2
 exact bodyPost_ret (v := .tuple #[.agg #[.slice none 0 0, .slice none 0 0, .int .i64 0, .int .i64 0, .int .i64 0, .bool false, .int .i64 0, .slice none 0 0], .bool false]) (by simp [results, Tryz.results9, go_sem, r0, r1, r2, r3, r4, r5, r6, r7]) rfl ⟨rfl, B9⟩
theorem specCompact_c (v : Value) (h : Hp) (w : World) (hv : HR w v h) (hro : h.roots.length <= 1000000000000) (hke : h.kept.length <= 1000000000000) :
  Calls Tryz.prog 9 #[v] w fun e w' => (∃ u, e = .returned (.tuple #[u, .bool (coB h)]) /\ HN w.heap.size w' u (coC h)) /\ Below w.heap.size w w' := by
 cases hk : okC h
 ·refine (specCompact_none v h w hv hro hke hk).mono fun e w' ⟨q, b⟩ => ⟨?_, b⟩
  have e0 : coB h = false := by unfold coB; rw [hk]; rfl
  have e1 : coC h = zeroH := by unfold coC; rw [e0]; rfl
  rw [e0, e1]
  exact ⟨_, q, zero_hn _ _⟩
 ·refine (specCompact_any v h (obC h) (c_right hk) w hv).mono fun e w' ⟨⟨i, ei, q⟩, b⟩ => ⟨?_, b⟩
  have M := (mv_spec hk ei).1
  rcases q with ⟨u, e1, hm, hb⟩ | ⟨u, e1, hm, hb⟩
  ·have e0 : coB h = false := by unfold coB; rw [hk]; simp; omega
   have e2 : coC h = zeroH := by unfold coC; rw [e0]; rfl
   rw [e0, e2]
   exact ⟨u, e1, hm.hn⟩
  ·have hf : szS h.words (rchL h) <= 2000 := by omega
   have e0 : coB h = true := by unfold coB; rw [hk]; simp; omega
   have e2 : coC h = coP h := by unfold coC; rw [e0]; rfl
   rw [e0, e2, ← co_same hk ei hf]
   exact ⟨u, e1, hm.hn⟩
end Go.Proofs.YthdffigckohpoaaGreat
/- A compacted heap is right. -/
namespace Go.Proofs.YthdffigckohpoaaGreat
open Go.RowKit
/-- Where the i-th of the reached lies. -/
noncomputable def plN (h : Hp) (i : Nat) : Nat := (outW h.words (plF h.words (rchL h) (rchL h).length) ((rchL h).take i)).length
noncomputable def plL (h : Hp) : List Nat := (List.range (rchL h).length).map (plN h)
theorem plN_succ {h : Hp} {i : Nat} (hi : i < (rchL h).length) : plN h (i + 1) = plN h i + 4 + (gw h.words ((rchL h).getD i 0)).toNat := by
 unfold plN
 rw [ltake_snoc _ _ hi, outW_snoc, List.length_append, owd_len]
 omega
theorem plN_end {h : Hp} (k : okC h = true) : (plN h (rchL h).length : Int) = szS h.words (rchL h) := by
 unfold plN
 rw [List.take_length]
 exact outW_size _ (fun a ha => ((rch_obs k).2 a ha).2.1)
theorem plN_mono {h : Hp} {i j : Nat} (hij : i < j) (hj : j <= (rchL h).length) : plN h i + 4 <= plN h j := by
 induction j with
 | zero => omega
 | succ j ih =>
  have s := plN_succ (h := h) (i := j) (by omega)
  by_cases e : i = j
  ·subst e; omega
  ·have := ih (by omega) (by omega)
   omega
theorem co_get {h : Hp} {i q : Nat} (hi : i < (rchL h).length) (hq : q < 4 + (gw h.words ((rchL h).getD i 0)).toNat) : gw (coP h).words (plN h i + q) = (owd h.words (plF h.words (rchL h) (rchL h).length) ((rchL h).getD i 0)).getD q 0 := by
 have e1 : rchL h = (rchL h).take i ++ ([(rchL h).getD i 0] ++ (rchL h).drop (i + 1)) := by
  have e1 := List.take_append_drop (i + 1) (rchL h)
  rw [ltake_snoc _ _ hi, List.append_assoc] at e1
  exact e1.symm
 have e2 := congrArg (outW h.words (plF h.words (rchL h) (rchL h).length)) e1
 rw [outW_app, outW_app] at e2
 have ol := owd_len h.words (plF h.words (rchL h) (rchL h).length) ((rchL h).getD i 0)
 have e3 : outW h.words (plF h.words (rchL h) (rchL h).length) [(rchL h).getD i 0] = owd h.words (plF h.words (rchL h) (rchL h).length) ((rchL h).getD i 0) := by simp [outW]
 rw [e3] at e2
 show (outW h.words _ (rchL h) ++ List.replicate _ 0).getD _ 0 = _
 rw [gd_left (by
  rw [e2, List.length_append, List.length_append, ol]
  unfold plN
  omega), e2]
 unfold plN
 rw [gd_right (by omega), show (outW h.words (plF h.words (rchL h) (rchL h).length) ((rchL h).take i)).length + q - (outW h.words (plF h.words (rchL h) (rchL h).length) ((rchL h).take i)).length = q from by omega, gd_left (by omega)]
theorem co_head {h : Hp} {i q : Nat} (hi : i < (rchL h).length) (hq : q < 4) : gw (coP h).words (plN h i + q) = gw h.words ((rchL h).getD i 0 + q) := by
 rw [co_get hi (by omega), owd_head _ _ _ _ hq]
theorem co_past {h : Hp} {j : Nat} (hj : plN h (rchL h).length <= j) : gw (coP h).words j = 0 := by
 show (outW h.words _ (rchL h) ++ List.replicate _ 0).getD _ 0 = _
 unfold plN at hj
 rw [List.take_length] at hj
 rw [gd_right hj]
 simp only [List.getD_eq_getElem?_getD, List.getElem?_replicate]
 split <;> rfl
theorem co_it {h : Hp} : ∀ i, i <= (rchL h).length -> it (coP h).words 0 i = plN h i
 | 0, _ => by simp [it, plN, outW]
 | i + 1, hi => by
  have ih := co_it (h := h) i (by omega)
  have s := plN_succ (h := h) (i := i) (by omega)
  have g := co_head (h := h) (i := i) (q := 0) (by omega) (by omega)
  rw [Nat.add_zero, Nat.add_zero] at g
  show nx (coP h).words (it (coP h).words 0 i) = _
  rw [ih, s]
  unfold nx
  rw [g]
theorem mem_plL {h : Hp} {a : Nat} : a ∈ plL h ↔ ∃ i, i < (rchL h).length /\ plN h i = a := by simp [plL]
/-- A word of a reached object or of the roots fits the compacted heap, and is no young one. -/
theorem co_fit {h : Hp} (k : okC h = true) (hf : szS h.words (rchL h) <= 2000) {x : Int} (fx : fitB (obC h) x = true) (hr : isK 2 x = true -> (x / 2).toNat ∈ ordF h.words h.roots) : fitB (plL h) (rnM (plF h.words (rchL h) (rchL h).length) x) = true /\ youngB (rnM (plF h.words (rchL h) (rchL h).length) x) = false := by
 by_cases kx : isK 2 x = true
 ·have hm := hr kx
  have ho := isK_odd kx
  obtain ⟨a, ha, e2, -, -⟩ := odd_obj fx ho
  rw [e2, Int.toNat_natCast] at hm
  have mr : a ∈ rchL h := List.mem_filter.2 ⟨ha, decide_eq_true hm⟩
  obtain ⟨i, hi, ei⟩ := List.mem_iff_getElem.1 mr
  have ei' : (rchL h).getD i 0 = a := by rw [<- ei]; simp [List.getD_eq_getElem?_getD, hi]
  have nd : (rchL h).Nodup := (rch_sorted k).imp (fun q => by omega)
  have pv : plF h.words (rchL h) (rchL h).length (a : Int) = some (plN h i : Int) := by
   unfold plF
   have mm : ((a : Nat) : Int) ∈ ints (rchL h) := List.mem_map.2 ⟨a, mr, rfl⟩
   have ix := idx_at nd hi
   rw [ei'] at ix
   rw [List.take_length, if_pos mm, Int.toNat_natCast, ix]
   congr 1
   unfold plN
   exact (outW_size _ (fun b hb => ((rch_obs k).2 b (List.mem_of_mem_take hb)).2.1)).symm
  have lt : plN h i + 4 <= plN h (rchL h).length := plN_mono hi (Nat.le_refl _)
  have en := plN_end k
  have er : rnM (plF h.words (rchL h) (rchL h).length) x = 2 * (plN h i : Int) + 1 := by
   unfold rnM
   rw [if_pos kx, e2, pv]
   rfl
  rw [er]
  have kw : kindW (2 * (plN h i : Int) + 1) = 2 := by
   unfold kindW
   rw [if_pos (by omega), show (2 * (plN h i : Int) + 1) / 2 = (plN h i : Int) from by omega, if_pos]
   unfold adrB
   rw [decide_eq_true_eq]
   omega
  refine ⟨?_, ?_⟩
  ·unfold fitB
   rw [kw, show (2 * (plN h i : Int) + 1) / 2 = (plN h i : Int) from by omega]
   have mm : (plN h i : Int) ∈ ints (plL h) := List.mem_map.2 ⟨_, mem_plL.2 ⟨i, hi, rfl⟩, rfl⟩
   simp [mm]
  ·unfold youngB
   rw [kw, show (2 * (plN h i : Int) + 1) / 2 = (plN h i : Int) from by omega]
   simp
   omega
 ·have er : rnM (plF h.words (rchL h) (rchL h).length) x = x := by unfold rnM; rw [if_neg kx]
  have k1 : kindW x ≠ 2 := fun q => kx (by unfold isK; rw [q]; rfl)
  rw [er]
  unfold fitB at fx ⊢
  unfold youngB
  simp only [Bool.or_eq_true, Bool.and_eq_true, decide_eq_true_eq] at fx
  rcases fx with q | q
  ·simp [q]
  ·exact absurd q.1 k1
/-- A compacted heap is right. -/
theorem co_right {h : Hp} (k : okC h = true) (hf : szS h.words (rchL h) <= 2000) : RightAt (coP h) (plL h) := by
 have R := c_right k
 have en := plN_end k
 have hl : (coP h).words.length = 3200 := by
  have sz := outW_size (plF h.words (rchL h) (rchL h).length) (l := rchL h) (fun a ha => ((rch_obs k).2 a ha).2.1)
  show (outW _ _ _ ++ List.replicate _ 0).length = 3200
  rw [List.length_append, List.length_replicate]
  omega
 have mo : ∀ i, i < (rchL h).length -> (rchL h).getD i 0 ∈ obC h := fun i hi => (List.mem_filter.1 (lget_mem _ _ hi)).1
 have mt : ∀ i, i < (rchL h).length -> (rchL h).getD i 0 ∈ ordF h.words h.roots := fun i hi => by
  have := (List.mem_filter.1 (lget_mem (rchL h) i hi)).2
  simpa using this
 have ff : ∀ i, i < (rchL h).length -> ∀ q, 4 <= q -> q < 4 + (gw h.words ((rchL h).getD i 0)).toNat -> fitB (plL h) (gw (coP h).words (plN h i + q)) = true /\ youngB (gw (coP h).words (plN h i + q)) = false := fun i hi q q1 q2 => by
  rw [co_get hi q2, owd_fld _ _ _ _ q1 q2]
  have mx : gw h.words ((rchL h).getD i 0 + q) ∈ flds h.words ((rchL h).getD i 0) := by
   unfold flds
   exact List.mem_map.2 ⟨q - 4, by rw [List.mem_range]; omega, by rw [show (rchL h).getD i 0 + 4 + (q - 4) = (rchL h).getD i 0 + q from by omega]⟩
  exact co_fit k hf (right_fields R (mo i hi) _ mx) (fun kx => ord_fields R (mt i hi) mx kx)
 have sz : ∀ i, i < (rchL h).length -> gw (coP h).words (plN h i) = gw h.words ((rchL h).getD i 0) := fun i hi => by
  have := co_head (h := h) (i := i) (q := 0) hi (by omega)
  rwa [Nat.add_zero, Nat.add_zero] at this
 have G0 : Goes (coP h).words 0 (coP h).old.toNat (rchL h).length := by
  refine ⟨?_, fun i hi => ?_⟩
  ·rw [co_it _ (Nat.le_refl _)]
   show _ = (szS h.words (rchL h)).toNat
   omega
  ·rw [co_it i (by omega)]
   have o3 := (R.1.obj (mo i hi)).2.2
   have h0 := sz i hi
   have h1 := co_head (h := h) (i := i) (q := 1) hi (by omega)
   have h3 := co_head (h := h) (i := i) (q := 3) hi (by omega)
   unfold headB at o3 ⊢
   rw [h0, h1, h3]
   exact o3
 have e0 : its (coP h).words 0 (rchL h).length = plL h := by
  unfold its plL
  exact List.map_congr_left fun i hi => co_it i (by rw [List.mem_range] at hi; omega)
 have nn : 0 <= szS h.words (rchL h) := by omega
 refine ⟨⟨hl, ⟨nn, hf⟩, ⟨Int.le_refl _, by show (2000 : Int) <= 2600; decide⟩, ⟨by show ((2600 : Nat) : Int) <= 2600; decide, by show (2600 : Int) <= ((2600 : Nat) : Int) + 300; decide⟩, (rchL h).length, 0, 0, G0, ⟨rfl, fun i hi => absurd hi (Nat.not_lt_zero i)⟩, ⟨rfl, fun i hi => absurd hi (Nat.not_lt_zero i)⟩, ?_⟩, fun j _ hn => ?_, R.2.2.1, fun a ha => ?_, ⟨fun a ha => ?_, ?_⟩, ?_, fun x hx => ?_, fun a ha => ?_, ?_⟩
 ·rw [e0]
  simp [its]
 ·refine co_past (h := h) ?_
  unfold inUse at hn
  have : ¬ (j : Int) < szS h.words (rchL h) := fun q => hn (.inl q)
  omega
 ·obtain ⟨i, hi, rfl⟩ := mem_plL.1 ha
  rw [co_head hi (by omega)]
  exact R.2.2.2.1 _ (mo i hi)
 ·obtain ⟨i, hi, rfl⟩ := mem_plL.1 ha
  rw [co_head hi (by omega)]
  exact R.2.2.2.2.1.1 _ (mo i hi)
 ·have e : hashesOf (coP h).words (plL h) = hashesOf h.words (rchL h) := by
   refine list_ext (by simp [hashesOf, plL]) fun j => ?_
   by_cases hj : j < (rchL h).length
   ·simp only [hashesOf, plL, List.getD_eq_getElem?_getD, List.getElem?_map, List.getElem?_range hj, Option.map_some, Option.getD_some]
    rw [co_head hj (by omega)]
    simp [List.getD_eq_getElem?_getD, hj]
   ·rw [getD_past (by simp [hashesOf, plL]; omega), getD_past (by simp [hashesOf]; omega)]
  rw [e]
  have sub : (hashesOf h.words (rchL h)).Sublist (hashesOf h.words (obC h)) := List.Sublist.map _ (List.filter_sublist)
  exact List.Nodup.sublist sub R.2.2.2.2.1.2
 ·show (h.roots.map _).length <= 20
  rw [List.length_map]
  exact R.2.2.2.2.2.1
 ·obtain ⟨y, hy, rfl⟩ := List.mem_map.1 (show x ∈ h.roots.map _ from hx)
  exact (co_fit k hf (right_roots R y hy) (fun kx => ord_roots hy kx)).1
 ·obtain ⟨i, hi, rfl⟩ := mem_plL.1 ha
  intro j j1 j2
  unfold nx at j2
  rw [sz i hi] at j2
  obtain ⟨q, rfl⟩ : ∃ q, j = plN h i + q := ⟨j - plN h i, by omega⟩
  exact (ff i hi q (by omega) (by omega)).1
 ·show keptOf (coP h).words (plL h) = []
  unfold keptOf
  have : ((plL h).filter fun a => decide (a < 2000) && hasY (coP h).words a) = [] := by
   rw [List.filter_eq_nil_iff]
   intro a ha
   obtain ⟨i, hi, rfl⟩ := mem_plL.1 ha
   have hy : hasY (coP h).words (plN h i) = false := by
    unfold hasY
    rw [List.any_eq_false]
    intro x hx
    unfold flds at hx
    obtain ⟨j, hj, rfl⟩ := List.mem_map.1 hx
    rw [List.mem_range, sz i hi] at hj
    have := (ff i hi (4 + j) (by omega) (by omega)).2
    rw [show plN h i + (4 + j) = plN h i + 4 + j from by omega] at this
    rw [this]
    simp
   rw [hy]
   simp
  rw [this]
  rfl
end Go.Proofs.YthdffigckohpoaaGreat
/- A compacted heap has the same graph. -/
namespace Go.Proofs.YthdffigckohpoaaGreat
open Go.RowKit
/-- Where an object goes. -/
noncomputable def pf (h : Hp) (a : Nat) : Nat := plN h ((rchL h).idxOf a)
theorem pf_at {h : Hp} (k : okC h = true) {i : Nat} (hi : i < (rchL h).length) : pf h ((rchL h).getD i 0) = plN h i := by
 have nd : (rchL h).Nodup := (rch_sorted k).imp (fun q => by omega)
 unfold pf
 rw [idx_at nd hi]
theorem pf_inj {h : Hp} {a b : Nat} (ha : a ∈ rchL h) (hb : b ∈ rchL h) (e : pf h a = pf h b) : a = b := by
 have ia := List.idxOf_lt_length_of_mem ha
 have ib := List.idxOf_lt_length_of_mem hb
 unfold pf at e
 rcases Nat.lt_trichotomy ((rchL h).idxOf a) ((rchL h).idxOf b) with q | q | q
 ·have := plN_mono (h := h) q (by omega); omega
 ·have e1 := List.getElem_idxOf ia
  have e2 := List.getElem_idxOf ib
  rw [<- e1, ← e2]
  congr 1
 ·have := plN_mono (h := h) q (by omega); omega
theorem mem_rch {h : Hp} (k : okC h = true) {a : Nat} (ha : a ∈ ordF h.words h.roots) : a ∈ rchL h := List.mem_filter.2 ⟨ord_sub (c_right k) ha, decide_eq_true ha⟩
/-- The word of a reached object, renamed. -/
theorem rn_word {h : Hp} (k : okC h = true) (hf : szS h.words (rchL h) <= 2000) {x : Int} (fx : fitB (obC h) x = true) (hr : isK 2 x = true -> (x / 2).toNat ∈ ordF h.words h.roots) :
  (isK 2 (rnM (plF h.words (rchL h) (rchL h).length) x) = isK 2 x) /\ (isK 2 x = true -> (rnM (plF h.words (rchL h) (rchL h).length) x / 2).toNat = pf h (x / 2).toNat) /\ (¬ isK 2 x = true -> rnM (plF h.words (rchL h) (rchL h).length) x = x) := by
 by_cases kx : isK 2 x = true
 ·have hm := hr kx
  obtain ⟨a, ha, e2, -, -⟩ := odd_obj fx (isK_odd kx)
  rw [e2, Int.toNat_natCast] at hm ⊢
  have mr := mem_rch k hm
  have ix := List.idxOf_lt_length_of_mem mr
  have pv : plF h.words (rchL h) (rchL h).length (a : Int) = some (pf h a : Int) := by
   unfold plF
   have mm : ((a : Nat) : Int) ∈ ints (rchL h) := List.mem_map.2 ⟨a, mr, rfl⟩
   rw [List.take_length, if_pos mm, Int.toNat_natCast]
   congr 1
   unfold pf plN
   exact (outW_size _ (fun b hb => ((rch_obs k).2 b (List.mem_of_mem_take hb)).2.1)).symm
  have lt : pf h a + 4 <= plN h (rchL h).length := plN_mono ix (Nat.le_refl _)
  have en := plN_end k
  have er : rnM (plF h.words (rchL h) (rchL h).length) x = 2 * (pf h a : Int) + 1 := by
   unfold rnM
   rw [if_pos kx, e2, pv]
   rfl
  have kw : kindW (2 * (pf h a : Int) + 1) = 2 := by
   unfold kindW
   rw [if_pos (by omega), show (2 * (pf h a : Int) + 1) / 2 = (pf h a : Int) from by omega, if_pos]
   unfold adrB
   rw [decide_eq_true_eq]
   omega
  refine ⟨?_, fun _ => ?_, fun q => absurd kx q⟩
  ·rw [er, kx]
   unfold isK
   rw [kw]
   rfl
  ·rw [er]
   omega
 ·have er : rnM (plF h.words (rchL h) (rchL h).length) x = x := by unfold rnM; rw [if_neg kx]
  exact ⟨by rw [er], fun q => absurd q kx, fun _ => er⟩
theorem co_flds {h : Hp} {i : Nat} (hi : i < (rchL h).length) : flds (coP h).words (plN h i) = (flds h.words ((rchL h).getD i 0)).map (rnM (plF h.words (rchL h) (rchL h).length)) := by
 have s := co_head (h := h) (i := i) (q := 0) hi (by omega)
 rw [Nat.add_zero, Nat.add_zero] at s
 unfold flds
 rw [s, List.map_map]
 refine List.map_congr_left fun j hj => ?_
 rw [List.mem_range] at hj
 rw [show plN h i + 4 + j = plN h i + (4 + j) from by omega, co_get hi (by omega), owd_fld _ _ _ _ (by omega) (by omega), show (rchL h).getD i 0 + (4 + j) = (rchL h).getD i 0 + 4 + j from by omega]
 rfl
theorem co_fol1 {h : Hp} (k : okC h = true) (hf : szS h.words (rchL h) <= 2000) {o : List Nat} (ho : ∀ a, a ∈ o -> a ∈ rchL h) {x : Int} (fx : fitB (obC h) x = true) (hr : isK 2 x = true -> (x / 2).toNat ∈ ordF h.words h.roots) :
  fol1 (o.map (pf h)) (rnM (plF h.words (rchL h) (rchL h).length) x) = (fol1 o x).map (pf h) /\ ∀ a, a ∈ fol1 o x -> a ∈ rchL h := by
 obtain ⟨q1, q2, -⟩ := rn_word k hf fx hr
 unfold fol1
 rw [q1]
 by_cases kx : isK 2 x = true
 ·have mr := mem_rch k (hr kx)
  rw [if_pos kx, if_pos kx, q2 kx]
  by_cases hm : (x / 2).toNat ∈ o
  ·rw [if_pos hm, if_pos (List.mem_map.2 ⟨_, hm, rfl⟩)]
   exact ⟨rfl, ho⟩
  ·rw [if_neg hm, if_neg (fun z => by
    obtain ⟨b, hb, eb⟩ := List.mem_map.1 z
    exact hm (pf_inj (ho b hb) mr eb ▸ hb))]
   refine ⟨by simp, fun a ha => ?_⟩
   rw [List.mem_append, List.mem_singleton] at ha
   rcases ha with ha | rfl
   ·exact ho a ha
   ·exact mr
 ·rw [if_neg kx, if_neg kx]
  exact ⟨rfl, ho⟩
theorem co_fol {h : Hp} (k : okC h = true) (hf : szS h.words (rchL h) <= 2000) : ∀ (ws : List Int) {o : List Nat}, (∀ a, a ∈ o -> a ∈ rchL h) -> (∀ x, x ∈ ws -> fitB (obC h) x = true /\ (isK 2 x = true -> (x / 2).toNat ∈ ordF h.words h.roots)) →
  fol (o.map (pf h)) (ws.map (rnM (plF h.words (rchL h) (rchL h).length))) = (fol o ws).map (pf h) /\ ∀ a, a ∈ fol o ws -> a ∈ rchL h
 | [], o, ho, _ => ⟨rfl, ho⟩
 | x :: ws, o, ho, hw => by
  obtain ⟨e1, m1⟩ := co_fol1 k hf ho (hw x (by simp)).1 (hw x (by simp)).2
  have ih := co_fol k hf ws m1 (fun y hy => hw y (by simp [hy]))
  have e : fol (o.map (pf h)) ((x :: ws).map (rnM (plF h.words (rchL h) (rchL h).length))) = fol (fol1 (o.map (pf h)) (rnM (plF h.words (rchL h) (rchL h).length) x)) (ws.map (rnM (plF h.words (rchL h) (rchL h).length))) := rfl
  rw [e, e1]
  exact ih
theorem co_tr {h : Hp} (k : okC h = true) (hf : szS h.words (rchL h) <= 2000) : ∀ n, tr (coP h).words (coP h).roots n = (tr h.words h.roots n).map (pf h) /\ ∀ a, a ∈ tr h.words h.roots n -> a ∈ rchL h
 | 0 => co_fol k hf h.roots (o := []) (fun a ha => absurd ha (by simp)) (fun x hx => ⟨right_roots (c_right k) x hx, fun kx => ord_roots hx kx⟩)
 | n + 1 => by
  obtain ⟨e, m⟩ := co_tr k hf n
  have R := c_right k
  rw [tr, tr, e, List.length_map]
  by_cases hn : n < (tr h.words h.roots n).length
  ·rw [if_pos hn, if_pos hn]
   have mem : (tr h.words h.roots n).getD n 0 ∈ tr h.words h.roots n := by simp [hn]
   have mr := m _ mem
   have mo : (tr h.words h.roots n).getD n 0 ∈ ordF h.words h.roots := by
    have := (List.mem_filter.1 mr).2
    simpa using this
   have eg : ((tr h.words h.roots n).map (pf h)).getD n 0 = pf h ((tr h.words h.roots n).getD n 0) := by simp [List.getD_eq_getElem?_getD, hn]
   have ix := List.idxOf_lt_length_of_mem mr
   have eb : (rchL h).getD ((rchL h).idxOf ((tr h.words h.roots n).getD n 0)) 0 = (tr h.words h.roots n).getD n 0 := by
    rw [List.getD_eq_getElem?_getD, List.getElem?_eq_getElem ix, Option.getD_some]
    exact List.getElem_idxOf ix
   have fl := co_flds (h := h) ix
   rw [eb] at fl
   rw [eg]
   show fol _ (flds (coP h).words (plN h ((rchL h).idxOf ((tr h.words h.roots n).getD n 0)))) = _ /\ _
   rw [fl]
   exact co_fol k hf _ m (fun x hx => ⟨right_fields R (List.mem_filter.1 mr).1 x hx, fun kx => ord_fields R mo hx kx⟩)
  ·rw [if_neg hn, if_neg hn]
   exact ⟨rfl, m⟩
/-- The tour of the compacted heap. -/
theorem co_ord {h : Hp} (k : okC h = true) (hf : szS h.words (rchL h) <= 2000) : ordF (coP h).words (coP h).roots = (ordF h.words h.roots).map (pf h) := by
 rw [ord_tr, ord_tr]
 exact (co_tr k hf 3200).1
theorem idx_map {h : Hp} : ∀ {F : List Nat}, (∀ a, a ∈ F -> a ∈ rchL h) -> ∀ {a : Nat}, a ∈ rchL h -> (F.map (pf h)).idxOf (pf h a) = F.idxOf a
 | [], _, a, _ => by simp
 | b :: F, hF, a, ha => by
  rw [List.map_cons, List.idxOf_cons, List.idxOf_cons]
  by_cases e : b = a
  ·subst e
   simp
  ·have ne : ¬ pf h b = pf h a := fun q => e (pf_inj (hF b (by simp)) ha q)
   have ih := idx_map (F := F) (fun c hc => hF c (by simp [hc])) ha
   rw [ih, show (pf h b == pf h a) = false from by simpa using ne, show (b == a) = false from by simpa using e]
/-- The same graph. -/
theorem co_shape {h : Hp} (k : okC h = true) (hf : szS h.words (rchL h) <= 2000) : shC (coP h) = shC h := by
 have R := c_right k
 have k' := (c_yes (co_right k hf)).1
 have mO : ∀ a, a ∈ ordF h.words h.roots -> a ∈ rchL h := fun a ha => mem_rch k ha
 have rnE : ∀ x, fitB (obC h) x = true -> (isK 2 x = true -> (x / 2).toNat ∈ ordF h.words h.roots) -> ren ((ordF h.words h.roots).map (pf h)) (rnM (plF h.words (rchL h) (rchL h).length) x) = ren (ordF h.words h.roots) x := fun x fx hr => by
  obtain ⟨q1, q2, q3⟩ := rn_word k hf fx hr
  unfold ren
  rw [q1]
  by_cases kx : isK 2 x = true
  ·rw [if_pos kx, if_pos kx, q2 kx, idx_map mO (mO _ (hr kx))]
  ·rw [if_neg kx, if_neg kx, q3 kx]
 unfold shC
 rw [if_pos k, if_pos k']
 unfold shP
 rw [co_ord k hf]
 unfold shG
 have e1 : (coP h).roots.map (ren ((ordF h.words h.roots).map (pf h))) = h.roots.map (ren (ordF h.words h.roots)) := by
  show (h.roots.map _).map _ = _
  rw [List.map_map]
  exact List.map_congr_left fun x hx => rnE x (right_roots R x hx) (fun kx => ord_roots hx kx)
 have e2 : ((ordF h.words h.roots).map (pf h)).map (ndOf (coP h).words ((ordF h.words h.roots).map (pf h))) = (ordF h.words h.roots).map (ndOf h.words (ordF h.words h.roots)) := by
  rw [List.map_map]
  refine List.map_congr_left fun a ha => ?_
  have mr := mO a ha
  have ix := List.idxOf_lt_length_of_mem mr
  have eb : (rchL h).getD ((rchL h).idxOf a) 0 = a := by
   rw [List.getD_eq_getElem?_getD, List.getElem?_eq_getElem ix, Option.getD_some]
   exact List.getElem_idxOf ix
  have h1 := co_head (h := h) (i := (rchL h).idxOf a) (q := 1) ix (by omega)
  have h2 := co_head (h := h) (i := (rchL h).idxOf a) (q := 2) ix (by omega)
  have fl := co_flds (h := h) ix
  rw [eb] at h1 h2 fl
  show ndOf (coP h).words _ (plN h ((rchL h).idxOf a)) = _
  unfold ndOf
  rw [h1, h2, fl, List.map_map]
  congr 1
  exact List.map_congr_left fun x hx => rnE x (right_fields R (List.mem_filter.1 mr).1 x hx) (fun kx => ord_fields R ha hx kx)
 rw [e1, e2]
 rfl
end Go.Proofs.YthdffigckohpoaaGreat
/- A compacted heap, compacted again, is itself; it has no garbage and no young ones; headers stay. -/
namespace Go.Proofs.YthdffigckohpoaaGreat
open Go.RowKit
theorem co_ok {h : Hp} (k : okC h = true) (hf : szS h.words (rchL h) <= 2000) : okC (coP h) = true /\ obC (coP h) = plL h := c_yes (co_right k hf)
theorem plL_len (h : Hp) : (plL h).length = (rchL h).length := by simp [plL]
theorem plL_at {h : Hp} {i : Nat} (hi : i < (rchL h).length) : (plL h).getD i 0 = plN h i := by simp [plL, List.getD_eq_getElem?_getD, hi]
theorem co_rch {h : Hp} (k : okC h = true) (hf : szS h.words (rchL h) <= 2000) : rchL (coP h) = plL h := by
 obtain ⟨-, e⟩ := co_ok k hf
 have e1 : rchL (coP h) = (obC (coP h)).filter fun a => decide (a ∈ ordF (coP h).words (coP h).roots) := rfl
 rw [e1, e, co_ord k hf]
 refine List.filter_eq_self.2 fun a ha => decide_eq_true ?_
 obtain ⟨i, hi, rfl⟩ := mem_plL.1 ha
 have mr := lget_mem (rchL h) i hi
 have mo : (rchL h).getD i 0 ∈ ordF h.words h.roots := by
  have := (List.mem_filter.1 mr).2
  simpa using this
 exact List.mem_map.2 ⟨_, mo, pf_at k hi⟩
theorem co_size {h : Hp} {i : Nat} (hi : i < (rchL h).length) : gw (coP h).words (plN h i) = gw h.words ((rchL h).getD i 0) := by
 have := co_head (h := h) (i := i) (q := 0) hi (by omega)
 rwa [Nat.add_zero, Nat.add_zero] at this
theorem co_szT {h : Hp} (k : okC h = true) : ∀ i, i <= (rchL h).length -> szS (coP h).words ((plL h).take i) = (plN h i : Int)
 | 0, _ => by simp [szS, plN, outW]
 | i + 1, hi => by
  have nn := ((rch_obs k).2 _ (lget_mem (rchL h) i hi)).2.1
  rw [szS_snoc _ _ i (by rw [plL_len]; omega), co_szT k i (by omega), plL_at (by omega), co_size (by omega), plN_succ (by omega)]
  omega
theorem co_plF {h : Hp} (k : okC h = true) (hf : szS h.words (rchL h) <= 2000) {a : Nat} (ha : a ∈ plL h) : plF (coP h).words (plL h) (plL h).length (a : Int) = some (a : Int) := by
 obtain ⟨i, hi, rfl⟩ := mem_plL.1 ha
 have nd : (plL h).Nodup := by
  rw [<- co_rch k hf]
  exact (rch_sorted (co_ok k hf).1).imp (fun q => by omega)
 have ix := idx_at nd (i := i) (by rw [plL_len]; exact hi)
 rw [plL_at hi] at ix
 unfold plF
 have mm : ((plN h i : Nat) : Int) ∈ ints (plL h) := List.mem_map.2 ⟨_, ha, rfl⟩
 rw [List.take_length, if_pos mm, Int.toNat_natCast, ix, co_szT k i (by omega)]
theorem co_rn {h : Hp} (k : okC h = true) (hf : szS h.words (rchL h) <= 2000) {x : Int} (fx : fitB (plL h) x = true) : rnM (plF (coP h).words (plL h) (plL h).length) x = x := by
 unfold rnM
 by_cases kx : isK 2 x = true
 ·obtain ⟨a, ha, e2, -, e3⟩ := odd_obj fx (isK_odd kx)
  rw [if_pos kx, e2, co_plF k hf ha]
  exact e3.symm
 ·rw [if_neg kx]
theorem co_owd {h : Hp} (k : okC h = true) (hf : szS h.words (rchL h) <= 2000) {i : Nat} (hi : i < (rchL h).length) : owd (coP h).words (plF (coP h).words (plL h) (plL h).length) (plN h i) = owd h.words (plF h.words (rchL h) (rchL h).length) ((rchL h).getD i 0) := by
 have s := co_size hi
 have R := co_right k hf
 have l1 := owd_len (coP h).words (plF (coP h).words (plL h) (plL h).length) (plN h i)
 have l2 := owd_len h.words (plF h.words (rchL h) (rchL h).length) ((rchL h).getD i 0)
 refine List.ext_getElem (by rw [l1, l2, s]) fun q q1 q2 => ?_
 rw [<- gd_in, ← gd_in]
 rw [l2] at q2
 rw [<- co_get hi q2]
 by_cases c : q < 4
 ·rw [owd_head _ _ _ _ c]
 ·rw [owd_fld _ _ _ _ (by omega) (by rw [s]; exact q2)]
  refine co_rn k hf (right_fields R (mem_plL.2 ⟨i, hi, rfl⟩) _ ?_)
  unfold flds
  exact List.mem_map.2 ⟨q - 4, by rw [List.mem_range, s]; omega, by rw [show plN h i + 4 + (q - 4) = plN h i + q from by omega]⟩
theorem co_out {h : Hp} (k : okC h = true) (hf : szS h.words (rchL h) <= 2000) : ∀ i, i <= (rchL h).length -> outW (coP h).words (plF (coP h).words (plL h) (plL h).length) ((plL h).take i) = outW h.words (plF h.words (rchL h) (rchL h).length) ((rchL h).take i)
 | 0, _ => by simp [outW]
 | i + 1, hi => by
  rw [ltake_snoc (plL h) i (by rw [plL_len]; omega), ltake_snoc (rchL h) i (by omega), outW_snoc, outW_snoc, co_out k hf i (by omega), plL_at (by omega), co_owd k hf (by omega)]
theorem co_outA {h : Hp} (k : okC h = true) (hf : szS h.words (rchL h) <= 2000) : outW (coP h).words (plF (coP h).words (plL h) (plL h).length) (plL h) = outW h.words (plF h.words (rchL h) (rchL h).length) (rchL h) := by
 have o := co_out k hf _ (Nat.le_refl _)
 rw [List.take_length] at o
 rw [<- o, ← plL_len, List.take_length]
theorem co_szA {h : Hp} (k : okC h = true) : szS (coP h).words (plL h) = szS h.words (rchL h) := by
 have o := co_szT k _ (Nat.le_refl _)
 rw [<- plL_len, List.take_length] at o
 rw [o, plL_len]
 exact plN_end k
/-- Compacted again it is itself. -/
theorem co_again {h : Hp} (k : okC h = true) (hf : szS h.words (rchL h) <= 2000) : szS (coP h).words (rchL (coP h)) <= 2000 /\ coP (coP h) = coP h := by
 have e := co_rch k hf
 have R := co_right k hf
 have ew : (coP (coP h)).words = (coP h).words := by
  show outW (coP h).words (plF (coP h).words (rchL (coP h)) (rchL (coP h)).length) (rchL (coP h)) ++ List.replicate (3200 - (outW (coP h).words (plF (coP h).words (rchL (coP h)) (rchL (coP h)).length) (rchL (coP h))).length) 0 = _
  rw [e, co_outA k hf]
  rfl
 have er : (coP (coP h)).roots = (coP h).roots := by
  show (coP h).roots.map (rnM (plF (coP h).words (rchL (coP h)) (rchL (coP h)).length)) = _
  rw [e]
  calc (coP h).roots.map (rnM (plF (coP h).words (plL h) (plL h).length)) = (coP h).roots.map id := List.map_congr_left fun x hx => co_rn k hf (right_roots R x hx)
   _ = _ := List.map_id _
 have eo : (coP (coP h)).old = (coP h).old := by
  show szS (coP h).words (rchL (coP h)) = szS h.words (rchL h)
  rw [e, co_szA k]
 refine ⟨by rw [e, co_szA k]; exact hf, ?_⟩
 calc coP (coP h) = { (coP h) with words := (coP (coP h)).words, roots := (coP (coP h)).roots, old := (coP (coP h)).old } := rfl
  _ = coP h := by rw [ew, er, eo]
/-- No garbage. -/
theorem co_garb {h : Hp} (k : okC h = true) (hf : szS h.words (rchL h) <= 2000) : gaC (coP h) = 0 := by
 obtain ⟨k', e⟩ := co_ok k hf
 unfold gaC
 rw [if_pos k', szS_perm (rch_perm k'), co_rch k hf, e]
 omega
/-- No young ones. -/
theorem co_young {h : Hp} (k : okC h = true) (hf : szS h.words (rchL h) <= 2000) : yoC (coP h) = 0 := by
 obtain ⟨k', e⟩ := co_ok k hf
 unfold yoC
 rw [if_pos k', e, List.countP_eq_zero.2]
 ·rfl
 intro a ha
 obtain ⟨i, hi, rfl⟩ := mem_plL.1 ha
 have lt := plN_mono hi (Nat.le_refl _)
 have en := plN_end k
 simp only [decide_eq_true_eq]
 omega
/-- The old part is what is reached. -/
theorem co_old {h : Hp} (k : okC h = true) : (coP h).old = reC h := by
 unfold reC
 rw [if_pos k]
 show szS h.words (rchL h) = reP h
 rw [<- szS_perm (rch_perm k)]
 have R := c_right k
 have gen : ∀ l : List Nat, (∀ a, a ∈ l -> 0 <= gw h.words a) -> szS h.words l = (l.map fun a => (nx h.words a : Int) - a).sum := by
  intro l
  induction l with
  | nil => intro _; rfl
  | cons a l ih =>
   intro q
   have q1 := q a (by simp)
   rw [szS, ih (fun b hb => q b (by simp [hb])), List.map_cons, List.sum_cons]
   unfold nx
   omega
 exact gen _ fun a ha => ((rch_obs k).2 a (mem_rch k ha)).2.1
/-- Headers stay. -/
theorem co_hdr {h : Hp} (k : okC h = true) (hf : szS h.words (rchL h) <= 2000) {j : Nat} (hj : j < (obC h).length) (hm : ¬ (mvL h).getD j 0 < 0) {q : Nat} (hq : q < 4) : hdC (coP h) ((mvL h).getD j 0) q = hdC h (((obC h).getD j 0 : Nat) : Int) q := by
 obtain ⟨k', e⟩ := co_ok k hf
 have mo := lget_mem (obC h) j hj
 have ho : isC h (((obC h).getD j 0 : Nat) : Int) = true := by
  unfold isC
  exact List.contains_iff_mem.2 (List.mem_map.2 ⟨_, mo, rfl⟩)
 rw [mv_at hj] at hm ⊢
 by_cases mr : (obC h).getD j 0 ∈ rchL h
 ·have ix := List.idxOf_lt_length_of_mem mr
  have eb : (rchL h).getD ((rchL h).idxOf ((obC h).getD j 0)) 0 = (obC h).getD j 0 := by
   rw [List.getD_eq_getElem?_getD, List.getElem?_eq_getElem ix, Option.getD_some]
   exact List.getElem_idxOf ix
  have pv : plF h.words (rchL h) (rchL h).length (((obC h).getD j 0 : Nat) : Int) = some (pf h ((obC h).getD j 0) : Int) := by
   unfold plF
   have mm : (((obC h).getD j 0 : Nat) : Int) ∈ ints (rchL h) := List.mem_map.2 ⟨_, mr, rfl⟩
   rw [List.take_length, if_pos mm, Int.toNat_natCast]
   congr 1
   unfold pf plN
   exact (outW_size _ (fun b hb => ((rch_obs k).2 b (List.mem_of_mem_take hb)).2.1)).symm
  rw [pv, Option.getD_some]
  have hp : isC (coP h) ((pf h ((obC h).getD j 0) : Nat) : Int) = true := by
   unfold isC
   rw [e]
   have : pf h ((obC h).getD j 0) ∈ plL h := mem_plL.2 ⟨_, ix, rfl⟩
   exact List.contains_iff_mem.2 (List.mem_map.2 ⟨_, this, rfl⟩)
  unfold hdC
  rw [if_pos hp, if_pos ho, Int.toNat_natCast, Int.toNat_natCast]
  have := co_head (h := h) (i := (rchL h).idxOf ((obC h).getD j 0)) (q := q) ix hq
  rw [eb] at this
  exact this
 ·refine absurd ?_ hm
  have pv : plF h.words (rchL h) (rchL h).length (((obC h).getD j 0 : Nat) : Int) = none := by
   unfold plF
   rw [if_neg]
   rw [List.take_length]
   intro z
   obtain ⟨b, hb, eb⟩ := List.mem_map.1 z
   have : b = (obC h).getD j 0 := by omega
   exact mr (this ▸ hb)
  rw [pv]
  decide
end Go.Proofs.YthdffigckohpoaaGreat
/- All that the law says of a compacted heap, in plain words. -/
namespace Go.Proofs.YthdffigckohpoaaGreat
open Go.RowKit
theorem compacted_no {h : Hp} (k : coB h = false) : coC h = zeroH /\ mvC h = [] := by
 refine ⟨by unfold coC; rw [k]; rfl, ?_⟩
 unfold mvC
 rw [if_neg]
 rintro ⟨a, b⟩
 unfold coB at k
 rw [a, decide_eq_true b] at k
 cases k
theorem compacted {h : Hp} (k : coB h = true) : okC h = true /\ okC (coC h) = true /\ (coB (coC h) = true /\ coC (coC h) = coC h) /\ shC (coC h) = shC h /\ gaC (coC h) = 0 /\ yoC (coC h) = 0 /\ (coC h).old = reC h /\ (mvC h).length = (obC h).length ∧
  ∀ j, j < (obC h).length -> 0 <= (mvC h).getD j 0 -> ∀ q, q < 4 -> hdC (coC h) ((mvC h).getD j 0) q = hdC h (((obC h).getD j 0 : Nat) : Int) q := by
 have k' := k
 unfold coB at k'
 rw [Bool.and_eq_true] at k'
 obtain ⟨k1, k2⟩ := k'
 have hf := of_decide_eq_true k2
 have e : coC h = coP h := by unfold coC; rw [k]; rfl
 have em : mvC h = mvL h := by unfold mvC; rw [if_pos ⟨k1, hf⟩]
 rw [e, em]
 have ag := co_again k1 hf
 have kb : coB (coP h) = true := by
  unfold coB
  rw [(co_ok k1 hf).1, decide_eq_true ag.1]
  rfl
 refine ⟨k1, (co_ok k1 hf).1, ⟨kb, ?_⟩, co_shape k1 hf, co_garb k1 hf, co_young k1 hf, co_old k1, mv_len h, fun j hj hm q hq => co_hdr k1 hf hj (by omega) hq⟩
 unfold coC
 rw [kb]
 exact ag.2
end Go.Proofs.YthdffigckohpoaaGreat
/- Theory of FnMade: what a heap with a new object is. -/
namespace Go.Proofs.YthdffigckohpoaaGreat
open Go.RowKit
theorem sh_small {h : Hp} (k : okC h = true) : (shC h).roots.length <= 20 /\ (shC h).nodes.length <= 3200 /\ ∀ n, n ∈ (shC h).nodes -> n.fl.length <= 1000 := by
 have R := c_right k
 have e : shC h = shP h := by unfold shC; rw [k]; rfl
 rw [e]
 refine ⟨?_, ?_, fun n hn => ?_⟩
 ·show (h.roots.map _).length <= 20
  rw [List.length_map]
  exact R.2.2.2.2.2.1
 ·show ((ordF h.words h.roots).map _).length <= 3200
  rw [List.length_map]
  exact ord_len R
 ·obtain ⟨a, ha, rfl⟩ := List.mem_map.1 (show n ∈ (ordF h.words h.roots).map _ from hn)
  show ((flds h.words a).map _).length <= 1000
  rw [List.length_map, flds_length]
  have := size_of (R.1.obj (ord_sub R ha)).2.2
  omega
end Go.Proofs.YthdffigckohpoaaGreat
