import Derived.Test.YtjclpbaiiklhcaaGreatDoorZDBase
import Derived.Test.YtjclpbaiiklhcaaGreatDoorZV3
/- NewDisk of the model and of the program. -/
namespace Go.Proofs.YtjclpbaiiklhcaaGreatDoor.Disk
open Go.RowKit

set_option maxHeartbeats 400000 in
theorem specNewDisk_any (w : World) : Calls Tryz.prog 69 #[] w fun e w' => ∃ v1 v2, e = .returned (.agg #[v1, v2]) ∧ ND w.heap.size w' v1 v2 es64 [] ∧ Below w.heap.size w w' := by
  have hmk := make64
  have R := empties_row (w.alloc (.cells #[.slice (some ⟨w.heap.size + 1, 0, none⟩) 64 64, .slice none 0 0] 27))
  rw [World.size_alloc] at R
  go_enter Tryz.func69, Tryz.ntmps69
  go_wp2
  exact bodyPost_ret (v := .agg #[.slice (some ⟨w.heap.size + 1, 0, none⟩) 64 64, .slice none 0 0]) (by simp [results, Tryz.results69, go_sem]) rfl ⟨_, _, rfl, nd_row _ _ _ R (by omega), bel_two _ _ _⟩

set_option maxHeartbeats 400000 in
theorem specNewDisk_nil (w : World) : Calls Tryz.prog 69 #[] w fun e w' => ∃ v1, e = .returned (.agg #[v1, .slice none 0 0]) ∧ ND w.heap.size w' v1 (.slice none 0 0) es64 [] ∧ Below w.heap.size w w' ∧ (∃ ao n cap, v1 = .slice ao n cap ∧ n ≤ cap) := by
  have hmk := make64
  have R := empties_row (w.alloc (.cells #[.slice (some ⟨w.heap.size + 1, 0, none⟩) 64 64, .slice none 0 0] 27))
  rw [World.size_alloc] at R
  go_enter Tryz.func69, Tryz.ntmps69
  go_wp2
  exact bodyPost_ret (v := .agg #[.slice (some ⟨w.heap.size + 1, 0, none⟩) 64 64, .slice none 0 0]) (by simp [results, Tryz.results69, go_sem]) rfl ⟨_, rfl, nd_row _ _ _ R (by omega), bel_two _ _ _, ⟨_, _, _, rfl, Nat.le_refl _⟩⟩


end Go.Proofs.YtjclpbaiiklhcaaGreatDoor.Disk

/- A superblock's text, in plain words. -/
namespace Go.Proofs.YtjclpbaiiklhcaaGreatDoor
open Go.RowKit

def supHead (e : Int) (n : Nat) : ByteArray := ⟨#[83]⟩ ++ itoaB e ++ semi ++ itoaB n ++ semi
def supL (acc : ByteArray) (l : List Int) : ByteArray := l.foldl (fun a x => a ++ itoaB x ++ semi) acc
/-- Number i is a page's sector and none of those ahead of it. -/
def goodAt (l : List Int) (i : Nat) : Bool := decide (2 ≤ l.getD i 0 ∧ l.getD i 0 ≤ 63) && !(l.take i).contains (l.getD i 0)
def rowOk (l : List Int) (k : Nat) : Bool := (List.range k).all (goodAt l)
def supOk (e : Int) (l : List Int) : Bool := decide (1 ≤ e ∧ e ≤ 999999999) && decide (l.length ≤ 30) && rowOk l l.length
def supS (e : Int) (l : List Int) : ByteArray := supL (supHead e l.length) l
def supT (e : Int) (l : List Int) : ByteArray := if supOk e l = true then supS e l ++ itoaB (crcS (supS e l)) else ⟨#[]⟩

theorem rowOk_succ (l : List Int) (k : Nat) : rowOk l (k + 1) = (rowOk l k && goodAt l k) := by
  unfold rowOk
  rw [List.range_succ, List.all_append]
  simp
theorem rowOk_mem {l : List Int} {k : Nat} (h : rowOk l k = true) (i : Nat) (hi : i < k) : goodAt l i = true := by
  unfold rowOk at h
  exact List.all_eq_true.1 h i (List.mem_range.2 hi)
theorem rowOk_false {l : List Int} {i n : Nat} (h : goodAt l i = false) (hi : i < n) : rowOk l n = false := by
  rw [Bool.eq_false_iff]
  intro hc
  rw [rowOk_mem hc i hi] at h
  exact absurd h (by simp)
theorem goodAt_range {l : List Int} {i : Nat} (h : goodAt l i = true) : 2 ≤ l.getD i 0 ∧ l.getD i 0 ≤ 63 := by
  unfold goodAt at h
  rw [Bool.and_eq_true] at h
  exact of_decide_eq_true h.1
theorem supOk_row {e : Int} {l : List Int} (h : rowOk l l.length = false) : supOk e l = false := by unfold supOk; rw [h]; simp
theorem supT_no {e : Int} {l : List Int} (h : supOk e l = false) : supT e l = ⟨#[]⟩ := by unfold supT; rw [if_neg (by rw [h]; simp)]
theorem supT_yes {e : Int} {l : List Int} (h : supOk e l = true) : supT e l = supS e l ++ itoaB (crcS (supS e l)) := by unfold supT; rw [if_pos h]
theorem supOk_yes {e : Int} {l : List Int} (h0 : 1 ≤ e) (h1 : e ≤ 999999999) (hl : l.length ≤ 30) (h : rowOk l l.length = true) : supOk e l = true := by
  unfold supOk
  rw [h, decide_eq_true ⟨h0, h1⟩, decide_eq_true hl]
  rfl
theorem supOk_e {e : Int} {l : List Int} (h : ¬ (1 ≤ e ∧ e ≤ 999999999)) : supOk e l = false := by unfold supOk; rw [decide_eq_false h]; simp
theorem supOk_l {e : Int} {l : List Int} (h : ¬ l.length ≤ 30) : supOk e l = false := by unfold supOk; rw [decide_eq_false h]; simp

theorem supL_succ (acc : ByteArray) (l : List Int) (k : Nat) (h : k < l.length) : supL acc (l.take (k + 1)) = supL acc (l.take k) ++ itoaB (l.getD k 0) ++ semi := by
  unfold supL
  rw [List.take_succ_eq_append_getElem h, List.foldl_append]
  simp [h]
theorem supHead_size {e : Int} {n : Nat} (h0 : 1 ≤ e) (h1 : e ≤ 999999999) (hn : n ≤ 1000000) : (supHead e n).size ≤ 43 := by
  have a := itoaB_size (n := e) (by omega) (by omega)
  have b := itoaB_size (n := n) (by omega) (by omega)
  have c : semi.size = 1 := rfl
  have d : (⟨#[83]⟩ : ByteArray).size = 1 := rfl
  unfold supHead
  rw [ByteArray.size_append, ByteArray.size_append, ByteArray.size_append, ByteArray.size_append]
  omega
theorem supL_size {acc : ByteArray} {l : List Int} : ∀ k, k ≤ l.length → rowOk l k = true → (supL acc (l.take k)).size ≤ acc.size + 21 * k
  | 0, _, _ => by simp [supL]
  | k + 1, hk, h => by
    rw [rowOk_succ, Bool.and_eq_true] at h
    have ih := supL_size (acc := acc) (l := l) k (by omega) h.1
    obtain ⟨r1, r2⟩ := goodAt_range h.2
    have a := itoaB_size (n := l.getD k 0) (by omega) (by omega)
    have c : semi.size = 1 := rfl
    rw [supL_succ acc l k (by omega), ByteArray.size_append, ByteArray.size_append]
    omega
theorem goodAt_no {l : List Int} {i : Nat} (h : ¬ (2 ≤ l.getD i 0 ∧ l.getD i 0 ≤ 63)) : goodAt l i = false := by unfold goodAt; rw [decide_eq_false h]; simp
theorem goodAt_twice {l : List Int} {i : Nat} (h : (l.take i).contains (l.getD i 0) = true) : goodAt l i = false := by unfold goodAt; rw [h]; simp
theorem goodAt_yes {l : List Int} {i : Nat} (h : 2 ≤ l.getD i 0 ∧ l.getD i 0 ≤ 63) (hc : (l.take i).contains (l.getD i 0) = false) : goodAt l i = true := by unfold goodAt; rw [hc, decide_eq_true h]; rfl
theorem take_get {l : List Int} {i j : Nat} (h : j < i) : (l.take i).getD j 0 = l.getD j 0 := by simp [List.getD_eq_getElem?_getD, h]

end Go.Proofs.YtjclpbaiiklhcaaGreatDoor

/- SuperText of the model. -/
namespace Go.Proofs.YtjclpbaiiklhcaaGreatDoor
open Go.RowKit

set_option maxRecDepth 100000 in
set_option maxHeartbeats 3200000 in
theorem specSuper_any (e : Int) (v : Value) (l : List Int) (w : World) (hv : IR w v l) (hl : l.length ≤ 1000000000000) :
    Calls Tryz.prog 21 #[.int .i64 e, v] w fun x w' => x = .returned (.tuple #[.string (supT e l), .bool (supOk e l)]) ∧ Below w.heap.size w w' := by
  obtain ⟨ao, cap, rfl, _, hv⟩ := hv
  go_enter Tryz.func21, Tryz.ntmps21
  go_wp2_with fail
  refine (l1In_any _ _ _ _).mono ?_
  rintro x w ⟨rfl, rfl⟩
  cases h1 : decide (1 ≤ e ∧ e ≤ 999999999)
  · have G : Hid (supOk e l = false) := supOk_e (of_decide_eq_false h1)
    clear h1 hv
    go_wp2
    exact bodyPost_ret (v := .tuple #[.string ⟨#[]⟩, .bool false]) (by simp [results, Tryz.results21, go_sem]) rfl ⟨by rw [supT_no G.out, G.out], Below.refl _ _⟩
  obtain ⟨he0, he1⟩ := of_decide_eq_true h1
  clear h1
  by_cases h30 : 30 < l.length
  · have G : Hid (supOk e l = false) := supOk_l (by omega)
    have g2 : decide ((30 : Int) < (l.length : Int)) = true := by simp; omega
    clear hv
    go_wp2
    exact bodyPost_ret (v := .tuple #[.string ⟨#[]⟩, .bool false]) (by simp [results, Tryz.results21, go_sem]) rfl ⟨by rw [supT_no G.out, G.out], Below.refl _ _⟩
  have g2 : decide ((30 : Int) < (l.length : Int)) = false := by simp; omega
  have s1 := itoaB_size (n := e) (by omega) (by omega)
  have s2 := itoaB_size (n := (l.length : Int)) (by omega) (by omega)
  have g4 : (⟨#[83]⟩ ++ itoaB e ++ semi : ByteArray).size ≤ 22 := by
    rw [ByteArray.size_append, ByteArray.size_append]
    have c : semi.size = 1 := rfl
    have d : (⟨#[83]⟩ : ByteArray).size = 1 := rfl
    omega
  have s5 := supHead_size (n := l.length) he0 he1 (by omega)
  go_wp2_with fail
  refine (l2Int_any e _ (by omega) (by omega)).mono ?_
  rintro x w1 ⟨rfl, hb1⟩
  have e1 : (⟨(Lib.itoa e).toArray⟩ : ByteArray) = itoaB e := rfl
  rw [e1]
  clear e1
  go_wp2_with fail
  refine (l2Int_any _ _ (by omega) (by omega)).mono ?_
  rintro x w2 ⟨rfl, hb2⟩
  have e2 : (⟨(Lib.itoa (l.length : Int)).toArray⟩ : ByteArray) = itoaB l.length := rfl
  rw [e2]
  clear e2
  have HH : Hid (supHead e l.length = ⟨#[83]⟩ ++ itoaB e ++ ⟨#[59]⟩ ++ itoaB l.length ++ ⟨#[59]⟩) := (rfl : supHead e l.length = ⟨#[83]⟩ ++ itoaB e ++ ⟨#[59]⟩ ++ itoaB l.length ++ ⟨#[59]⟩)
  have hb3 := bel_after hb1 hb2
  go_wp2
  clear g4 s1 s2
  go_loopw [6, 7] (fun s i wr => ∃ k : Nat, k ≤ l.length ∧ i = .int .i64 k ∧ s = .string (supL (supHead e l.length) (l.take k)) ∧ Hid (rowOk l k = true) ∧ Below w.heap.size w wr) (fun _ i _ => l.length - (intOf i).toNat)
  case atStart => exact ⟨0, Nat.zero_le _, rfl, by rw [← HH.out]; rfl, (by rfl : rowOk l 0 = true), hb3⟩
  case round =>
    obtain ⟨k, hk, rfl, rfl, hr, hb⟩ := hrel
    have sz := supL_size (acc := supHead e l.length) k hk hr.out
    by_cases hlt : k < l.length
    · have HS : Hid (supL (supHead e l.length) (l.take (k + 1)) = supL (supHead e l.length) (l.take k) ++ itoaB (l.getD k 0) ++ semi) := supL_succ _ l k hlt
      obtain ⟨b, o, rfl, hc0⟩ := hv k hlt
      have hc := cell_later hb hc0
      have hvk : Hid (∀ m, m < k → wr.cell? ⟨b, o + m, none⟩ = some (.int .i64 (l.getD m 0))) := (fun m hm => by
        obtain ⟨b', o', e', hc'⟩ := hv m (by omega)
        cases e'
        exact cell_later hb hc' : ∀ m, m < k → wr.cell? ⟨b, o + m, none⟩ = some (.int .i64 (l.getD m 0)))
      have NO : Hid (¬ (2 ≤ l.getD k 0 ∧ l.getD k 0 ≤ 63) → goodAt l k = false) := fun h => goodAt_no h
      have NT : Hid (2 ≤ l.getD k 0 ∧ l.getD k 0 ≤ 63 → (∀ j, j < k → l.getD j 0 ≠ l.getD k 0) → goodAt l k = true) := fun hin hh => goodAt_yes hin (not_mem_of (fun j hj => by
          rw [List.length_take] at hj
          rw [take_get (by omega)]
          exact hh j (by omega)))
      have YT : Hid (∀ j, j < k → l.getD j 0 = l.getD k 0 → goodAt l k = false) := fun j hj e => goodAt_twice (mem_of (k := j) (by rw [List.length_take]; omega) (by rw [take_get hj, e]))
      clear hv hc0
      generalize l.getD k 0 = y at *
      have NG : Hid (goodAt l k = false → supOk e l = false) := fun h => supOk_row (rowOk_false h hlt)
      by_cases hin : 2 ≤ y ∧ y ≤ 63
      · have s3 := itoaB_size (n := y) (by omega) (by omega)
        have hd : decide (2 ≤ y ∧ y ≤ 63) = true := decide_eq_true hin
        have NT2 : Hid ((∀ j, j < k → l.getD j 0 ≠ y) → goodAt l k = true) := NT.out hin
        obtain ⟨y0, y1⟩ := hin
        clear NT NO
        go_wp2_with fail
        refine (l1In_any _ _ _ _).mono ?_
        rintro x wr' ⟨rfl, rfl⟩
        rw [hd]
        clear hd
        go_wp2
        go_loopw [8] (fun j wq => ∃ m : Nat, m ≤ k ∧ j = .int .i64 m ∧ Hid (∀ i, i < m → l.getD i 0 ≠ y) ∧ ∃ n, wq = wr'.drewN n) (fun j _ => k - (intOf j).toNat)
        case atStart => exact ⟨0, Nat.zero_le _, rfl, fun j hj => absurd hj (by omega), 0, rfl⟩
        case round =>
          obtain ⟨m, hm, rfl, hn, n, rfl⟩ := hrel
          by_cases hmk : m < k
          · have hcm := hvk.out m hmk
            have hml : m < l.length := by omega
            have HE : Hid (l.getD m 0 = y → goodAt l k = false) := YT.out m hmk
            have HN : Hid (l.getD m 0 ≠ y → ∀ i, i < m + 1 → l.getD i 0 ≠ y) := fun h => all_upto hn.out h
            generalize l.getD m 0 = z at *
            clear hvk NT2 YT HS
            go_wp2
            go_region
            all_goals go_wp2
            · have he : z = y := by simpa using ‹(z == y) = true›
              have G := NG.out (HE.out he)
              exact bodyPost_ret (v := .tuple #[.string ⟨#[]⟩, .bool false]) (by simp [results, Tryz.results21, go_sem]) rfl ⟨by rw [supT_no G, G], below_drewN hb _⟩
            · have he : z ≠ y := by simpa using ‹(z == y) = false›
              go_roundw
              case rel => exact ⟨m + 1, by omega, by go_num, HN.out he, _, rfl⟩
              case measure => simp [intOf]; omega
          · obtain rfl : m = k := by omega
            have G : Hid (rowOk l (m + 1) = true) := (by rw [rowOk_succ, hr.out, NT2.out hn.out]; rfl : rowOk l (m + 1) = true)
            clear hvk NT2 YT hn hr
            go_wp2_with fail
            refine (l2Int_any y _ (by omega) (by omega)).mono ?_
            rintro x w5 ⟨rfl, hb5⟩
            have e5 : (⟨(Lib.itoa y).toArray⟩ : ByteArray) = itoaB y := rfl
            rw [e5]
            clear e5
            go_wp2
            exact ⟨⟨m + 1, by omega, by go_num, by rw [HS.out]; rfl, G, bel_after (below_drewN hb _) hb5⟩, by simp [intOf]; omega⟩
      · have G : Hid (supOk e l = false) := NG.out (NO.out hin)
        have hd : decide (2 ≤ y ∧ y ≤ 63) = false := decide_eq_false hin
        clear NT NO hin hvk YT NG
        go_wp2_with fail
        refine (l1In_any _ _ _ _).mono ?_
        rintro x wr' ⟨rfl, rfl⟩
        rw [hd]
        clear hd
        go_wp2
        exact bodyPost_ret (v := .tuple #[.string ⟨#[]⟩, .bool false]) (by simp [results, Tryz.results21, go_sem]) rfl ⟨by rw [supT_no G.out, G.out], hb⟩
    · obtain rfl : k = l.length := by omega
      have G := supOk_yes he0 he1 (by omega) hr.out
      have HT : Hid (supT e l = supS e l ++ itoaB (crcS (supS e l))) := supT_yes G
      have HG : Hid (supOk e l = true) := G
      have e7 : l.take l.length = l := List.take_of_length_le (Nat.le_refl _)
      rw [e7] at sz ⊢
      clear e7 G hv
      have e8 : supL (supHead e l.length) l = supS e l := rfl
      rw [e8] at sz ⊢
      clear e8
      obtain ⟨c1, c2⟩ := crcS_range (supS e l)
      have si := itoaB_size (n := crcS (supS e l)) (by omega) (by omega)
      go_wp2_with fail
      refine (crc_any _ _ (by omega)).mono ?_
      rintro x w5 ⟨rfl, rfl⟩
      go_wp2_with fail
      refine (l2Int_any _ _ (by omega) (by omega)).mono ?_
      rintro x w6 ⟨rfl, hb6⟩
      have e9 : (⟨(Lib.itoa (crcS (supS e l))).toArray⟩ : ByteArray) = itoaB (crcS (supS e l)) := rfl
      rw [e9]
      clear e9
      go_wp2
      exact bodyPost_ret (v := .tuple #[.string (supS e l ++ itoaB (crcS (supS e l))), .bool true]) (by simp [results, Tryz.results21, go_sem]) rfl ⟨by rw [HT.out, HG.out], bel_after hb hb6⟩

end Go.Proofs.YtjclpbaiiklhcaaGreatDoor
