import Derived.Test.YtddocjmjianajaaZMA
import Derived.Laws.AppendOwn
import Derived.Lib.AtoiTie
import Derived.Lib.ParseIntBTie
import Derived.Lib.IndexMore
import Derived.Lib.IndexBytes
import Derived.Lib.Strings
/- Rows of numbers and of texts of the call's own, grown by append. -/
namespace Go.Proofs.Ytddocjmjianajaa
open Go.RowKit

def icells (l : List Int) : List Value := l.map fun z => .int .i64 z
def tcells (l : List ByteArray) : List Value := l.map fun s => .string s
theorem icells_length (l : List Int) : (icells l).length = l.length := by simp [icells]
theorem tcells_length (l : List ByteArray) : (tcells l).length = l.length := by simp [tcells]
theorem own_none (w : World) (B e size : Nat) (hB : B ≤ w.heap.size) : (w.alloc (.cells #[] e)).ownsRow B e size (.slice (some ⟨w.heap.size, 0, none⟩) 0 0) 0 [] :=
  ⟨by simp, .inr ⟨w.heap.size, 0, #[], rfl, hB, heap_alloc_new w _, Nat.le_refl _, by unfold maxLen; omega, by simp, by simp⟩⟩
theorem own_later {w w' : World} {B e size : Nat} {v : Value} {n : Nat} {xs : List Value} (h : w.ownsRow B e size v n xs) (hb : Below w.heap.size w w') : w'.ownsRow B e size v n xs := by
  obtain ⟨hl, h⟩ := h
  refine ⟨hl, ?_⟩
  rcases h with h | ⟨g, cap, cur, hv, hB, hh, h1, h2, h3, h4⟩
  · exact .inl h
  · refine .inr ⟨g, cap, cur, hv, hB, ?_, h1, h2, h3, h4⟩
    have hlt : g < w.heap.size := by
      rcases Nat.lt_or_ge g w.heap.size with h' | h'
      · exact h'
      · rw [Array.getElem?_eq_none h'] at hh; cases hh
    rw [hb.block g hlt]
    exact hh
theorem own_cell {w : World} {B e : Nat} {v : Value} {n : Nat} {xs : List Value} (h : w.ownsRow B e 1 v n xs) : ∃ ao cap, v = .slice ao n cap ∧ n ≤ cap ∧ ∀ i, i < n → ∃ b, ao = some ⟨b, 0, none⟩ ∧ w.cell? ⟨b, i, none⟩ = xs[i]? := by
  obtain ⟨hl, h⟩ := h
  rcases h with ⟨rfl, rfl⟩ | ⟨g, cap, cur, rfl, hB, hh, h1, h2, h3, h4⟩
  · exact ⟨none, 0, rfl, Nat.le_refl _, fun i hi => by omega⟩
  · refine ⟨_, cap, rfl, h1, fun i hi => ⟨g, rfl, ?_⟩⟩
    rw [← h4, List.getElem?_take_of_lt (by omega)]
    simp [World.cell?, hh]
theorem IR_of_owns {w : World} {B : Nat} {v : Value} {l : List Int} (h : w.ownsRow B 2 1 v l.length (icells l)) : IR w v l := by
  obtain ⟨ao, cap, rfl, h1, h2⟩ := own_cell h
  refine ⟨ao, cap, rfl, h1, fun i hi => ?_⟩
  obtain ⟨b, rfl, hc⟩ := h2 i hi
  refine ⟨b, 0, rfl, ?_⟩
  rw [Nat.zero_add, hc]
  simp [icells, hi]

theorem Try.infoI : (Try.prog.info? 2).map (fun i => (i.zero, i.size, i.bytes)) = some (some (.int .i64 0), 1, 8) := by kernel_rfl
theorem Try.infoS : (Try.prog.info? 9).map (fun i => (i.zero, i.size, i.bytes)) = some (some (.string ⟨#[]⟩), 1, 16) := by kernel_rfl

theorem app_int {ops : Array Oper} {rest : List Oper} {o : Oper} {a : Act} {Q : Exit → Act → World → Prop} (w : World) (hgd : o.guard = none) (s x : Operand)
    (ho : o.op = .call { callee := .builtin .append, args := #[s, x], argTypes := #[48, 48] }) (B : Nat) (v : Value) (n : Nat) (xs : List Value) (hs : a.eval s = v) (hown : w.ownsRow B 2 1 v n xs)
    (g c : Nat) (z : Int) (hx : a.eval x = .slice (some ⟨g, 0, none⟩) 1 c) (hc : w.cell? ⟨g, 0, none⟩ = some (.int .i64 z)) (hn : n ≤ 1000000000000) (hB : B ≤ w.heap.size)
    (h : ∀ v' w', w'.ownsRow B 2 1 v' (n + 1) (xs ++ [.int .i64 z]) → w.grownBy w' v.ownBlock → wpList Try.prog ops Q rest (a.put o.dst v') w') : wpList Try.prog ops Q (o :: rest) a w := by
  obtain ⟨i, hi, hzz⟩ := Option.map_eq_some_iff.1 Try.infoI
  simp only [Prod.mk.injEq] at hzz
  obtain ⟨hz, hsz, hby⟩ := hzz
  refine wpList_append_own w hgd s x 48 ho B 2 i _ 1 8 Try.underlying48 hi hz hsz hby rfl (by omega) v n xs hs hown ⟨g, 0, none⟩ 1 c [.int .i64 z] hx rfl (fun j u hj => ?_) (fun u hu => ?_) (by unfold maxLen; omega) (by omega) hB (fun v' w' h1 h2 _ => h v' w' h1 h2)
  · match j, hj with
    | 0, hj => simp at hj; subst hj; simpa [Addr.add] using hc
  · simp at hu; subst hu; rfl
theorem app_text {ops : Array Oper} {rest : List Oper} {o : Oper} {a : Act} {Q : Exit → Act → World → Prop} (w : World) (hgd : o.guard = none) (s x : Operand)
    (ho : o.op = .call { callee := .builtin .append, args := #[s, x], argTypes := #[24, 24] }) (B : Nat) (v : Value) (n : Nat) (xs : List Value) (hs : a.eval s = v) (hown : w.ownsRow B 9 1 v n xs)
    (g c : Nat) (z : ByteArray) (hx : a.eval x = .slice (some ⟨g, 0, none⟩) 1 c) (hc : w.cell? ⟨g, 0, none⟩ = some (.string z)) (hn : n ≤ 1000000000000) (hB : B ≤ w.heap.size)
    (h : ∀ v' w', w'.ownsRow B 9 1 v' (n + 1) (xs ++ [.string z]) → w.grownBy w' v.ownBlock → wpList Try.prog ops Q rest (a.put o.dst v') w') : wpList Try.prog ops Q (o :: rest) a w := by
  obtain ⟨i, hi, hzz⟩ := Option.map_eq_some_iff.1 Try.infoS
  simp only [Prod.mk.injEq] at hzz
  obtain ⟨hz, hsz, hby⟩ := hzz
  refine wpList_append_own w hgd s x 24 ho B 9 i _ 1 16 Try.underlying24 hi hz hsz hby rfl (by omega) v n xs hs hown ⟨g, 0, none⟩ 1 c [.string z] hx rfl (fun j u hj => ?_) (fun u hu => ?_) (by unfold maxLen; omega) (by omega) hB (fun v' w' h1 h2 _ => h v' w' h1 h2)
  · match j, hj with
    | 0, hj => simp at hj; subst hj; simpa [Addr.add] using hc
  · simp at hu; subst hu; rfl
/-- What was below the row's ground stays where the row has grown. -/
theorem own_grown {w0 w w' : World} {B e size n : Nat} {v : Value} {xs : List Value} (hb : Below B w0 w) (hown : w.ownsRow B e size v n xs) (hg : w.grownBy w' v.ownBlock) (hB : B ≤ w.heap.size) : Below B w0 w' := by
  refine Below.grown hb hg hB (fun k hk => ?_)
  obtain ⟨_, h⟩ := hown
  rcases h with ⟨rfl, _⟩ | ⟨g, cap, cur, rfl, hg, _⟩
  · cases hk
  · cases hk; exact hg

end Go.Proofs.Ytddocjmjianajaa

/- A superblock's text, in plain words. -/
namespace Go.Proofs.Ytddocjmjianajaa
open Go.RowKit

def supHead (e : Int) (n : Nat) : ByteArray := ⟨#[83]⟩ ++ itoaB e ++ semi ++ itoaB n ++ semi
def supL (acc : ByteArray) (l : List Int) : ByteArray := l.foldl (fun a x => a ++ itoaB x ++ semi) acc
/-- Number i is a page's sector and none of those ahead of it. -/
def goodAt (l : List Int) (i : Nat) : Bool := decide (2 ≤ l.getD i 0 ∧ l.getD i 0 ≤ 63) && !(l.take i).contains (l.getD i 0)
def rowOk (l : List Int) (k : Nat) : Bool := (List.range k).all (goodAt l)
def supOk (e : Int) (l : List Int) : Bool := decide (1 ≤ e ∧ e ≤ 999999999) && decide (l.length ≤ 30) && rowOk l l.length
def supS (e : Int) (l : List Int) : ByteArray := supL (supHead e l.length) l
def supT (e : Int) (l : List Int) : ByteArray := if supOk e l = true then supS e l ++ itoaB (crcS (supS e l)) else ⟨#[]⟩

theorem rowOk_succ (l : List Int) (k : Nat) : rowOk l (k + 1) = (rowOk l k && goodAt l k) := by
  unfold rowOk
  rw [List.range_succ, List.all_append]
  simp
theorem rowOk_mem {l : List Int} {k : Nat} (h : rowOk l k = true) (i : Nat) (hi : i < k) : goodAt l i = true := by
  unfold rowOk at h
  exact List.all_eq_true.1 h i (List.mem_range.2 hi)
theorem rowOk_false {l : List Int} {i n : Nat} (h : goodAt l i = false) (hi : i < n) : rowOk l n = false := by
  rw [Bool.eq_false_iff]
  intro hc
  rw [rowOk_mem hc i hi] at h
  exact absurd h (by simp)
theorem goodAt_range {l : List Int} {i : Nat} (h : goodAt l i = true) : 2 ≤ l.getD i 0 ∧ l.getD i 0 ≤ 63 := by
  unfold goodAt at h
  rw [Bool.and_eq_true] at h
  exact of_decide_eq_true h.1
theorem supOk_row {e : Int} {l : List Int} (h : rowOk l l.length = false) : supOk e l = false := by unfold supOk; rw [h]; simp
theorem supT_no {e : Int} {l : List Int} (h : supOk e l = false) : supT e l = ⟨#[]⟩ := by unfold supT; rw [if_neg (by rw [h]; simp)]
theorem supT_yes {e : Int} {l : List Int} (h : supOk e l = true) : supT e l = supS e l ++ itoaB (crcS (supS e l)) := by unfold supT; rw [if_pos h]
theorem supOk_yes {e : Int} {l : List Int} (h0 : 1 ≤ e) (h1 : e ≤ 999999999) (hl : l.length ≤ 30) (h : rowOk l l.length = true) : supOk e l = true := by
  unfold supOk
  rw [h, decide_eq_true ⟨h0, h1⟩, decide_eq_true hl]
  rfl
theorem supOk_e {e : Int} {l : List Int} (h : ¬ (1 ≤ e ∧ e ≤ 999999999)) : supOk e l = false := by unfold supOk; rw [decide_eq_false h]; simp
theorem supOk_l {e : Int} {l : List Int} (h : ¬ l.length ≤ 30) : supOk e l = false := by unfold supOk; rw [decide_eq_false h]; simp

theorem supL_succ (acc : ByteArray) (l : List Int) (k : Nat) (h : k < l.length) : supL acc (l.take (k + 1)) = supL acc (l.take k) ++ itoaB (l.getD k 0) ++ semi := by
  unfold supL
  rw [List.take_succ_eq_append_getElem h, List.foldl_append]
  simp [h]
theorem supHead_size {e : Int} {n : Nat} (h0 : 1 ≤ e) (h1 : e ≤ 999999999) (hn : n ≤ 1000000) : (supHead e n).size ≤ 43 := by
  have a := itoaB_size (n := e) (by omega) (by omega)
  have b := itoaB_size (n := n) (by omega) (by omega)
  have c : semi.size = 1 := rfl
  have d : (⟨#[83]⟩ : ByteArray).size = 1 := rfl
  unfold supHead
  rw [ByteArray.size_append, ByteArray.size_append, ByteArray.size_append, ByteArray.size_append]
  omega
theorem supL_size {acc : ByteArray} {l : List Int} : ∀ k, k ≤ l.length → rowOk l k = true → (supL acc (l.take k)).size ≤ acc.size + 21 * k
  | 0, _, _ => by simp [supL]
  | k + 1, hk, h => by
    rw [rowOk_succ, Bool.and_eq_true] at h
    have ih := supL_size (acc := acc) (l := l) k (by omega) h.1
    obtain ⟨r1, r2⟩ := goodAt_range h.2
    have a := itoaB_size (n := l.getD k 0) (by omega) (by omega)
    have c : semi.size = 1 := rfl
    rw [supL_succ acc l k (by omega), ByteArray.size_append, ByteArray.size_append]
    omega
theorem goodAt_no {l : List Int} {i : Nat} (h : ¬ (2 ≤ l.getD i 0 ∧ l.getD i 0 ≤ 63)) : goodAt l i = false := by unfold goodAt; rw [decide_eq_false h]; simp
theorem goodAt_twice {l : List Int} {i : Nat} (h : (l.take i).contains (l.getD i 0) = true) : goodAt l i = false := by unfold goodAt; rw [h]; simp
theorem goodAt_yes {l : List Int} {i : Nat} (h : 2 ≤ l.getD i 0 ∧ l.getD i 0 ≤ 63) (hc : (l.take i).contains (l.getD i 0) = false) : goodAt l i = true := by unfold goodAt; rw [hc, decide_eq_true h]; rfl
theorem take_get {l : List Int} {i j : Nat} (h : j < i) : (l.take i).getD j 0 = l.getD j 0 := by simp [List.getD_eq_getElem?_getD, h]

end Go.Proofs.Ytddocjmjianajaa

/- SuperText of the model. -/
namespace Go.Proofs.Ytddocjmjianajaa
open Go.RowKit

set_option maxRecDepth 100000 in
set_option maxHeartbeats 3200000 in
theorem specSuper_any (e : Int) (v : Value) (l : List Int) (w : World) (hv : IR w v l) (hl : l.length ≤ 1000000000000) :
    Calls Try.prog 48 #[.int .i64 e, v] w fun x w' => x = .returned (.tuple #[.string (supT e l), .bool (supOk e l)]) ∧ Below w.heap.size w w' := by
  obtain ⟨ao, cap, rfl, _, hv⟩ := hv
  go_enter Try.func48, Try.ntmps48
  go_wp2_with fail
  refine (l1In_any _ _ _ _).mono ?_
  rintro x w ⟨rfl, rfl⟩
  cases h1 : decide (1 ≤ e ∧ e ≤ 999999999)
  · have G : Hid (supOk e l = false) := supOk_e (of_decide_eq_false h1)
    clear h1 hv
    go_wp2
    exact bodyPost_ret (v := .tuple #[.string ⟨#[]⟩, .bool false]) (by simp [results, Try.results48, go_sem]) rfl ⟨by rw [supT_no G.out, G.out], Below.refl _ _⟩
  obtain ⟨he0, he1⟩ := of_decide_eq_true h1
  clear h1
  by_cases h30 : 30 < l.length
  · have G : Hid (supOk e l = false) := supOk_l (by omega)
    have g2 : decide ((30 : Int) < (l.length : Int)) = true := by simp; omega
    clear hv
    go_wp2
    exact bodyPost_ret (v := .tuple #[.string ⟨#[]⟩, .bool false]) (by simp [results, Try.results48, go_sem]) rfl ⟨by rw [supT_no G.out, G.out], Below.refl _ _⟩
  have g2 : decide ((30 : Int) < (l.length : Int)) = false := by simp; omega
  have s1 := itoaB_size (n := e) (by omega) (by omega)
  have s2 := itoaB_size (n := (l.length : Int)) (by omega) (by omega)
  have g4 : (⟨#[83]⟩ ++ itoaB e ++ semi : ByteArray).size ≤ 22 := by
    rw [ByteArray.size_append, ByteArray.size_append]
    have c : semi.size = 1 := rfl
    have d : (⟨#[83]⟩ : ByteArray).size = 1 := rfl
    omega
  have s5 := supHead_size (n := l.length) he0 he1 (by omega)
  go_wp2_with fail
  refine (l2Int_any e _ (by omega) (by omega)).mono ?_
  rintro x w1 ⟨rfl, hb1⟩
  have e1 : (⟨(Lib.itoa e).toArray⟩ : ByteArray) = itoaB e := rfl
  rw [e1]
  clear e1
  go_wp2_with fail
  refine (l2Int_any _ _ (by omega) (by omega)).mono ?_
  rintro x w2 ⟨rfl, hb2⟩
  have e2 : (⟨(Lib.itoa (l.length : Int)).toArray⟩ : ByteArray) = itoaB l.length := rfl
  rw [e2]
  clear e2
  have HH : Hid (supHead e l.length = ⟨#[83]⟩ ++ itoaB e ++ ⟨#[59]⟩ ++ itoaB l.length ++ ⟨#[59]⟩) := (rfl : supHead e l.length = ⟨#[83]⟩ ++ itoaB e ++ ⟨#[59]⟩ ++ itoaB l.length ++ ⟨#[59]⟩)
  have hb3 := bel_after hb1 hb2
  go_wp2
  clear g4 s1 s2
  go_loopw [6, 7] (fun s i wr => ∃ k : Nat, k ≤ l.length ∧ i = .int .i64 k ∧ s = .string (supL (supHead e l.length) (l.take k)) ∧ Hid (rowOk l k = true) ∧ Below w.heap.size w wr) (fun _ i _ => l.length - (intOf i).toNat)
  case atStart => exact ⟨0, Nat.zero_le _, rfl, by rw [← HH.out]; rfl, (by rfl : rowOk l 0 = true), hb3⟩
  case round =>
    obtain ⟨k, hk, rfl, rfl, hr, hb⟩ := hrel
    have sz := supL_size (acc := supHead e l.length) k hk hr.out
    by_cases hlt : k < l.length
    · have HS : Hid (supL (supHead e l.length) (l.take (k + 1)) = supL (supHead e l.length) (l.take k) ++ itoaB (l.getD k 0) ++ semi) := supL_succ _ l k hlt
      obtain ⟨b, o, rfl, hc0⟩ := hv k hlt
      have hc := cell_later hb hc0
      have hvk : Hid (∀ m, m < k → wr.cell? ⟨b, o + m, none⟩ = some (.int .i64 (l.getD m 0))) := (fun m hm => by
        obtain ⟨b', o', e', hc'⟩ := hv m (by omega)
        cases e'
        exact cell_later hb hc' : ∀ m, m < k → wr.cell? ⟨b, o + m, none⟩ = some (.int .i64 (l.getD m 0)))
      have NO : Hid (¬ (2 ≤ l.getD k 0 ∧ l.getD k 0 ≤ 63) → goodAt l k = false) := fun h => goodAt_no h
      have NT : Hid (2 ≤ l.getD k 0 ∧ l.getD k 0 ≤ 63 → (∀ j, j < k → l.getD j 0 ≠ l.getD k 0) → goodAt l k = true) := fun hin hh => goodAt_yes hin (not_mem_of (fun j hj => by
          rw [List.length_take] at hj
          rw [take_get (by omega)]
          exact hh j (by omega)))
      have YT : Hid (∀ j, j < k → l.getD j 0 = l.getD k 0 → goodAt l k = false) := fun j hj e => goodAt_twice (mem_of (k := j) (by rw [List.length_take]; omega) (by rw [take_get hj, e]))
      clear hv hc0
      generalize l.getD k 0 = y at *
      have NG : Hid (goodAt l k = false → supOk e l = false) := fun h => supOk_row (rowOk_false h hlt)
      by_cases hin : 2 ≤ y ∧ y ≤ 63
      · have s3 := itoaB_size (n := y) (by omega) (by omega)
        have hd : decide (2 ≤ y ∧ y ≤ 63) = true := decide_eq_true hin
        have NT2 : Hid ((∀ j, j < k → l.getD j 0 ≠ y) → goodAt l k = true) := NT.out hin
        obtain ⟨y0, y1⟩ := hin
        clear NT NO
        go_wp2_with fail
        refine (l1In_any _ _ _ _).mono ?_
        rintro x wr' ⟨rfl, rfl⟩
        rw [hd]
        clear hd
        go_wp2
        go_loopw [8] (fun j wq => ∃ m : Nat, m ≤ k ∧ j = .int .i64 m ∧ Hid (∀ i, i < m → l.getD i 0 ≠ y) ∧ ∃ n, wq = wr'.drewN n) (fun j _ => k - (intOf j).toNat)
        case atStart => exact ⟨0, Nat.zero_le _, rfl, fun j hj => absurd hj (by omega), 0, rfl⟩
        case round =>
          obtain ⟨m, hm, rfl, hn, n, rfl⟩ := hrel
          by_cases hmk : m < k
          · have hcm := hvk.out m hmk
            have hml : m < l.length := by omega
            have HE : Hid (l.getD m 0 = y → goodAt l k = false) := YT.out m hmk
            have HN : Hid (l.getD m 0 ≠ y → ∀ i, i < m + 1 → l.getD i 0 ≠ y) := fun h => all_upto hn.out h
            generalize l.getD m 0 = z at *
            clear hvk NT2 YT HS
            go_wp2
            go_region
            all_goals go_wp2
            · have he : z = y := by simpa using ‹(z == y) = true›
              have G := NG.out (HE.out he)
              exact bodyPost_ret (v := .tuple #[.string ⟨#[]⟩, .bool false]) (by simp [results, Try.results48, go_sem]) rfl ⟨by rw [supT_no G, G], below_drewN hb _⟩
            · have he : z ≠ y := by simpa using ‹(z == y) = false›
              go_roundw
              case rel => exact ⟨m + 1, by omega, by go_num, HN.out he, _, rfl⟩
              case measure => simp [intOf]; omega
          · obtain rfl : m = k := by omega
            have G : Hid (rowOk l (m + 1) = true) := (by rw [rowOk_succ, hr.out, NT2.out hn.out]; rfl : rowOk l (m + 1) = true)
            clear hvk NT2 YT hn hr
            go_wp2_with fail
            refine (l2Int_any y _ (by omega) (by omega)).mono ?_
            rintro x w5 ⟨rfl, hb5⟩
            have e5 : (⟨(Lib.itoa y).toArray⟩ : ByteArray) = itoaB y := rfl
            rw [e5]
            clear e5
            go_wp2
            exact ⟨⟨m + 1, by omega, by go_num, by rw [HS.out]; rfl, G, bel_after (below_drewN hb _) hb5⟩, by simp [intOf]; omega⟩
      · have G : Hid (supOk e l = false) := NG.out (NO.out hin)
        have hd : decide (2 ≤ y ∧ y ≤ 63) = false := decide_eq_false hin
        clear NT NO hin hvk YT NG
        go_wp2_with fail
        refine (l1In_any _ _ _ _).mono ?_
        rintro x wr' ⟨rfl, rfl⟩
        rw [hd]
        clear hd
        go_wp2
        exact bodyPost_ret (v := .tuple #[.string ⟨#[]⟩, .bool false]) (by simp [results, Try.results48, go_sem]) rfl ⟨by rw [supT_no G.out, G.out], hb⟩
    · obtain rfl : k = l.length := by omega
      have G := supOk_yes he0 he1 (by omega) hr.out
      have HT : Hid (supT e l = supS e l ++ itoaB (crcS (supS e l))) := supT_yes G
      have HG : Hid (supOk e l = true) := G
      have e7 : l.take l.length = l := List.take_of_length_le (Nat.le_refl _)
      rw [e7] at sz ⊢
      clear e7 G hv
      have e8 : supL (supHead e l.length) l = supS e l := rfl
      rw [e8] at sz ⊢
      clear e8
      obtain ⟨c1, c2⟩ := crcS_range (supS e l)
      have si := itoaB_size (n := crcS (supS e l)) (by omega) (by omega)
      go_wp2_with fail
      refine (crc_any _ _ (by omega)).mono ?_
      rintro x w5 ⟨rfl, rfl⟩
      go_wp2_with fail
      refine (l2Int_any _ _ (by omega) (by omega)).mono ?_
      rintro x w6 ⟨rfl, hb6⟩
      have e9 : (⟨(Lib.itoa (crcS (supS e l))).toArray⟩ : ByteArray) = itoaB (crcS (supS e l)) := rfl
      rw [e9]
      clear e9
      go_wp2
      exact bodyPost_ret (v := .tuple #[.string (supS e l ++ itoaB (crcS (supS e l))), .bool true]) (by simp [results, Try.results48, go_sem]) rfl ⟨by rw [HT.out, HG.out], bel_after hb hb6⟩

end Go.Proofs.Ytddocjmjianajaa

/- Numerals: a number's own numeral is read as the number, and a text that is read is the numeral of what it is read as. -/
namespace Go.Proofs.Ytddocjmjianajaa
open Go.RowKit

theorem dsv_snoc' (l : List UInt8) (b : UInt8) : dsv (l ++ [b]) = dsv l * 10 + (b.toNat - 48) := by
  unfold dsv
  rw [List.foldl_append]
  rfl
theorem dig_nat (d : Nat) (h : d < 10) : (UInt8.ofNat (48 + d)).toNat = 48 + d := by
  rw [UInt8.toNat_ofNat']
  omega
theorem isDig_of (d : Nat) (h : d < 10) : isDig (UInt8.ofNat (48 + d)) = true := by
  unfold isDig
  rw [dig_nat d h]
  exact decide_eq_true (by omega)
theorem dec_facts : ∀ (k m : Nat), m ≤ k → (Lib.decDigits m).all isDig = true ∧ dsv (Lib.decDigits m) = m ∧ 1 ≤ (Lib.decDigits m).length ∧ ((Lib.decDigits m).head? = some 48 → m = 0)
  | k, m, hk => by
    rw [dec_step]
    unfold pre10
    by_cases h : m / 10 = 0
    · rw [if_pos h, List.nil_append]
      have hm : m % 10 = m := by omega
      refine ⟨by rw [List.all_cons, List.all_nil, Bool.and_true]; exact isDig_of _ (Nat.mod_lt m (by omega)), ?_, by simp, fun e => ?_⟩
      · show 0 * 10 + _ = m
        rw [dig_nat _ (Nat.mod_lt m (by omega))]
        omega
      · simp only [List.head?_cons, Option.some.injEq] at e
        have := congrArg UInt8.toNat e
        rw [dig_nat _ (Nat.mod_lt m (by omega))] at this
        change _ = 48 at this
        omega
    · rw [if_neg h]
      cases k with
      | zero => omega
      | succ k =>
        obtain ⟨i1, i2, i3, i4⟩ := dec_facts k (m / 10) (by omega)
        refine ⟨?_, ?_, by simp, fun e => ?_⟩
        · rw [List.all_append, i1, List.all_cons, List.all_nil, Bool.and_true, Bool.true_and]
          exact isDig_of _ (Nat.mod_lt m (by omega))
        · rw [dsv_snoc', i2, dig_nat _ (Nat.mod_lt m (by omega))]
          omega
        · rw [List.head?_append] at e
          cases hh : (Lib.decDigits (m / 10)).head? with
          | none =>
            rw [List.head?_eq_none_iff] at hh
            rw [hh] at i3
            simp at i3
          | some b =>
            rw [hh] at e
            simp only [Option.some_or] at e
            exact absurd (i4 (by rw [hh]; exact e)) h

theorem head_dig {l : List UInt8} (h : l.all isDig = true) : (l.head? == some 45) = false := by
  cases l with
  | nil => rfl
  | cons b r =>
    simp only [List.all_cons, Bool.and_eq_true] at h
    have hb := h.1
    unfold isDig at hb
    have hb' := of_decide_eq_true hb
    simp
    intro e
    rw [e] at hb'
    change 48 ≤ 45 ∧ _ at hb'
    omega

/-- A number's own numeral is a number of as many digits, and the number that is read is the number. -/
theorem num_itoa (v : Int) (most : Nat) : numIs (itoaB v) most = decide ((bodyN (itoaB v)).length ≤ most) ∧ (numIs (itoaB v) most = true → numV (itoaB v) most = v) := by
  have E : (itoaB v).data.toList = Lib.itoa v := by unfold itoaB; simp
  by_cases hv : v < 0
  · have EL : Lib.itoa v = 45 :: Lib.decDigits v.natAbs := by unfold Lib.itoa; rw [if_pos hv]
    obtain ⟨i1, i2, i3, i4⟩ := dec_facts _ v.natAbs (Nat.le_refl _)
    have hn : negB (itoaB v) = true := by unfold negB; rw [E, EL]; rfl
    have ho : offN (itoaB v) = 1 := by unfold offN; rw [hn]; rfl
    have hb : bodyN (itoaB v) = Lib.decDigits v.natAbs := by unfold bodyN; rw [ho, E, EL]; rfl
    have hh : ((Lib.decDigits v.natAbs).head? == some 48) = false := by
      rw [Bool.eq_false_iff]
      intro e
      have := i4 (by simpa using e)
      omega
    have hi : numIs (itoaB v) most = decide ((bodyN (itoaB v)).length ≤ most) := by
      unfold numIs
      rw [hb, i1, hh]
      simp [i3]
    refine ⟨hi, fun h => ?_⟩
    rw [numV_is h, if_pos hn, hb, i2]
    omega
  · have EL : Lib.itoa v = Lib.decDigits v.toNat := by unfold Lib.itoa; rw [if_neg hv]
    obtain ⟨i1, i2, i3, i4⟩ := dec_facts _ v.toNat (Nat.le_refl _)
    have hn : negB (itoaB v) = false := by unfold negB; rw [E, EL]; exact head_dig i1
    have ho : offN (itoaB v) = 0 := by unfold offN; rw [hn]; rfl
    have hb : bodyN (itoaB v) = Lib.decDigits v.toNat := by unfold bodyN; rw [ho, E, EL]; rfl
    have hz : ((Lib.decDigits v.toNat).head? == some 48 && (false || decide (1 < (itoaB v).size))) = false := by
      rw [Bool.eq_false_iff]
      intro e
      rw [Bool.and_eq_true] at e
      have h0 := i4 (by simpa using e.1)
      have h1 : (itoaB v).size = 1 := by
        show (itoaB v).data.size = 1
        rw [← Array.length_toList, E, EL, h0, Lib.decDigits, dif_pos (by omega)]
        rfl
      rw [h1] at e
      simp at e
    have hi : numIs (itoaB v) most = decide ((bodyN (itoaB v)).length ≤ most) := by
      unfold numIs
      rw [hb, i1, hn, hz]
      simp [i3]
    refine ⟨hi, fun h => ?_⟩
    rw [numV_is h, if_neg (by rw [hn]; simp), hb, i2]
    omega

theorem dsv_pos : ∀ (l : List UInt8), l.all isDig = true → l ≠ [] → l.head? ≠ some 48 → dsv l ≠ 0 := by
  intro l
  cases l with
  | nil => intro _ h; exact absurd rfl h
  | cons b r =>
    intro ha _ hh
    simp only [List.all_cons, Bool.and_eq_true] at ha
    have hb := ha.1
    unfold isDig at hb
    have hb' := of_decide_eq_true hb
    have hne : b.toNat ≠ 48 := fun e => hh (by rw [List.head?_cons]; exact congrArg some (UInt8.toNat_inj.1 e))
    have key : ∀ (r : List UInt8) (c : Nat), c ≠ 0 → r.foldl (fun n b => n * 10 + (b.toNat - 48)) c ≠ 0 := by
      intro r
      induction r with
      | nil => intro c h; exact h
      | cons x t ih => intro c h; exact ih (c * 10 + (x.toNat - 48)) (by omega)
    unfold dsv
    rw [List.foldl_cons]
    exact key r (0 * 10 + (b.toNat - 48)) (by omega)
theorem dec_dsv : ∀ (n : Nat) (l : List UInt8), l.length = n + 1 → l.all isDig = true → (l.head? = some 48 → n = 0) → Lib.decDigits (dsv l) = l
  | n, l, hl, ha, hh => by
    have hne : l ≠ [] := fun e => by rw [e] at hl; simp at hl
    have hsp := List.dropLast_concat_getLast hne
    obtain ⟨r, b, rfl⟩ : ∃ r b, l = r ++ [b] := ⟨_, _, hsp.symm⟩
    rw [List.all_append, Bool.and_eq_true] at ha
    have hb := ha.2
    simp only [List.all_cons, List.all_nil, Bool.and_true] at hb
    unfold isDig at hb
    have hb' := of_decide_eq_true hb
    rw [dsv_snoc', dec_step]
    have e1 : (dsv r * 10 + (b.toNat - 48)) / 10 = dsv r := by omega
    have e2 : UInt8.ofNat (48 + (dsv r * 10 + (b.toNat - 48)) % 10) = b := by
      apply UInt8.toNat_inj.1
      rw [dig_nat _ (by omega)]
      omega
    rw [e1, e2]
    congr 1
    unfold pre10
    cases n with
    | zero =>
      have : r = [] := by
        rw [List.length_append] at hl
        exact List.length_eq_zero_iff.1 (by simpa using hl)
      subst this
      rfl
    | succ n =>
      have hr : r.length = n + 1 := by rw [List.length_append] at hl; simpa using hl
      have hrn : r ≠ [] := fun e => by rw [e] at hr; simp at hr
      have hrh : r.head? ≠ some 48 := fun e => by
        have := hh (by rw [List.head?_append, e]; rfl)
        omega
      rw [if_neg (dsv_pos r ha.1 hrn hrh)]
      exact dec_dsv n r hr ha.1 (fun e => absurd e hrh)

/-- A text that is read is the numeral of what it is read as. -/
theorem itoa_num {s : ByteArray} {most : Nat} (h : numIs s most = true) : itoaB (numV s most) = s := by
  have hV := numV_is h
  unfold numIs at h
  simp only [Bool.and_eq_true, decide_eq_true_eq] at h
  obtain ⟨⟨⟨h1, h2⟩, h3⟩, h4⟩ := h
  have hlen : ∃ n, (bodyN s).length = n + 1 := ⟨(bodyN s).length - 1, by omega⟩
  obtain ⟨n, hn⟩ := hlen
  cases hneg : negB s
  · rw [hneg] at hV h4
    have ho : offN s = 0 := by unfold offN; rw [hneg]; rfl
    have hb : bodyN s = s.data.toList := by unfold bodyN; rw [ho]; rfl
    have hz : (bodyN s).head? = some 48 → n = 0 := fun e => by
      rw [e] at h4
      have : s.size = n + 1 := by
        have := body_len s
        rw [ho] at this
        omega
      simp at h4
      omega
    have hd := dec_dsv n _ hn h3 hz
    rw [hV, if_neg (by simp)]
    unfold itoaB Lib.itoa
    rw [if_neg (by omega), Int.toNat_natCast, hd, hb]
  · rw [hneg] at hV h4
    have ho : offN s = 1 := by unfold offN; rw [hneg]; rfl
    have hz : (bodyN s).head? = some 48 → n = 0 := fun e => by
      rw [e] at h4
      simp at h4
    have hz2 : (bodyN s).head? ≠ some 48 := fun e => by
      rw [e] at h4
      simp at h4
    have hd := dec_dsv n _ hn h3 hz
    have hp := dsv_pos _ h3 (fun e => by rw [e] at hn; simp at hn) hz2
    have hs : s.data.toList = 45 :: bodyN s := by
      unfold bodyN
      rw [ho]
      unfold negB at hneg
      cases hl : s.data.toList with
      | nil => rw [hl] at hneg; simp at hneg
      | cons x r =>
        rw [hl] at hneg
        simp at hneg
        rw [hneg]
        rfl
    rw [hV, if_pos rfl]
    unfold itoaB Lib.itoa
    rw [if_pos (by omega), Int.natAbs_neg, Int.natAbs_natCast, hd, ← hs]

theorem decFrom_dsv : ∀ (l : List UInt8) (c : Nat), l.all isDig = true → Lib.decFrom c l = some (l.foldl (fun n b => n * 10 + (b.toNat - 48)) c)
  | [], _, _ => rfl
  | b :: r, c, h => by
    simp only [List.all_cons, Bool.and_eq_true] at h
    have hb := h.1
    unfold isDig at hb
    have hb' := of_decide_eq_true hb
    unfold Lib.decFrom Lib.digitVal
    rw [if_pos hb']
    exact decFrom_dsv r _ h.2
/-- What the library makes of such a text. -/
theorem parse_num {s : ByteArray} {most : Nat} (hm : most ≤ 17) (h : numIs s most = true) : Lib.parseIntB 64 s.data.toList = .ok (numV s most) := by
  have hV := numV_is h
  unfold numIs at h
  simp only [Bool.and_eq_true, decide_eq_true_eq] at h
  obtain ⟨⟨⟨h1, h2⟩, h3⟩, h4⟩ := h
  have hl := body_len s
  have hsz : s.data.toList.length = s.size := Array.length_toList
  have ho : offN s ≤ 1 := by unfold offN; split <;> omega
  rw [Lib.parseIntB_64, Lib.atoiAll_short _ (by omega)]
  have hd : ∀ l : List UInt8, l ≠ [] → l.all isDig = true → Lib.decNat l = some (dsv l) := fun l hne ha => by
    unfold Lib.decNat
    rw [if_neg (by cases l with | nil => exact absurd rfl hne | cons => simp)]
    exact decFrom_dsv l 0 ha
  have hne : bodyN s ≠ [] := fun e => by rw [e] at h1; simp at h1
  suffices hs : Lib.atoi s.data.toList = some (numV s most) by rw [hs]; rfl
  cases hneg : negB s
  · have ho : offN s = 0 := by unfold offN; rw [hneg]; rfl
    have hb : bodyN s = s.data.toList := by unfold bodyN; rw [ho]; rfl
    rw [hb] at h3 hne
    rw [hV, if_neg (by rw [hneg]; simp), hb]
    have h45 := head_dig h3
    cases hc : s.data.toList with
    | nil => rw [hc] at hne; exact absurd rfl hne
    | cons b r =>
      rw [hc] at h3 hne h45
      have hb3 := h3
      simp only [List.all_cons, Bool.and_eq_true] at hb3
      have hb1 := hb3.1
      unfold isDig at hb1
      have hb1' := of_decide_eq_true hb1
      have h43 : (b == 43) = false := by
        simp
        intro e
        rw [e] at hb1'
        change 48 ≤ 43 ∧ _ at hb1'
        omega
      have h45' : (b == 45) = false := by simpa using h45
      unfold Lib.atoi
      simp only [h45', h43]
      rw [hd _ hne h3]
      rfl
  · have ho : offN s = 1 := by unfold offN; rw [hneg]; rfl
    rw [hV, if_pos hneg]
    unfold negB at hneg
    cases hc : s.data.toList with
    | nil => rw [hc] at hneg; simp at hneg
    | cons b r =>
      have hb : bodyN s = r := by unfold bodyN; rw [ho, hc]; rfl
      rw [hc] at hneg
      have hb45 : b = 45 := by simpa using hneg
      rw [hb] at h3 hne ⊢
      subst hb45
      unfold Lib.atoi
      simp only [beq_self_eq_true, if_true]
      rw [hd _ hne h3]
      rfl
theorem trim_body (s : ByteArray) : Lib.trimPrefix s.data.toList [45] = bodyN s := by
  unfold Lib.trimPrefix Lib.hasPrefix bodyN offN negB
  cases s.data.toList with
  | nil => rfl
  | cons b r =>
    by_cases hb : b = 45
    · subst hb
      rfl
    · have h1 : List.isPrefixOf [45] (b :: r) = false := by
        simp [List.isPrefixOf]
        exact fun e => hb e.symm
      have h2 : (some b == some (45 : UInt8)) = false := by simpa using hb
      rw [h1, List.head?_cons, h2]
      rfl

/-- Where the first ; stands. -/
theorem index_semi : ∀ (l : List UInt8), Lib.indexByte l 59 = match l.findIdx? (· == 59) with | none => -1 | some i => (i : Int) := by
  intro l
  induction l with
  | nil => rfl
  | cons b r ih =>
    unfold Lib.indexByte
    rw [List.findIdx?_cons, ih]
    by_cases hb : (b == 59) = true
    · rw [if_pos hb, if_pos hb]
      rfl
    · rw [if_neg hb, if_neg hb]
      cases hf : r.findIdx? (· == 59) with
      | none => rfl
      | some i =>
        simp only [Option.map_some]
        rw [if_neg (by simp)]
        show (i : Int) + 1 = ((i + 1 : Nat) : Int)
        omega

end Go.Proofs.Ytddocjmjianajaa

/- Superblocks read, in plain words. -/
namespace Go.Proofs.Ytddocjmjianajaa
open Go.RowKit

/-- So many numbers, each with a ; behind it: they, and the rest. -/
def fieldsN : Nat → List UInt8 → Option (List Int × List UInt8)
  | 0, l => some ([], l)
  | k + 1, l => match cutN l 9 with
    | none => none
    | some (x, r) => match fieldsN k r with
      | none => none
      | some (xs, q) => some (x :: xs, q)
/-- The epoch and the sectors of a superblock's text, if it is one. -/
def supR (s : ByteArray) : Option (Int × List Int) :=
  if s.data.toList.head? = some 83 then
    match cutN (s.data.toList.drop 1) 9 with
    | none => none
    | some (e, r1) => match cutN r1 9 with
      | none => none
      | some (n, r2) =>
        if 0 ≤ n ∧ n ≤ 30 then
          match fieldsN n.toNat r2 with
          | none => none
          | some (xs, _) => if supOk e xs = true ∧ supT e xs = s then some (e, xs) else none
        else none
  else none

theorem fieldsN_len : ∀ (k : Nat) (l q : List UInt8) (xs : List Int), fieldsN k l = some (xs, q) → xs.length = k ∧ q.length ≤ l.length
  | 0, l, q, xs, h => by
    simp only [fieldsN, Option.some.injEq, Prod.mk.injEq] at h
    obtain ⟨rfl, rfl⟩ := h
    simp
  | k + 1, l, q, xs, h => by
    unfold fieldsN at h
    cases hc : cutN l 9 with
    | none => rw [hc] at h; simp at h
    | some x =>
      obtain ⟨v, r⟩ := x
      rw [hc] at h
      simp only at h
      cases hf : fieldsN k r with
      | none => rw [hf] at h; simp at h
      | some y =>
        obtain ⟨ys, q'⟩ := y
        rw [hf] at h
        simp only [Option.some.injEq, Prod.mk.injEq] at h
        obtain ⟨rfl, rfl⟩ := h
        obtain ⟨h1, h2⟩ := fieldsN_len k r q' ys hf
        obtain ⟨_, _, h3⟩ := cutN_range (by omega) hc
        simp
        omega
/-- One more. -/
theorem fieldsN_snoc : ∀ (k : Nat) (l q : List UInt8) (xs : List Int), fieldsN k l = some (xs, q) → fieldsN (k + 1) l = match cutN q 9 with | none => none | some (x, r) => some (xs ++ [x], r)
  | 0, l, q, xs, h => by
    simp only [fieldsN, Option.some.injEq, Prod.mk.injEq] at h
    obtain ⟨rfl, rfl⟩ := h
    unfold fieldsN
    cases cutN l 9 with
    | none => rfl
    | some x => rfl
  | k + 1, l, q, xs, h => by
    unfold fieldsN at h ⊢
    cases hc : cutN l 9 with
    | none => rw [hc] at h; simp at h
    | some x =>
      obtain ⟨v, r⟩ := x
      rw [hc] at h
      simp only at h ⊢
      cases hf : fieldsN k r with
      | none => rw [hf] at h; simp at h
      | some y =>
        obtain ⟨ys, q'⟩ := y
        rw [hf] at h
        simp only [Option.some.injEq, Prod.mk.injEq] at h
        obtain ⟨rfl, rfl⟩ := h
        rw [fieldsN_snoc k r q' ys hf]
        cases cutN q' 9 with
        | none => rfl
        | some z => rfl
theorem fieldsN_none : ∀ (k : Nat) (l : List UInt8), fieldsN k l = none → fieldsN (k + 1) l = none
  | 0, l, h => by simp [fieldsN] at h
  | k + 1, l, h => by
    unfold fieldsN at h ⊢
    cases hc : cutN l 9 with
    | none => rfl
    | some x =>
      obtain ⟨v, r⟩ := x
      rw [hc] at h
      simp only at h ⊢
      cases hf : fieldsN k r with
      | none => rw [fieldsN_none k r hf]
      | some y => rw [hf] at h; simp at h
theorem fieldsN_le {k m : Nat} {l : List UInt8} (h : fieldsN k l = none) (hk : k ≤ m) : fieldsN m l = none := by
  obtain ⟨d, rfl⟩ : ∃ d, m = k + d := ⟨m - k, by omega⟩
  clear hk
  induction d with
  | zero => exact h
  | succ d ih => exact fieldsN_none _ _ ih

/-- No ; stands in a numeral. -/
theorem itoa_semi (v : Int) : ∀ b ∈ (itoaB v).data.toList, (b == 59) = false := by
  intro b hb
  have E : (itoaB v).data.toList = Lib.itoa v := by unfold itoaB; simp
  rw [E] at hb
  have dig : ∀ m : Nat, b ∈ Lib.decDigits m → (b == 59) = false := fun m h => by
    have := List.all_eq_true.1 (dec_facts m m (Nat.le_refl _)).1 b h
    unfold isDig at this
    have h2 := of_decide_eq_true this
    simp
    intro e
    rw [e] at h2
    change _ ∧ 59 ≤ 57 at h2
    omega
  unfold Lib.itoa at hb
  split at hb
  · rcases List.mem_cons.1 hb with rfl | h
    · rfl
    · exact dig _ h
  · exact dig _ hb
theorem find_semi (l r : List UInt8) (h : ∀ b ∈ l, (b == 59) = false) : (l ++ 59 :: r).findIdx? (· == 59) = some l.length := by
  induction l with
  | nil => rfl
  | cons x t ih =>
    rw [List.cons_append, List.findIdx?_cons, if_neg (by rw [h x (List.mem_cons_self ..)]; simp), ih (fun b hb => h b (List.mem_cons_of_mem _ hb))]
    rfl
/-- A numeral with a ; behind it is cut off as its number. -/
theorem cut_itoa (v : Int) (r : List UInt8) (most : Nat) (h : (bodyN (itoaB v)).length ≤ most) : cutN ((itoaB v).data.toList ++ 59 :: r) most = some (v, r) := by
  unfold cutN
  rw [find_semi _ _ (itoa_semi v)]
  simp only
  have e1 : ((itoaB v).data.toList ++ 59 :: r).take (itoaB v).data.toList.length = (itoaB v).data.toList := List.take_left
  have e2 : ((itoaB v).data.toList ++ 59 :: r).drop ((itoaB v).data.toList.length + 1) = r := by
    rw [← List.drop_drop, List.drop_left]
    rfl
  rw [e1, e2]
  have e3 : (⟨(itoaB v).data.toList.toArray⟩ : ByteArray) = itoaB v := by apply ByteArray.ext; simp
  rw [e3]
  obtain ⟨i1, i2⟩ := num_itoa v most
  have hi : numIs (itoaB v) most = true := by rw [i1]; exact decide_eq_true h
  rw [if_pos hi, i2 hi]
theorem body_small (v : Int) (h0 : 0 ≤ v) (h1 : v ≤ 999999999) : (bodyN (itoaB v)).length ≤ 9 := by
  have E : (itoaB v).data.toList = Lib.itoa v := by unfold itoaB; simp
  have EL : Lib.itoa v = Lib.decDigits v.toNat := by unfold Lib.itoa; rw [if_neg (by omega)]
  have := dec_len 8 v.toNat (by omega)
  have hb : (bodyN (itoaB v)).length ≤ (Lib.itoa v).length := by
    unfold bodyN
    rw [E, List.length_drop]
    omega
  rw [EL] at hb
  omega
theorem supL_list (acc : ByteArray) (l : List Int) : (supL acc l).data.toList = acc.data.toList ++ (l.map fun x => (itoaB x).data.toList ++ [59]).flatten := by
  unfold supL
  induction l generalizing acc with
  | nil => simp
  | cons x t ih =>
    rw [List.foldl_cons, ih]
    have : (acc ++ itoaB x ++ semi).data.toList = acc.data.toList ++ ((itoaB x).data.toList ++ [59]) := by
      rw [ByteArray.data_append, ByteArray.data_append, Array.toList_append, Array.toList_append, List.append_assoc]
      rfl
    rw [this, List.map_cons, List.flatten_cons, List.append_assoc]
theorem fields_flat : ∀ (xs : List Int) (r : List UInt8), (∀ x ∈ xs, 0 ≤ x ∧ x ≤ 999999999) → fieldsN xs.length ((xs.map fun x => (itoaB x).data.toList ++ [59]).flatten ++ r) = some (xs, r)
  | [], r, _ => rfl
  | x :: t, r, h => by
    have hx := h x (List.mem_cons_self ..)
    show fieldsN (t.length + 1) _ = _
    unfold fieldsN
    have e : ((x :: t).map fun x => (itoaB x).data.toList ++ [59]).flatten ++ r = (itoaB x).data.toList ++ 59 :: ((t.map fun x => (itoaB x).data.toList ++ [59]).flatten ++ r) := by
      simp [List.append_assoc]
    rw [e, cut_itoa x _ 9 (body_small x hx.1 hx.2)]
    simp only
    rw [fields_flat t r (fun y hy => h y (List.mem_cons_of_mem _ hy))]
theorem supT_list {e : Int} {l : List Int} (h : supOk e l = true) : (supT e l).data.toList = 83 :: ((itoaB e).data.toList ++ 59 :: ((itoaB l.length).data.toList ++ 59 :: ((l.map fun x => (itoaB x).data.toList ++ [59]).flatten ++ (itoaB (crcS (supS e l))).data.toList))) := by
  rw [supT_yes h, ByteArray.data_append, Array.toList_append]
  unfold supS
  rw [supL_list]
  have : (supHead e l.length).data.toList = 83 :: ((itoaB e).data.toList ++ 59 :: ((itoaB l.length).data.toList ++ [59])) := by
    unfold supHead
    rw [ByteArray.data_append, ByteArray.data_append, ByteArray.data_append, ByteArray.data_append, Array.toList_append, Array.toList_append, Array.toList_append, Array.toList_append]
    show [83] ++ _ ++ [59] ++ _ ++ [59] = _
    simp [List.append_assoc]
  rw [this]
  simp [List.append_assoc]
theorem supOk_parts {e : Int} {l : List Int} (h : supOk e l = true) : 1 ≤ e ∧ e ≤ 999999999 ∧ l.length ≤ 30 ∧ rowOk l l.length = true := by
  unfold supOk at h
  simp only [Bool.and_eq_true, decide_eq_true_eq] at h
  exact ⟨h.1.1.1, h.1.1.2, h.1.2, h.2⟩
theorem supOk_mem {e : Int} {l : List Int} (h : supOk e l = true) : ∀ x ∈ l, 2 ≤ x ∧ x ≤ 63 := by
  intro x hx
  obtain ⟨i, hi, rfl⟩ := List.getElem_of_mem hx
  have := goodAt_range (rowOk_mem (supOk_parts h).2.2.2 i hi)
  simpa [hi] using this
/-- A superblock's text read: what it was made of. -/
theorem sup_cuts {e : Int} {l : List Int} (h : supOk e l = true) :
    ∃ r1 r2 q, (supT e l).data.toList.head? = some 83 ∧ cutN ((supT e l).data.toList.drop 1) 9 = some (e, r1) ∧ cutN r1 9 = some ((l.length : Int), r2) ∧ fieldsN l.length r2 = some (l, q) := by
  obtain ⟨h1, h2, h3, _⟩ := supOk_parts h
  rw [supT_list h]
  refine ⟨_, _, _, rfl, cut_itoa e _ 9 (body_small e (by omega) h2), cut_itoa _ _ 9 (body_small _ (by omega) (by omega)), fields_flat l _ (fun x hx => ?_)⟩
  have := supOk_mem h x hx
  omega
theorem supR_supT {e : Int} {l : List Int} (h : supOk e l = true) : supR (supT e l) = some (e, l) := by
  obtain ⟨r1, r2, q, h0, h1, h2, h3⟩ := sup_cuts h
  obtain ⟨_, _, hl, _⟩ := supOk_parts h
  unfold supR
  rw [if_pos h0, h1]
  simp only
  rw [h2]
  simp only
  rw [if_pos (by omega), Int.toNat_natCast, h3]
  simp only
  rw [if_pos ⟨h, trivial⟩]
theorem supR_is {s : ByteArray} {e : Int} {l : List Int} (h : supR s = some (e, l)) : supOk e l = true ∧ supT e l = s := by
  unfold supR at h
  split at h
  · cases h1 : cutN (s.data.toList.drop 1) 9 with
    | none => rw [h1] at h; simp at h
    | some x1 =>
      obtain ⟨e', r1⟩ := x1
      rw [h1] at h
      simp only at h
      cases h2 : cutN r1 9 with
      | none => rw [h2] at h; simp at h
      | some x2 =>
        obtain ⟨n, r2⟩ := x2
        rw [h2] at h
        simp only at h
        split at h
        · cases h3 : fieldsN n.toNat r2 with
          | none => rw [h3] at h; simp at h
          | some x3 =>
            obtain ⟨xs, q⟩ := x3
            rw [h3] at h
            simp only at h
            split at h
            · rename_i hh
              simp only [Option.some.injEq, Prod.mk.injEq] at h
              obtain ⟨rfl, rfl⟩ := h
              exact hh
            · simp at h
        · simp at h
  · simp at h
/-- A text is a superblock's just where it is the text of some. -/
theorem supR_iff {s : ByteArray} {e : Int} {l : List Int} : supR s = some (e, l) ↔ supOk e l = true ∧ supT e l = s :=
  ⟨supR_is, fun ⟨h, k⟩ => k ▸ supR_supT h⟩

end Go.Proofs.Ytddocjmjianajaa

/- l3Form of the model: a superblock's text read. -/
namespace Go.Proofs.Ytddocjmjianajaa
open Go.RowKit

/-- Epoch and sectors, or 0 and none. -/
def orNone (x : Option (Int × List Int)) : Int × List Int := x.getD (0, [])

theorem str_ne'' {s t : ByteArray} (h : s ≠ t) : (!s.toList == t.toList) = true := by
  simp
  intro e
  rw [ByteArray.toList_eq, ByteArray.toList_eq] at e
  exact h (ByteArray.ext (Array.toList_inj.1 e))
theorem fieldsN_cut (s : ByteArray) : ∀ (k a : Nat) (xs : List Int) (q : List UInt8), fieldsN k (s.data.toList.drop a) = some (xs, q) → a ≤ s.size → ∃ p, q = s.data.toList.drop p ∧ p ≤ s.size
  | 0, a, xs, q, h, ha => by
    simp only [fieldsN, Option.some.injEq, Prod.mk.injEq] at h
    exact ⟨a, h.2.symm, ha⟩
  | k + 1, a, xs, q, h, ha => by
    unfold fieldsN at h
    rw [cut_field] at h
    cases hf : fieldN s a 9 with
    | none => rw [hf] at h; simp at h
    | some x =>
      obtain ⟨v, p⟩ := x
      rw [hf] at h
      simp only [Option.map_some] at h
      cases hk : fieldsN k (s.data.toList.drop p) with
      | none => rw [hk] at h; simp at h
      | some y =>
        obtain ⟨ys, q'⟩ := y
        rw [hk] at h
        simp only [Option.some.injEq, Prod.mk.injEq] at h
        obtain ⟨_, rfl⟩ := h
        exact fieldsN_cut s k p ys q' hk (field_le hf).1

theorem supR_1 {s : ByteArray} (h : fieldN s 1 9 = none) : supR s = none := by
  unfold supR
  rw [cut_field s 1 9, h]
  simp
theorem supR_2 {s : ByteArray} {n : Int} {a : Nat} (h : fieldN s 1 9 = some (n, a)) (h2 : fieldN s a 9 = none) : supR s = none := by
  unfold supR
  rw [cut_field s 1 9, h]
  simp only [Option.map_some]
  rw [cut_field s a 9, h2]
  simp
theorem supR_3 {s : ByteArray} {e n : Int} {a b : Nat} (h0 : s.data.toList.head? = some 83) (h : fieldN s 1 9 = some (e, a)) (h2 : fieldN s a 9 = some (n, b)) :
    supR s = if 0 ≤ n ∧ n ≤ 30 then (match fieldsN n.toNat (s.data.toList.drop b) with | none => none | some (xs, _) => if supOk e xs = true ∧ supT e xs = s then some (e, xs) else none) else none := by
  unfold supR
  rw [if_pos h0, cut_field s 1 9, h]
  simp only [Option.map_some]
  rw [cut_field s a 9, h2]
  rfl
theorem supR_head {s : ByteArray} (h : s.data.toList.head? ≠ some 83) : supR s = none := by unfold supR; rw [if_neg h]

set_option maxRecDepth 100000 in
set_option maxHeartbeats 3200000 in
theorem l3Form_any (s : ByteArray) (w : World) (hs : s.size ≤ 1000000000000) :
    Calls Try.prog 44 #[.string s] w fun x w' => (∃ v, x = .returned (.tuple #[.int .i64 (orNone (supR s)).1, v]) ∧ IR w' v (orNone (supR s)).2) ∧ Below w.heap.size w w' := by
  have hb0 := bel_one w (.cells #[] 2)
  have hir0 : ∀ w', Below (w.alloc (.cells #[] 2)).heap.size (w.alloc (.cells #[] 2)) w' → IR w' (.slice (some ⟨w.heap.size, 0, none⟩) 0 0) [] := fun w' _ => ⟨_, _, rfl, Nat.le_refl _, fun i hi => by simp at hi⟩
  have NO : ∀ w', Below (w.alloc (.cells #[] 2)).heap.size (w.alloc (.cells #[] 2)) w' → supR s = none → ((∃ v, Ending.returned (.tuple #[.int .i64 0, .slice (some ⟨w.heap.size, 0, none⟩) 0 0]) = .returned (.tuple #[.int .i64 (orNone (supR s)).1, v]) ∧ IR w' v (orNone (supR s)).2) ∧ Below w.heap.size w w') := fun w' hb h => by
    rw [h]
    exact ⟨⟨_, rfl, hir0 w' hb⟩, bel_after hb0 hb⟩
  have NO' : Hid (∀ w', Below (w.alloc (.cells #[] 2)).heap.size (w.alloc (.cells #[] 2)) w' → supR s = none → ((∃ v, Ending.returned (.tuple #[.int .i64 0, .slice (some ⟨w.heap.size, 0, none⟩) 0 0]) = .returned (.tuple #[.int .i64 (orNone (supR s)).1, v]) ∧ IR w' v (orNone (supR s)).2) ∧ Below w.heap.size w w')) := NO
  clear NO hir0
  by_cases h0 : s = ⟨#[]⟩
  · subst h0
    go_enter Try.func44, Try.ntmps44
    go_wp2
    exact bodyPost_ret (v := .tuple #[.int .i64 0, .slice (some ⟨w.heap.size, 0, none⟩) 0 0]) (by simp [results, Try.results44, go_sem]) rfl (NO'.out _ (Below.refl _ _) rfl)
  have hp : 0 < s.size := by have := size_pos h0; omega
  have q1 := str_nil h0
  have q2 : s.toList.isEmpty = false := by simpa using q1
  clear h0
  by_cases h83 : s[0].toNat = 83
  · have h83i : (s[0].toNat : Int) = 83 := by omega
    have HD : Hid (s.data.toList.head? = some 83) := (by rw [head_is s hp]; exact congrArg some (UInt8.toNat_inj.1 h83) : s.data.toList.head? = some 83)
    have F1 := fun w => l2Field_any s 1 9 w hs hp (by omega)
    cases h1 : fieldN s 1 9 with
    | none =>
      obtain ⟨e1, e2⟩ := fieldV_none h1
      rw [e1, e2] at F1
      have G : Hid (supR s = none) := supR_1 h1
      clear h1 e1 e2
      go_enter Try.func44, Try.ntmps44
      go_wp2_with (go_at_call 50; refine (F1 _).mono ?_; rintro x w' ⟨rfl, rfl⟩)
      exact bodyPost_ret (v := .tuple #[.int .i64 0, .slice (some ⟨w.heap.size, 0, none⟩) 0 0]) (by simp [results, Try.results44, go_sem]) rfl (NO'.out _ (Below.refl _ _) G.out)
    | some x1 =>
      obtain ⟨e, a⟩ := x1
      obtain ⟨e1, e2⟩ := fieldV_some h1
      obtain ⟨l1, l1'⟩ := field_le h1
      obtain ⟨r1, r2⟩ := field_range (by omega) h1
      have F2 := fun w => l2Field_any s a 9 w hs l1 (by omega)
      rw [e1, e2] at F1
      clear e1 e2
      go_enter Try.func44, Try.ntmps44
      go_wp2_with fail
      refine (F1 _).mono ?_
      rintro x w1 ⟨rfl, rfl⟩
      clear F1
      cases h2 : fieldN s a 9 with
      | none =>
        obtain ⟨e1, e2⟩ := fieldV_none h2
        rw [e1, e2] at F2
        have G : Hid (supR s = none) := supR_2 h1 h2
        clear h1 h2 e1 e2
        go_wp2_with (go_at_call 50; refine (F2 _).mono ?_; rintro x w' ⟨rfl, rfl⟩)
        exact bodyPost_ret (v := .tuple #[.int .i64 0, .slice (some ⟨w.heap.size, 0, none⟩) 0 0]) (by simp [results, Try.results44, go_sem]) rfl (NO'.out _ (Below.refl _ _) G.out)
      | some x2 =>
        obtain ⟨n, b⟩ := x2
        obtain ⟨e1, e2⟩ := fieldV_some h2
        obtain ⟨l2, l2'⟩ := field_le h2
        obtain ⟨r3, r4⟩ := field_range (by omega) h2
        rw [e1, e2] at F2
        have HS : Hid (supR s = if 0 ≤ n ∧ n ≤ 30 then (match fieldsN n.toNat (s.data.toList.drop b) with | none => none | some (xs, _) => if supOk e xs = true ∧ supT e xs = s then some (e, xs) else none) else none) := supR_3 HD.out h1 h2
        clear e1 e2 h1 h2
        go_wp2_with fail
        refine (F2 _).mono ?_
        rintro x w2 ⟨rfl, rfl⟩
        clear F2
        have hbi : ¬ (b : Int) < 0 := by omega
        by_cases hn : 0 ≤ n ∧ n ≤ 30
        · obtain ⟨m0, rfl⟩ := Int.eq_ofNat_of_zero_le hn.1
          have hd : decide (0 ≤ (m0 : Int) ∧ (m0 : Int) ≤ 30) = true := decide_eq_true hn
          rw [if_pos hn, Int.toNat_natCast] at HS
          obtain ⟨_, n1⟩ := hn
          have hb1 := bel_one (w.alloc (.cells #[] 2)) (.cells #[] 2)
          have ho0 : ((w.alloc (.cells #[] 2)).alloc (.cells #[] 2)).ownsRow (w.alloc (.cells #[] 2)).heap.size 2 1 (.slice (some ⟨w.heap.size + 1, 0, none⟩) 0 0) 0 [] := by
            have h := own_none (w.alloc (.cells #[] 2)) (w.alloc (.cells #[] 2)).heap.size 2 1 (Nat.le_refl _)
            simp only [World.size_alloc] at h ⊢
            exact h
          go_wp2_with fail
          refine (l1In_any _ _ _ _).mono ?_
          rintro x w3 ⟨rfl, rfl⟩
          rw [hd]
          clear hd
          go_wp2
          go_loopw [6, 7, 8] (fun av nv lv wr => ∃ (k p : Nat) (xs : List Int) (v0 : Value), k ≤ m0 ∧ p ≤ s.size ∧ av = .int .i64 p ∧ nv = .int .i64 ((m0 : Int) - k) ∧ xs.length = k ∧ v0 = lv ∧ wr.ownsRow (w.alloc (.cells #[] 2)).heap.size 2 1 v0 k (icells xs) ∧ Hid (fieldsN k (s.data.toList.drop b) = some (xs, s.data.toList.drop p)) ∧ Below (w.alloc (.cells #[] 2)).heap.size (w.alloc (.cells #[] 2)) wr) (fun _ nv _ _ => (intOf nv).toNat)
          case atStart => exact ⟨0, b, [], _, Nat.zero_le _, l2, rfl, by simp, rfl, rfl, ho0, rfl, hb1⟩
          case round =>
            obtain ⟨k, p, xs, lv, hk, hp', rfl, rfl, hxl, rfl, hown, hf, hb⟩ := hrel
            by_cases hlt : k < m0
            · have FP := fun w => l2Field_any s p 9 w hs hp' (by omega)
              have hki : (0 : Int) < (m0 : Int) - k := by omega
              have SN := fieldsN_snoc k _ _ _ hf.out
              rw [cut_field s p 9] at SN
              cases hpf : fieldN s p 9 with
              | none =>
                obtain ⟨e1, e2⟩ := fieldV_none hpf
                rw [e1, e2] at FP
                rw [hpf] at SN
                have G : Hid (supR s = none) := (by rw [HS.out, fieldsN_le (k := k + 1) SN (by omega)] : supR s = none)
                clear SN hpf e1 e2 hf HS
                go_wp2_with (go_at_call 50; refine (FP _).mono ?_; rintro x w' ⟨rfl, rfl⟩)
                exact bodyPost_ret (v := .tuple #[.int .i64 0, .slice (some ⟨w.heap.size, 0, none⟩) 0 0]) (by simp [results, Try.results44, go_sem]) rfl (NO'.out _ hb G.out)
              | some x3 =>
                obtain ⟨y, p2⟩ := x3
                obtain ⟨e1, e2⟩ := fieldV_some hpf
                obtain ⟨l3, l3'⟩ := field_le hpf
                rw [e1, e2] at FP
                rw [hpf] at SN
                have HF : Hid (fieldsN (k + 1) (s.data.toList.drop b) = some (xs ++ [y], s.data.toList.drop p2)) := SN
                clear SN hpf e1 e2 hf
                have hc : ∀ W : World, (W.alloc (.cells #[.int .i64 y] 2)).cell? ⟨W.heap.size, 0, none⟩ = some (.int .i64 y) := fun W => by simp
                have hown2 := own_later hown (bel_one wr (.cells #[.int .i64 y] 2))
                have hb2 := bel_after hb (bel_one wr (.cells #[.int .i64 y] 2))
                have hsz := hb.size
                have hp2i : ¬ (p2 : Int) < 0 := by omega
                go_wp2_with (first
                  | (go_at_call 50; refine (FP _).mono ?_; rintro x w' ⟨rfl, rfl⟩)
                  | (at_builtin; refine app_int _ rfl _ _ rfl _ _ k (icells xs) rfl hown2 _ 1 y rfl (hc _) (by omega) (Nat.le_trans hsz (by simp)) ?_; intro v4 w4 hown4 hg4; have hb4 := own_grown hb2 hown2 hg4 (Nat.le_trans hsz (by simp))))
                have ei : icells (xs ++ [y]) = icells xs ++ [.int .i64 y] := by simp [icells]
                exact ⟨⟨k + 1, p2, xs ++ [y], _, by omega, l3, rfl, congrArg (Value.int .i64) (by omega), by simp [hxl], rfl, by rw [ei]; exact hown4, HF, hb4⟩, by simp [intOf]; omega⟩
            · obtain rfl : k = m0 := by omega
              have hki : ¬ (0 : Int) < (k : Int) - k := by omega
              have hown' : wr.ownsRow (w.alloc (.cells #[] 2)).heap.size 2 1 lv xs.length (icells xs) := by rw [hxl]; exact hown
              have hir := IR_of_owns hown'
              have ST := specSuper_any e lv xs wr hir (by omega)
              have HS2 : Hid (supR s = if supOk e xs = true ∧ supT e xs = s then some (e, xs) else none) := (by rw [HS.out, hf.out] : supR s = if supOk e xs = true ∧ supT e xs = s then some (e, xs) else none)
              clear HS hf hown hown'
              go_wp2_with fail
              refine ST.mono ?_
              rintro x w5 ⟨rfl, hb5⟩
              have hbk := bel_after hb hb5
              cases hok : supOk e xs
              · rw [supT_no hok]
                have G : Hid (supR s = none) := (by rw [HS2.out, if_neg (by rw [hok]; simp)] : supR s = none)
                clear hok HS2 ST
                go_wp2
                exact bodyPost_ret (v := .tuple #[.int .i64 0, .slice (some ⟨w.heap.size, 0, none⟩) 0 0]) (by simp [results, Try.results44, go_sem]) rfl (NO'.out _ hbk G.out)
              · by_cases hts : supT e xs = s
                · have G : Hid (supR s = some (e, xs)) := (by rw [HS2.out, if_pos ⟨hok, hts⟩] : supR s = some (e, xs))
                  rw [hts]
                  clear hok HS2 ST hts
                  go_wp2
                  exact bodyPost_ret (v := .tuple #[.int .i64 e, lv]) (by simp [results, Try.results44, go_sem]) rfl ⟨⟨lv, by rw [G.out]; rfl, by rw [G.out]; exact hir.later hb5⟩, bel_after hb0 hbk⟩
                · have G : Hid (supR s = none) := (by rw [HS2.out, if_neg (fun h => hts h.2)] : supR s = none)
                  have hn := str_ne'' hts
                  clear hok HS2 ST hts
                  go_wp2
                  exact bodyPost_ret (v := .tuple #[.int .i64 0, .slice (some ⟨w.heap.size, 0, none⟩) 0 0]) (by simp [results, Try.results44, go_sem]) rfl (NO'.out _ hbk G.out)
        · have hd : decide (0 ≤ n ∧ n ≤ 30) = false := decide_eq_false hn
          rw [if_neg hn] at HS
          clear hn
          go_wp2_with fail
          refine (l1In_any _ _ _ _).mono ?_
          rintro x w3 ⟨rfl, rfl⟩
          rw [hd]
          clear hd
          go_wp2
          exact bodyPost_ret (v := .tuple #[.int .i64 0, .slice (some ⟨w.heap.size, 0, none⟩) 0 0]) (by simp [results, Try.results44, go_sem]) rfl (NO'.out _ (Below.refl _ _) HS.out)
  · have h83i : ¬ (s[0].toNat : Int) = 83 := by omega
    have G : Hid (supR s = none) := supR_head (by rw [head_is s hp]; intro e; exact h83 (by rw [Option.some.inj e]; rfl))
    go_enter Try.func44, Try.ntmps44
    go_wp2
    exact bodyPost_ret (v := .tuple #[.int .i64 0, .slice (some ⟨w.heap.size, 0, none⟩) 0 0]) (by simp [results, Try.results44, go_sem]) rfl (NO'.out _ (Below.refl _ _) G.out)

end Go.Proofs.Ytddocjmjianajaa
