/- readSuper of the program. -/
import Derived.Test.YtjclpbaiiklhcaaGreatDoorZV11
import Derived.Test.YtjclpbaiiklhcaaGreatDoorZV7
import Derived.Test.YtjclpbaiiklhcaaGreatDoorZV2
import Derived.Test.YtjclpbaiiklhcaaGreatDoorZSplit
namespace Go.Proofs.YtjclpbaiiklhcaaGreatDoor
open Go.RowKit

theorem cutN_less {l r : List UInt8} {most : Nat} {n : Int} (h : cutN l most = some (n, r)) : r.length + 1 ≤ l.length := by
  unfold cutN at h
  cases hf : l.findIdx? (· == 59) with
  | none => rw [hf] at h; simp at h
  | some i =>
    rw [hf] at h
    simp only at h
    split at h
    · simp only [Option.some.injEq, Prod.mk.injEq] at h
      obtain ⟨_, rfl⟩ := h
      obtain ⟨hi, _⟩ := List.findIdx?_eq_some_iff_getElem.1 hf
      rw [List.length_drop]
      omega
    · simp at h
theorem supR_none_of {s : ByteArray} (h : ∀ e l, supOk e l = true → supT e l = s → False) : supR s = none := by
  cases hr : supR s with
  | none => rfl
  | some x =>
    obtain ⟨e, l⟩ := x
    obtain ⟨h1, h2⟩ := supR_is hr
    exact absurd (h e l h1 h2) id

theorem pre83_any (s : ByteArray) (w : World) : Calls Tryz.prog 87 #[.string s, .string ⟨#[83]⟩] w fun e w' => e = .returned (.tuple #[.string (if s.data.toList.head? = some 83 then bytesOf (s.data.toList.drop 1) else s), .bool (decide (s.data.toList.head? = some 83))]) ∧ w' = w := by
  refine (Any.strings_CutPrefix Tryz.lays103 s ⟨#[83]⟩ w).mono fun e w' ⟨he, hw⟩ => ⟨?_, hw⟩
  rw [he]
  show Ending.returned (.tuple #[.string ⟨(Lib.trimPrefix s.data.toList [83]).toArray⟩, .bool (Lib.hasPrefix s.data.toList [83])]) = _
  have e : (⟨s.data.toList.toArray⟩ : ByteArray) = s := by apply ByteArray.ext; simp
  by_cases h : s.data.toList.head? = some 83
  · have h1 : Lib.hasPrefix s.data.toList [83] = true := by
      unfold Lib.hasPrefix
      cases hl : s.data.toList with
      | nil => rw [hl] at h; simp at h
      | cons b r =>
        rw [hl] at h
        have hb : b = 83 := by simpa using h
        subst hb
        rfl
    rw [if_pos h, decide_eq_true h, h1]
    unfold Lib.trimPrefix
    rw [if_pos h1]
    rfl
  · have h1 : Lib.hasPrefix s.data.toList [83] = false := by
      unfold Lib.hasPrefix
      cases hl : s.data.toList with
      | nil => rfl
      | cons b r =>
        rw [hl] at h
        have hb : ¬ b = 83 := by simpa using h
        simp [List.isPrefixOf]
        exact fun e => hb e.symm
    rw [if_neg h, decide_eq_false h, h1]
    unfold Lib.trimPrefix
    rw [if_neg (by rw [h1]; simp), e]

/-- A superblock's three cells in block R. -/
structure Zs (R : Nat) (w : World) : Prop where
  c0 : w.cell? ⟨R, 0, none⟩ = some (.int .i64 0)
  c1 : w.cell? ⟨R, 1, none⟩ = some (.slice none 0 0)
  c2 : w.cell? ⟨R, 2, none⟩ = some (.slice none 0 0)
  f0 : w.frozen? ⟨R, 0, none⟩ = false
  f1 : w.frozen? ⟨R, 1, none⟩ = false
  f2 : w.frozen? ⟨R, 2, none⟩ = false
  lt : R < w.heap.size
theorem Zs.later {R : Nat} {w w' : World} (h : Zs R w) (hb : Below w.heap.size w w') : Zs R w' :=
  ⟨cell_later hb h.c0, cell_later hb h.c1, cell_later hb h.c2, frozen_later hb h.lt h.f0, frozen_later hb h.lt h.f1, frozen_later hb h.lt h.f2, Nat.lt_of_lt_of_le h.lt hb.size⟩
theorem Zs.new (w : World) : Zs w.heap.size (w.alloc (.cells #[.int .i64 0, .slice none 0 0, .slice none 0 0] 58)) := by
  constructor <;> simp
theorem zs_ends {w w2 : World} {R : Nat} (h : Below w.heap.size w w2) (hR : w.heap.size ≤ R) (v0 v1 v2 : Value) :
    Below w.heap.size w (((w2.setCell ⟨R, 0, none⟩ v0).setCell ⟨R, 1, none⟩ v1).setCell ⟨R, 2, none⟩ v2) :=
  ((h.setCell (p := ⟨R, 0, none⟩) hR _).setCell (p := ⟨R, 1, none⟩) hR _).setCell (p := ⟨R, 2, none⟩) hR _
/-- A row that lies above block R is not touched by a store into R. -/
theorem own_store {w : World} {B e size n R o : Nat} {v : Value} {xs : List Value} (h : w.ownsRow B e size v n xs) (hR : R < B) (x : Value) : (w.setCell ⟨R, o, none⟩ x).ownsRow B e size v n xs := by
  obtain ⟨hl, h⟩ := h
  refine ⟨hl, ?_⟩
  rcases h with h | ⟨g, cap, cur, hv, hB, hh, h1, h2, h3, h4⟩
  · exact .inl h
  · refine .inr ⟨g, cap, cur, hv, hB, ?_, h1, h2, h3, h4⟩
    rw [Below.heap_setCell _ _ _ _ (by simp; omega)]
    exact hh
theorem own_mono {w : World} {B B' e size n : Nat} {v : Value} {xs : List Value} (h : w.ownsRow B e size v n xs) (hB : B' ≤ B) : w.ownsRow B' e size v n xs := by
  obtain ⟨hl, h⟩ := h
  refine ⟨hl, ?_⟩
  rcases h with h | ⟨g, cap, cur, hv, hb, hh⟩
  · exact .inl h
  · exact .inr ⟨g, cap, cur, hv, Nat.le_trans hB hb, hh⟩

def supV (e : Int) (v : Value) : Value := .agg #[.int .i64 e, v, .slice none 0 0]
/-- What readSuper answers. -/
def SupOut (s : ByteArray) (B : Nat) (x : Ending) (w' : World) : Prop :=
  match supR s with
  | none => x = .returned (.tuple #[.agg #[.int .i64 0, .slice none 0 0, .slice none 0 0], .bool false])
  | some (e, l) => ∃ v, x = .returned (.tuple #[.agg #[.int .i64 e, v, .slice none 0 0], .bool true]) ∧ w'.ownsRow B 2 1 v l.length (icells l)
theorem supOut_none {s : ByteArray} {B : Nat} {w' : World} (h : supR s = none) : SupOut s B (.returned (.tuple #[.agg #[.int .i64 0, .slice none 0 0, .slice none 0 0], .bool false])) w' := by unfold SupOut; rw [h]
theorem supOut_some {s : ByteArray} {B : Nat} {w' : World} {e : Int} {l : List Int} {v : Value} (h : supR s = some (e, l)) (ho : w'.ownsRow B 2 1 v l.length (icells l)) : SupOut s B (.returned (.tuple #[.agg #[.int .i64 e, v, .slice none 0 0], .bool true])) w' := by unfold SupOut; rw [h]; exact ⟨v, rfl, ho⟩

set_option maxRecDepth 100000 in
set_option maxHeartbeats 6400000 in
theorem readSuper_any (s : ByteArray) (w : World) (hs : s.size ≤ 1000000) (hE : Env w) :
    Calls Tryz.prog 62 #[.string s] w fun x w' => SupOut s w.heap.size x w' ∧ Below w.heap.size w w' := by
  have hb0 := bel_one w (.cells #[.int .i64 0, .slice none 0 0, .slice none 0 0] 58)
  have hz0 := Zs.new w
  have hE0 := hE.later hb0
  have P := fun w => pre83_any s w
  by_cases hh : s.data.toList.head? = some 83
  · have hsz : (bytesOf (s.data.toList.drop 1)).size ≤ 1000000 := by
      rw [bytesOf_size, List.length_drop, Array.length_toList]
      have : s.data.size = s.size := rfl
      omega
    simp only [if_pos hh, decide_eq_true hh] at P
    have HL := bytesOf_list (s.data.toList.drop 1)
    have hdrop : Hid (∃ z, s.data.toList.drop 1 = z) := ⟨_, rfl⟩
    generalize hl1 : s.data.toList.drop 1 = l1 at *
    have HL1 : Hid (s.data.toList.drop 1 = l1) := hl1
    clear hdrop hl1
    cases h1 : cutN l1 9 with
    | none =>
      have A := ahead_no (bytesOf l1) 9 _ (by omega) (by omega) hE0 (by rw [HL]; exact h1)
      have G : Hid (supR s = none) := supR_none_of (fun e l h k => by
        obtain ⟨r1, r2, q, _, c1, _, _⟩ := sup_cuts h
        rw [k, HL1.out, h1] at c1
        cases c1)
      clear h1
      go_enter Tryz.func62, Tryz.ntmps62
      go_wp2_with fail
      refine (P _).mono ?_
      rintro x w1 ⟨rfl, rfl⟩
      go_wp2_with fail
      refine A.mono ?_
      rintro x w2 ⟨⟨z, r, rfl⟩, hbk⟩
      obtain ⟨c0, c1, c2, f0, f1, f2, lt⟩ := hz0.later hbk
      clear hE hE0 hz0 P
      go_wp2
      exact bodyPost_ret (v := .tuple #[.agg #[.int .i64 0, .slice none 0 0, .slice none 0 0], .bool false]) (by simp [results, Tryz.results62, go_sem, c0, c1, c2]) rfl ⟨supOut_none G.out, zs_ends (bel_after hb0 hbk) (Nat.le_refl _) _ _ _⟩
    | some x1 =>
      obtain ⟨e, l2⟩ := x1
      have A := ahead_yes (bytesOf l1) 9 e l2 _ (by omega) (by omega) hE0 (by rw [HL]; exact h1)
      obtain ⟨r1, r2, le2⟩ := cutN_range (by omega) h1
      have hsz2 : (bytesOf l2).size ≤ 1000000 := by rw [bytesOf_size] at hsz ⊢; omega
      have HL2 := bytesOf_list l2
      go_enter Tryz.func62, Tryz.ntmps62
      go_wp2_with fail
      refine (P _).mono ?_
      rintro x w1 ⟨rfl, rfl⟩
      go_wp2_with fail
      refine A.mono ?_
      rintro x w2 ⟨rfl, hb2⟩
      clear A
      cases h2 : cutN l2 9 with
      | none =>
        have A2 := ahead_no (bytesOf l2) 9 _ (by omega) (by omega) (hE0.later hb2) (by rw [HL2]; exact h2)
        have G : Hid (supR s = none) := supR_none_of (fun e' l h k => by
          obtain ⟨r1, r2, q, _, c1, c2, _⟩ := sup_cuts h
          rw [k, HL1.out, h1] at c1
          simp only [Option.some.injEq, Prod.mk.injEq] at c1
          rw [← c1.2, h2] at c2
          cases c2)
        clear h1 h2
        go_wp2_with fail
        refine A2.mono ?_
        rintro x w3 ⟨⟨z, r, rfl⟩, hb3⟩
        have hbk := bel_after hb2 hb3
        obtain ⟨c0, c1, c2, f0, f1, f2, lt⟩ := hz0.later hbk
        clear hE hE0 hz0 P
        go_wp2
        exact bodyPost_ret (v := .tuple #[.agg #[.int .i64 0, .slice none 0 0, .slice none 0 0], .bool false]) (by simp [results, Tryz.results62, go_sem, c0, c1, c2]) rfl ⟨supOut_none G.out, zs_ends (bel_after hb0 hbk) (Nat.le_refl _) _ _ _⟩
      | some x2 =>
        obtain ⟨n, l3⟩ := x2
        have A2 := ahead_yes (bytesOf l2) 9 n l3 _ (by omega) (by omega) (hE0.later hb2) (by rw [HL2]; exact h2)
        obtain ⟨r3, r4, le3⟩ := cutN_range (by omega) h2
        have hsz3 : (bytesOf l3).size ≤ 1000000 := by rw [bytesOf_size] at hsz2 ⊢; omega
        have CU : Hid (∀ e' l, supOk e' l = true → supT e' l = s → e' = e ∧ (l.length : Int) = n ∧ ∃ q, fieldsN l.length l3 = some (l, q)) := fun e' l h k => by
          obtain ⟨r1, r2, q, _, c1, c2, c3⟩ := sup_cuts h
          rw [k, HL1.out, h1] at c1
          simp only [Option.some.injEq, Prod.mk.injEq] at c1
          rw [← c1.2, h2] at c2
          simp only [Option.some.injEq, Prod.mk.injEq] at c2
          exact ⟨c1.1.symm, c2.1.symm, q, by rw [c2.2]; exact c3⟩
        go_wp2_with fail
        refine A2.mono ?_
        rintro x w3 ⟨rfl, hb3⟩
        have hb23 := bel_after hb2 hb3
        clear A2 h1 h2 hb2 hb3 HL HL2
        rw [bytesOf_size] at hsz3
        go_wp2
        go_loopw [4, 9, 42] (fun rv sv iv wr => ∃ (k : Nat) (xs : List Int) (q : List UInt8) (v0 : Value), iv = .int .i64 k ∧ (k : Int) ≤ max n 0 ∧ rv = .string (bytesOf q) ∧ v0 = sv ∧ xs.length = k ∧ k + q.length ≤ 1000000 ∧ wr.ownsRow (w.heap.size + 1) 2 1 v0 k (icells xs) ∧ Hid (fieldsN k l3 = some (xs, q)) ∧ Below (w.alloc (.cells #[.int .i64 0, .slice none 0 0, .slice none 0 0] 58)).heap.size (w.alloc (.cells #[.int .i64 0, .slice none 0 0, .slice none 0 0] 58)) wr) (fun _ _ iv _ => (n - intOf iv).toNat)
        case atStart => exact ⟨0, [], l3, _, rfl, by omega, rfl, rfl, rfl, by omega, World.ownsRow_nil _ _ _ _, rfl, hb23⟩
        case round =>
          obtain ⟨k, xs, q, sv, rfl, hkn, rfl, rfl, hxl, hkq, hown, hf, hb⟩ := hrel
          by_cases hlt : (k : Int) < n
          · have SN := fieldsN_snoc k _ _ _ hf.out
            have hszq : (bytesOf q).size < 4294967281 := by rw [bytesOf_size]; omega
            have HQ := bytesOf_list q
            cases hq : cutN q 9 with
            | none =>
              have A3 := ahead_no (bytesOf q) 9 wr hszq (by omega) (hE0.later hb) (by rw [HQ]; exact hq)
              rw [hq] at SN
              have G : Hid (supR s = none) := supR_none_of (fun e' l h t => by
                obtain ⟨_, c2, q', c3⟩ := CU.out e' l h t
                rw [fieldsN_le (k := k + 1) SN (by omega)] at c3
                cases c3)
              clear SN hq hf CU HQ
              go_wp2_with fail
              refine A3.mono ?_
              rintro x w4 ⟨⟨z, r, rfl⟩, hb4⟩
              have hbk := bel_after hb hb4
              obtain ⟨c0, c1, c2, f0, f1, f2, lt⟩ := hz0.later hbk
              clear hE hE0 hz0 P
              go_wp2
              exact bodyPost_ret (v := .tuple #[.agg #[.int .i64 0, .slice none 0 0, .slice none 0 0], .bool false]) (by simp [results, Tryz.results62, go_sem, c0, c1, c2]) rfl ⟨supOut_none G.out, zs_ends (bel_after hb0 hbk) (Nat.le_refl _) _ _ _⟩
            | some x3 =>
              obtain ⟨y, q2⟩ := x3
              have A3 := ahead_yes (bytesOf q) 9 y q2 wr hszq (by omega) (hE0.later hb) (by rw [HQ]; exact hq)
              rw [hq] at SN
              have HF : Hid (fieldsN (k + 1) l3 = some (xs ++ [y], q2)) := SN
              have hless := cutN_less hq
              clear SN hq hf HQ
              have hc : ∀ W : World, (W.alloc (.cells #[.int .i64 y] 2)).cell? ⟨W.heap.size, 0, none⟩ = some (.int .i64 y) := fun W => by simp
              have ei : Hid (icells (xs ++ [y]) = icells xs ++ [.int .i64 y]) := (by simp [icells] : icells (xs ++ [y]) = icells xs ++ [.int .i64 y])
              go_wp2_with fail
              refine A3.mono ?_
              rintro x w4 ⟨rfl, hb4⟩
              have hown2 := own_later (own_later hown hb4) (bel_one w4 (.cells #[.int .i64 y] 2))
              have hb2 := bel_after (bel_after hb hb4) (bel_one w4 (.cells #[.int .i64 y] 2))
              have hsz4 : w.heap.size + 1 ≤ (w4.alloc (.cells #[.int .i64 y] 2)).heap.size := by
                have h1 := hb2.size
                simp only [World.size_alloc] at h1 ⊢
                omega
              clear A3 hb4 hown hb
              go_wp2_with (at_builtin; refine app_int _ rfl _ _ rfl (w.heap.size + 1) _ k (icells xs) rfl hown2 _ 1 y rfl (hc _) (by omega) hsz4 ?_; intro v5 w5 hown5 hg5; have hb5 : Below (w.alloc (.cells #[.int .i64 0, .slice none 0 0, .slice none 0 0] 58)).heap.size (w.alloc (.cells #[.int .i64 0, .slice none 0 0, .slice none 0 0] 58)) w5 := by (have e0 : (w.alloc (.cells #[.int .i64 0, .slice none 0 0, .slice none 0 0] 58)).heap.size = w.heap.size + 1 := (by simp); rw [e0] at hb2 ⊢; exact own_grown hb2 hown2 hg5 hsz4))
              exact ⟨⟨k + 1, xs ++ [y], q2, _, by go_num, by omega, rfl, rfl, by simp [hxl], by omega, by rw [ei.out]; exact hown5, HF, hb5⟩, by simp [intOf]; omega⟩
          · have hkn2 : k = n.toNat := by omega
            have hown' : wr.ownsRow (w.heap.size + 1) 2 1 sv xs.length (icells xs) := by rw [hxl]; exact hown
            have ST := implSuper_any e sv xs wr (IR_of_owns hown') (by omega) (hE0.later hb).tb
            have HS2 : Hid (supOk e xs = true → supT e xs = s → supR s = some (e, xs)) := fun h1 h2 => supR_iff.2 ⟨h1, h2⟩
            have HS3 : Hid (¬ (supOk e xs = true ∧ supT e xs = s) → supR s = none) := fun hno => supR_none_of (fun e' l h t => by
              obtain ⟨c1, c2, q', c3⟩ := CU.out e' l h t
              have hlk : l.length = k := by omega
              rw [hlk, hf.out] at c3
              simp only [Option.some.injEq, Prod.mk.injEq] at c3
              rw [c1, ← c3.1] at h t
              exact hno ⟨h, t⟩)
            clear CU hf hown
            go_wp2_with fail
            refine ST.mono ?_
            rintro x w5 ⟨rfl, hb5⟩
            have hbk := bel_after hb hb5
            obtain ⟨c0, c1, c2, f0, f1, f2, lt⟩ := hz0.later hbk
            have hown5 := own_later hown' hb5
            clear ST hE hE0 hz0 P hown' hb
            cases hok : supOk e xs
            · rw [supT_no hok]
              have G : Hid (supR s = none) := HS3.out (fun h => by rw [hok] at h; simp at h)
              clear hok HS2 HS3
              go_wp2
              exact bodyPost_ret (v := .tuple #[.agg #[.int .i64 0, .slice none 0 0, .slice none 0 0], .bool false]) (by simp [results, Tryz.results62, go_sem, c0, c1, c2]) rfl ⟨supOut_none G.out, zs_ends (bel_after hb0 hbk) (Nat.le_refl _) _ _ _⟩
            · by_cases hts : supT e xs = s
              · have G : Hid (supR s = some (e, xs)) := HS2.out hok hts
                rw [hts]
                clear hok HS2 HS3 hts hkn2 hxl
                obtain ⟨so, scap, rfl, _⟩ := own_cell hown5
                go_wp2
                exact bodyPost_ret (v := .tuple #[.agg #[.int .i64 e, .slice so xs.length scap, .slice none 0 0], .bool true]) (by simp [results, Tryz.results62, go_sem, c0, c1, c2]) rfl ⟨supOut_some G.out (own_mono (own_store (own_store (own_store hown5 (by omega) _) (by omega) _) (by omega) _) (by omega)), zs_ends (bel_after hb0 hbk) (Nat.le_refl _) _ _ _⟩
              · have G : Hid (supR s = none) := HS3.out (fun h => hts h.2)
                have hn := str_ne' hts
                clear hok HS2 HS3 hts
                go_wp2
                exact bodyPost_ret (v := .tuple #[.agg #[.int .i64 0, .slice none 0 0, .slice none 0 0], .bool false]) (by simp [results, Tryz.results62, go_sem, c0, c1, c2]) rfl ⟨supOut_none G.out, zs_ends (bel_after hb0 hbk) (Nat.le_refl _) _ _ _⟩
  · have G : Hid (supR s = none) := (by unfold supR; rw [if_neg hh] : supR s = none)
    simp only [if_neg hh, decide_eq_false hh] at P
    go_enter Tryz.func62, Tryz.ntmps62
    go_wp2_with (go_at_call 87; refine (P _).mono ?_; rintro x w1 ⟨rfl, rfl⟩)
    exact bodyPost_ret (v := .tuple #[.agg #[.int .i64 0, .slice none 0 0, .slice none 0 0], .bool false]) (by simp [results, Tryz.results62, go_sem]) rfl ⟨supOut_none G.out, bel_one _ _⟩

end Go.Proofs.YtjclpbaiiklhcaaGreatDoor
