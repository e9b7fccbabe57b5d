/- Referrers of the program and of the model. -/
import Derived.Test.YthdffigckohpoaaGreatZBImpA
import Derived.Test.YthdffigckohpoaaGreatZU13
import Derived.BigQuiet
namespace Go.Proofs.YthdffigckohpoaaGreat
open Go.RowKit

def rfS (W : List Int) (x : Int) (l : List Nat) : List Nat := l.filter fun a => (flds W a).contains x
theorem rfS_snoc (W : List Int) (x : Int) (l : List Nat) (k : Nat) (h : k < l.length) : rfS W x (l.take (k + 1)) = if (flds W (l.getD k 0)).contains x = true then rfS W x (l.take k) ++ [l.getD k 0] else rfS W x (l.take k) := by
  unfold rfS
  rw [ltake_snoc l k h, List.filter_append]
  by_cases q : (flds W (l.getD k 0)).contains x = true
  · rw [if_pos q]; congr 1; simp only [List.filter_cons, q, if_true, List.filter_nil]
  · rw [if_neg q]; simp only [List.filter_cons, q, if_false, List.filter_nil, Bool.false_eq_true, List.append_nil]
theorem rfS_short (W : List Int) (x : Int) (l : List Nat) (k : Nat) (h : l.length ≤ 3200) : (rfS W x (l.take k)).length ≤ 3200 := by
  have := List.length_filter_le (fun a => (flds W a).contains x) (l.take k)
  rw [List.length_take] at this
  unfold rfS
  omega
theorem own_lowR {w : World} {B C e size n : Nat} {v : Value} {xs : List Value} (h : w.ownsRow B e size v n xs) (hC : C ≤ B) : w.ownsRow C e size v n xs := by
  obtain ⟨h1, h2⟩ := h
  refine ⟨h1, ?_⟩
  rcases h2 with h2 | ⟨g, cap, cur, e0, hB, r⟩
  · exact .inl h2
  · exact .inr ⟨g, cap, cur, e0, Nat.le_trans hC hB, r⟩

set_option maxRecDepth 100000 in
set_option maxHeartbeats 3200000 in
theorem implReferrers_c (v : Value) (h : Hp) (x : Int) (w : World) (hv : HR w v h) (hro : h.roots.length ≤ 1000000000000) (hke : h.kept.length ≤ 1000000000000) :
    Calls Tryz.prog 26 #[v, .int .i64 x] w fun e w' => (∃ u, e = .returned u ∧ w'.ownsRow w.heap.size 2 1 u (rfC h x).length (icells (ints (rfC h x)))) ∧ Below w.heap.size w w' := by
  obtain ⟨v1, v2, v3, rfl, i1, i2, i3⟩ := id hv
  have hb0 := bel_one w (.cells #[v1, v2, .int .i64 h.old, .int .i64 h.eden, .int .i64 h.surv, .bool h.flip, .int .i64 h.hash, v3] 26)
  have X0 := Bx.new w v1 v2 v3 h 26
  have C := right_c _ h _ (hv.later hb0) hro hke
  have NIL : Hid (rfC h x = [] → ∀ W : World, W.ownsRow w.heap.size 2 1 (.slice none 0 0) (rfC h x).length (icells (ints (rfC h x)))) := fun e W => by
    rw [e]
    exact ⟨by simp [icells, ints], .inl ⟨rfl, rfl⟩⟩
  cases hk : okC h
  · have N := NIL.out (rf_no hk)
    rw [hk] at C
    clear i1 i2 i3 NIL X0
    go_enter Tryz.func26, Tryz.ntmps26
    go_wp2_with fail
    refine C.mono ?_
    rintro e w1 ⟨⟨v', rfl, ho⟩, hb1⟩
    go_wp2
    exact bodyPost_ret (v := .slice none 0 0) (by simp [results, Tryz.results26, go_sem]) rfl ⟨⟨_, rfl, N _⟩, bel_after hb0 hb1⟩
  · have R := c_right hk
    rw [hk] at C
    obtain ⟨b, o, cap, rfl, hcap, hW⟩ := i1.ws (by have := R.1.1; omega)
    have HLN : Hid (h.words.length = 3200) := R.1.1
    rw [R.1.1] at hcap C X0 hb0 ⊢
    have SO := ok_sorted hk
    have OL := ob_short h
    have RB : Hid (refL (obC h) x = refB h x) := refL_ob h x
    have RY : Hid (refB h x = true → rfC h x = rfS h.words x (obC h)) := fun q => rf_yes hk q
    have OBJ : Hid (∀ a, a ∈ obC h → a + 4 ≤ 3200 ∧ nx h.words a ≤ 3200 ∧ headB h.words a = true) := fun a ha => R.1.obj ha
    clear i1 i2 i3 hk R hv
    go_enter Tryz.func26, Tryz.ntmps26
    go_wp2_with fail
    refine C.mono ?_
    rintro e w1 ⟨⟨v', rfl, ho⟩, hb1⟩
    have hbw1 := bel_after hb0 hb1
    have X1 := X0.later hb1
    have io := IR_of_owns' ho
    have IS := isObject_any _ (obC h) x w1 io SO (by omega)
    rw [RB.out] at IS
    obtain ⟨ua, uc, rfl, hc⟩ := intsI io
    clear C X0 ho hb1 hb0
    go_wp2_with fail
    refine IS.mono ?_
    rintro e w2 ⟨rfl, hb2⟩
    cases hr : refB h x
    · have N := NIL.out (rf_no2 hr)
      clear NIL
      go_wp2
      exact bodyPost_ret (v := .slice none 0 0) (by simp [results, Tryz.results26, go_sem]) rfl ⟨⟨_, rfl, N _⟩, bel_after hbw1 hb2⟩
    · have E : Hid (rfC h x = rfS h.words x (obC h)) := RY.out hr
      have hbw2 := bel_after hbw1 hb2
      have c02 := (X1.later hb2).c0
      have hW2 := hW.later hbw2
      have hc2 : ∀ k, k < (obC h).length → ∃ b o, ua = some ⟨b, o, none⟩ ∧ w2.cell? ⟨b, o + k, none⟩ = some (.int .i64 (((obC h).getD k 0 : Nat) : Int)) := fun k hk => by
        obtain ⟨b, o, e, q⟩ := hc k hk
        exact ⟨b, o, e, cell_later hb2 q⟩
      have sz2 := hbw2.size
      clear NIL RY IS X1 hb2 hbw1 io RB hW hr hc SO
      generalize obC h = l at *
      generalize h.words = W at *
      go_wp2
      go_loopw [7, 25] (fun ov kv wr => ∃ (k : Nat) (v0 : Value), kv = .int .i64 k ∧ v0 = ov ∧ k ≤ l.length ∧ wr.ownsRow w2.heap.size 2 1 v0 (rfS W x (l.take k)).length (icells (ints (rfS W x (l.take k)))) ∧ Below w2.heap.size w2 wr) (fun _ kv _ => l.length - (intOf kv).toNat)
      case atStart => exact ⟨0, _, rfl, rfl, Nat.zero_le _, ⟨by simp [rfS, icells, ints], .inl ⟨rfl, rfl⟩⟩, Below.refl _ _⟩
      case round =>
        obtain ⟨k, ov, rfl, rfl, hk, hown, hb⟩ := hrel
        by_cases hlt : k < l.length
        · obtain ⟨b', o', e', hci⟩ := hc2 k hlt
          subst e'
          have ci := cell_later hb hci
          have c0 := cell_later hb c02
          obtain ⟨q1, q2, q3⟩ := OBJ.out _ (lget_mem l k hlt)
          have KS := rfS_snoc W x l k hlt
          have FA := fieldsAt_any b o cap W (l.getD k 0) wr (hW2.later hb) HLN.out hcap q1 (size_of q3) q2
          have hfl : (flds W (l.getD k 0)).length ≤ 60 := by rw [flds_length]; have := size_of q3; omega
          have CT := fun u wq hu' => contains_any u (flds W (l.getD k 0)) x wq hu' (by omega)
          have hlk := rfS_short W x l k OL
          clear hci q1 q2 q3
          generalize l.getD k 0 = a at *
          generalize (flds W a).contains x = y at *
          cases y
          · have KS' : Hid (rfS W x (l.take (k + 1)) = rfS W x (l.take k)) := KS
            clear KS
            go_wp2_with (first
              | (go_at_call 44; refine FA.mono ?_; rintro e w3 ⟨⟨fv, rfl, hfv⟩, hw3⟩; obtain rfl := hw3.symm)
              | (go_at_call 52; refine (CT _ _ hfv).mono ?_; rintro e wq ⟨rfl, hq⟩; obtain rfl := hq.symm))
            exact ⟨⟨k + 1, ov, by go_num, rfl, by omega, by rw [KS'.out]; exact hown, hb⟩, by simp [intOf]; omega⟩
          · have KS' : Hid (rfS W x (l.take (k + 1)) = rfS W x (l.take k) ++ [a]) := KS
            clear KS
            generalize rfS W x (l.take k) = ks at *
            have hown2 := own_later hown (bel_one wr (.cells #[.int .i64 (a : Int)] 2))
            have hb2 := bel_after hb (bel_one wr (.cells #[.int .i64 (a : Int)] 2))
            have hcc : ∀ W : World, (W.alloc (.cells #[.int .i64 (a : Int)] 2)).cell? ⟨W.heap.size, 0, none⟩ = some (.int .i64 (a : Int)) := fun W => by simp
            have hsz := hb.size
            go_wp2_with (first
              | (go_at_call 44; refine FA.mono ?_; rintro e w3 ⟨⟨fv, rfl, hfv⟩, hw3⟩; obtain rfl := hw3.symm)
              | (go_at_call 52; refine (CT _ _ hfv).mono ?_; rintro e wq ⟨rfl, hq⟩; obtain rfl := hq.symm)
              | (at_builtin; refine app_int _ rfl _ _ rfl _ _ ks.length (icells (ints ks)) rfl hown2 _ 1 (a : Int) rfl (hcc _) (by omega) (by simp; omega) ?_; intro v4 w4 hown4 hg4; have hb4 := own_grown hb2 hown2 hg4 (by simp; omega)))
            exact ⟨⟨k + 1, v4, by go_num, rfl, by omega, by rw [KS'.out]; simpa [icells, ints] using hown4, hb4⟩, by simp [intOf]; omega⟩
        · obtain rfl : k = l.length := by omega
          rw [List.take_length] at hown
          go_wp2
          exact bodyPost_ret (v := ov) (by simp [results, Tryz.results26, go_sem]) rfl ⟨⟨ov, rfl, by rw [E.out]; exact own_lowR hown sz2⟩, bel_after hbw2 hb⟩

end Go.Proofs.YthdffigckohpoaaGreat
