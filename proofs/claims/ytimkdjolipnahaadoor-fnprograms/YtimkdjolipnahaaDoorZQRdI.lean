/- Reading a Code: ReadCode of the program. -/
import Derived.Test.YtimkdjolipnahaaDoorZQShow
import Derived.Test.YtimkdjolipnahaaDoorZQNum
namespace Go.Proofs.YtimkdjolipnahaaDoor
open Go.RowKit Go.Maps Go.WideMaps

theorem Bk.set {w : World} {b : Nat} {C : Array Value} {t : TypeId} (h : Bk w b C t) (j : Nat) (v : Value) : Bk (w.setCell ⟨b, j, none⟩ v) b (C.setIfInBounds j v) t := by
  unfold Bk at *
  simp [World.setCell, Array.getElem?_modify, h]
theorem Bk.setOff {w : World} {b b' : Nat} {C : Array Value} {t : TypeId} (h : Bk w b C t) (hne : b ≠ b') (j : Nat) (v : Value) : Bk (w.setCell ⟨b', j, none⟩ v) b C t := (Below.heap_setCell w ⟨b', j, none⟩ v b hne).trans h
section
variable {ops : Array Oper} {rest : List Oper} {o : Oper} {a : Act} {Q : Exit → Act → World → Prop}
theorem look_s (w : World) (hg : o.guard = none) (m x : Operand) (hop : o.op = Op.lookup 49 m x true) (b n : Nat) (f : ByteArray → Option Int) (D : DataW Unit) (hm : a.eval m = .map (some b)) (hM : SM w b n f D)
    (s : ByteArray) (hx : a.eval x = .string s) (hs : s.size ≤ 1000000000000) (y : Int) (z : Bool) (hy : (f s).getD 0 = y) (hz : (f s).isSome = z) (h : wpList Tryd.prog ops Q rest (a.put o.dst (.tuple #[.int .i64 y, .bool z])) w) : wpList Tryd.prog ops Q (o :: rest) a w := by
  obtain ⟨hown, hD⟩ := hM
  refine wpList_lookup_own_ok_int w hg m x 49 hop 9 2 .i64 keyS Tryd.underlying49 Tryd.underlying2 (zeroQ _) b n D hm hown _ _ hx (keyOf_string_mk (s := s) Tryd.underlying9 (by unfold maxLen; omega)) (fun c hc _ => ?_)
  obtain ⟨h1, h2⟩ := hD s
  rw [h2] at hc
  simp only [DataW.lit.injEq, Lit.int.injEq, true_and] at hc
  rw [h1, ← hc, hy, hz]
  exact h
theorem store_q {w w' : World} {t : TypeId} {A u : Value} (hrun : (Instr.storeAt t A u).run Tryd.prog w = .ok () w') (hg : o.guard = none) (p s : Operand) (hop : o.op = Op.store t p s) (hp : a.eval p = A) (hs : a.eval s = u) (hd : o.dst = none)
    (h : wpList Tryd.prog ops Q rest a w') : wpList Tryd.prog ops Q (o :: rest) a w := by
  refine wpList_plain hg fun K hK => ?_
  unfold Oper.wp
  simp [execOp, hop, hp, hs, hrun, Result.andThen]
  refine hK _ _ ?_
  rw [hd]
  exact h
end

theorem store_one {w : World} {b j : Nat} {v : Int} {u : Value} (hf : w.frozen? ⟨b, j, none⟩ = false) (hc : w.cell? ⟨b, j, none⟩ = some u) : (Instr.storeAt 2 (.pointer (some ⟨b, j, none⟩)) (.int .i64 v)).run Tryd.prog w = .ok () (w.setCell ⟨b, j, none⟩ (.int .i64 v)) := by
  go_simp
/-- The word of a text, what is behind it, and whether there is a blank. -/
def rW (s : ByteArray) : ByteArray := ⟨(cutL 32 s.data.toList).1.toArray⟩
def rM (s : ByteArray) : ByteArray := ⟨(cutL 32 s.data.toList).2.1.toArray⟩
def rH (s : ByteArray) : Bool := (cutL 32 s.data.toList).2.2
theorem rW_size (s : ByteArray) : (rW s).size ≤ s.size ∧ (rM s).size ≤ s.size := by
  have hz : s.size = s.data.toList.length := by simp
  rw [hz]
  show ((cutL 32 s.data.toList).1.toArray).size ≤ _ ∧ ((cutL 32 s.data.toList).2.1.toArray).size ≤ _
  unfold cutL
  split <;> simp <;> omega
theorem rW_list (s : ByteArray) : (rW s).data.toList = (cutL 32 s.data.toList).1 := by simp [rW]
theorem read_none {s : ByteArray} (h : putL wdP (rW s) = none) : RD s 0 0 false := by
  refine rd_no_word fun op h1 h2 e => ?_
  rw [← rW_list] at e
  rw [← ba_ext e, wd_put ⟨h1, h2⟩] at h
  cases h
theorem read_ne {s : ByteArray} {op : Int} (h : putL wdP (rW s) = some op) : s ≠ ⟨#[]⟩ := by
  intro e
  subst e
  obtain ⟨h1, h2, h3⟩ := put_wd h
  have := (wd_plain ⟨h1, h2⟩).2.1
  rw [← h3] at this
  exact this rfl
theorem read_bare {s : ByteArray} {op : Int} (h : putL wdP (rW s) = some op) (hh : rH s = false) (hne : showB op 0 ≠ s) : RD s 0 0 false := by
  obtain ⟨h1, h2, h3⟩ := put_wd h
  exact rd_other (op := op) (n := 0) ⟨h1, h2⟩ (by rw [← rW_list, h3]) (fun m hc => by unfold rH at hh; rw [hh] at hc; cases hc) (fun _ => rfl) hne
theorem read_num {s : ByteArray} {op : Int} (h : putL wdP (rW s) = some op) (hh : rH s = true) (hne : showB op (numV (rM s) 10) ≠ s) : RD s 0 0 false := by
  obtain ⟨h1, h2, h3⟩ := put_wd h
  exact rd_other (op := op) (n := numV (rM s) 10) ⟨h1, h2⟩ (by rw [← rW_list, h3]) (fun m _ e hm => by
    have := (itoa_ten hm).2
    rw [e] at this
    exact this) (fun hc => by unfold rH at hh; rw [hh] at hc; cases hc) hne

set_option maxRecDepth 100000 in
set_option maxHeartbeats 2000000 in
theorem implRead_any (s : ByteArray) (w : World) (hs : s.size ≤ 1000000000000) (hE : Env w) :
    Calls Tryd.prog 10 #[.string s] w fun e w' => e = .returned (.tuple #[codeV (rdC s).1 (rdC s).2.1, .bool (rdC s).2.2]) ∧ Below w.heap.size w w' := by
  have CA : ∀ w, Calls Tryd.prog 25 #[.string s, .int .i32 32] w fun e w' => e = .returned (.tuple #[.string (rW s), .string (rM s), .bool (rH s)]) ∧ Below w.heap.size w w' := fun w => cutAt_any s 32 w (by decide) hs
  obtain ⟨z1, z2⟩ := rW_size s
  have hws : (rW s).size ≤ 1000000000000 := by omega
  have hms : (rM s).size ≤ 1000000000000 := by omega
  clear z1 z2
  have RN := fun w h => readNumber_any (rM s) 10 w hms (by omega) h
  change ∀ w h, Calls _ _ #[_, .int .i64 10] w _ at RN
  have HE : Hid (Env w) := hE
  clear hE
  unfold codeV
  cases hp : putL wdP (rW s) with
  | none =>
    obtain ⟨e1, e2, e3⟩ := rd_eq (read_none hp)
    have HG : Hid (((putL wdP (rW s)).getD 0 = 0) ∧ (putL wdP (rW s)).isSome = false) := (by rw [hp]; exact ⟨rfl, rfl⟩ : _ ∧ _)
    rw [e1, e2, e3]
    clear e1 e2 e3 hp RN HE
    generalize rW s = W at *
    generalize rM s = M at *
    generalize rH s = hb at *
    go_enter Tryd.func10, Tryd.ntmps10
    have k2 := Bk.new w #[.int .i64 0, .int .i64 0] 25
    go_wp2_with fail
    refine (CA _).mono ?_
    rintro e w1 ⟨rfl, hb1⟩
    have B1 := bel_afterQ (qbel w _) hb1
    replace k2 := k2.later hb1
    clear hb1 CA
    go_wp2_with fail
    refine (codeWords_any _).mono ?_
    rintro e w2 ⟨rfl, ⟨D, hM⟩, hb2⟩
    replace B1 := bel_afterQ B1 hb2
    replace k2 := k2.later hb2
    clear hb2
    obtain ⟨w9, hrun, k9, hg9, _⟩ := k2.store 25 #[.int .i64 0, .int .i64 0] rfl (by kernel_rfl) (by kernel_rfl)
    have r0 : w9.cell? ⟨w.heap.size, 0, none⟩ = some (.int .i64 0) := k9.cell 0 _ rfl
    have r1 : w9.cell? ⟨w.heap.size, 1, none⟩ = some (.int .i64 0) := k9.cell 1 _ rfl
    replace hM : Hid _ := hM
    clear k2 k9
    go_wp2_with (first | (refine look_s _ rfl _ _ rfl w1.heap.size 20 (putL wdP) D rfl hM.out W rfl hws _ _ HG.out.1 HG.out.2 ?_) | (refine store_q hrun rfl _ _ rfl rfl rfl rfl ?_))
    exact bodyPost_ret (v := .tuple #[.agg #[.int .i64 0, .int .i64 0], .bool false]) (by simp [results, Tryd.results10, go_sem, r0, r1]) rfl ⟨rfl, bel_set B1 hg9 (Nat.le_refl _)⟩
  | some op =>
    have ho : 1 ≤ op ∧ op ≤ 20 := by
      obtain ⟨h1, h2, _⟩ := put_wd hp
      exact ⟨h1, h2⟩
    have HG : Hid (((putL wdP (rW s)).getD 0 = op) ∧ (putL wdP (rW s)).isSome = true) := (by rw [hp]; exact ⟨rfl, rfl⟩ : _ ∧ _)
    have IS := fun n w h => implShow_any op n w h
    unfold codeV at IS
    have hne := read_ne hp
    cases hh : rH s
    · have SB : Hid (showB op 0 = s ∧ (rdC s).1 = op ∧ (rdC s).2.1 = 0 ∧ (rdC s).2.2 = true ∨ showB op 0 ≠ s ∧ (rdC s).1 = 0 ∧ (rdC s).2.1 = 0 ∧ (rdC s).2.2 = false) := (by
        by_cases e : showB op 0 = s
        · exact .inl ⟨e, rd_eq (rd_shown hne e)⟩
        · exact .inr ⟨e, rd_eq (read_bare hp hh e)⟩ : _ ∨ _)
      rw [hh] at CA
      clear hp hh RN hne ho
      have IS0 := IS 0
      clear IS
      generalize showB op 0 = sb at IS0 SB
      generalize (rdC s).1 = x1 at SB ⊢
      generalize (rdC s).2.1 = x2 at SB ⊢
      generalize (rdC s).2.2 = x3 at SB ⊢
      generalize rW s = W at *
      generalize rM s = M at *
      go_enter Tryd.func10, Tryd.ntmps10
      have k2 := Bk.new w #[.int .i64 0, .int .i64 0] 25
      go_wp2_with fail
      refine (CA _).mono ?_
      rintro e w1 ⟨rfl, hb1⟩
      have B1 := bel_afterQ (qbel w _) hb1
      replace k2 := k2.later hb1
      clear hb1 CA
      go_wp2_with fail
      refine (codeWords_any _).mono ?_
      rintro e w2 ⟨rfl, ⟨D, hM⟩, hb2⟩
      replace B1 := bel_afterQ B1 hb2
      replace k2 := k2.later hb2
      clear hb2
      replace hM : Hid _ := hM
      have k3 := Bk.new w2 #[.int .i64 op, .int .i64 0] 25
      replace k2 := k2.alloc (.cells #[.int .i64 op, .int .i64 0] 25)
      go_wp2_with (refine look_s _ rfl _ _ rfl w1.heap.size 20 (putL wdP) D rfl hM.out W rfl hws _ _ HG.out.1 HG.out.2 ?_)
      refine (IS0 _ (HE.out.tb.later (B1.alloc B1.size _))).mono ?_
      rintro e w4 ⟨rfl, hb4⟩
      have B4 := bel_afterQ (B1.alloc B1.size _) hb4
      replace k2 := k2.later hb4
      replace k3 := k3.later hb4
      clear hb4 B1 IS0
      rcases SB.out with ⟨rfl, rfl, rfl, rfl⟩ | ⟨hn, rfl, rfl, rfl⟩
      · obtain ⟨w9, hrun, k9, hg9, _⟩ := k2.store 25 #[.int .i64 x1, .int .i64 0] rfl (by kernel_rfl) (by kernel_rfl)
        have r0 : w9.cell? ⟨w.heap.size, 0, none⟩ = some (.int .i64 x1) := k9.cell 0 _ rfl
        have r1 : w9.cell? ⟨w.heap.size, 1, none⟩ = some (.int .i64 0) := k9.cell 1 _ rfl
        have c0 : w4.cell? ⟨w2.heap.size, 0, none⟩ = some (.int .i64 x1) := k3.cell 0 _ rfl
        have c1 : w4.cell? ⟨w2.heap.size, 1, none⟩ = some (.int .i64 0) := k3.cell 1 _ rfl
        clear k2 k3 k9 SB
        go_wp2_with (refine store_q hrun rfl _ _ rfl rfl rfl rfl ?_)
        exact bodyPost_ret (v := .tuple #[.agg #[.int .i64 x1, .int .i64 0], .bool true]) (by simp [results, Tryd.results10, go_sem, r0, r1]) rfl ⟨rfl, bel_set B4 hg9 (Nat.le_refl _)⟩
      · obtain ⟨w9, hrun, k9, hg9, _⟩ := k2.store 25 #[.int .i64 0, .int .i64 0] rfl (by kernel_rfl) (by kernel_rfl)
        have r0 : w9.cell? ⟨w.heap.size, 0, none⟩ = some (.int .i64 0) := k9.cell 0 _ rfl
        have r1 : w9.cell? ⟨w.heap.size, 1, none⟩ = some (.int .i64 0) := k9.cell 1 _ rfl
        replace hn := str_ne' hn
        clear k2 k3 k9 SB
        go_wp2_with (refine store_q hrun rfl _ _ rfl rfl rfl rfl ?_)
        exact bodyPost_ret (v := .tuple #[.agg #[.int .i64 0, .int .i64 0], .bool false]) (by simp [results, Tryd.results10, go_sem, r0, r1]) rfl ⟨rfl, bel_set B4 hg9 (Nat.le_refl _)⟩
    · have hh' := hh
      rw [hh] at CA
      have SB : Hid (numIs (rM s) 10 = false ∧ (rdC s).1 = 0 ∧ (rdC s).2.1 = 0 ∧ (rdC s).2.2 = false ∨ numIs (rM s) 10 = true ∧ (showB op (numV (rM s) 10) = s ∧ (rdC s).1 = op ∧ (rdC s).2.1 = numV (rM s) 10 ∧ (rdC s).2.2 = true ∨ showB op (numV (rM s) 10) ≠ s ∧ (rdC s).1 = 0 ∧ (rdC s).2.1 = 0 ∧ (rdC s).2.2 = false)) := (by
        cases hi : numIs (rM s) 10
        · exact .inl ⟨rfl, rd_eq (rd_nonum hh hi)⟩
        · refine .inr ⟨rfl, ?_⟩
          by_cases e : showB op (numV (rM s) 10) = s
          · exact .inl ⟨e, rd_eq (rd_shown hne e)⟩
          · exact .inr ⟨e, rd_eq (read_num hp hh e)⟩ : _ ∨ _)
      clear hp hh hh' hne ho
      have IS0 := IS (numV (rM s) 10)
      clear IS
      generalize showB op (numV (rM s) 10) = sb at IS0 SB
      generalize numV (rM s) 10 = nv at *
      generalize numIs (rM s) 10 = ni at *
      generalize (rdC s).1 = x1 at SB ⊢
      generalize (rdC s).2.1 = x2 at SB ⊢
      generalize (rdC s).2.2 = x3 at SB ⊢
      generalize rW s = W at *
      generalize rM s = M at *
      go_enter Tryd.func10, Tryd.ntmps10
      have k2 := Bk.new w #[.int .i64 0, .int .i64 0] 25
      go_wp2_with fail
      refine (CA _).mono ?_
      rintro e w1 ⟨rfl, hb1⟩
      have B1 := bel_afterQ (qbel w _) hb1
      replace k2 := k2.later hb1
      clear hb1 CA
      go_wp2_with fail
      refine (codeWords_any _).mono ?_
      rintro e w2 ⟨rfl, ⟨D, hM⟩, hb2⟩
      replace B1 := bel_afterQ B1 hb2
      replace k2 := k2.later hb2
      clear hb2
      replace hM : Hid _ := hM
      have hlt := k2.lt
      have hnb : Hid (w.heap.size ≠ w2.heap.size) := (by omega : w.heap.size ≠ w2.heap.size)
      clear hlt
      have k3 := Bk.new w2 #[.int .i64 op, .int .i64 0] 25
      replace k2 := k2.alloc (.cells #[.int .i64 op, .int .i64 0] 25)
      go_wp2_with (refine look_s _ rfl _ _ rfl w1.heap.size 20 (putL wdP) D rfl hM.out W rfl hws _ _ HG.out.1 HG.out.2 ?_)
      refine (RN _ (HE.out.later (B1.alloc B1.size _))).mono ?_
      rintro e w5 ⟨rfl, hb5⟩
      have hl2 : w.heap.size ≤ w2.heap.size := B1.size
      have B5 := bel_afterQ (B1.alloc B1.size _) hb5
      replace k2 := k2.later hb5
      replace k3 := k3.later hb5
      clear hb5 B1 RN
      have f1 := k3.frozen 1
      have d1 : w5.cell? ⟨w2.heap.size, 1, none⟩ = some (.int .i64 0) := k3.cell 1 _ rfl
      have B6 : Below w.heap.size w (w5.setCell ⟨w2.heap.size, 1, none⟩ (.int .i64 nv)) := B5.setCell hl2 _
      have k2' := k2.setOff hnb.out 1 (.int .i64 nv)
      have k3' : Bk (w5.setCell ⟨w2.heap.size, 1, none⟩ (.int .i64 nv)) w2.heap.size #[.int .i64 op, .int .i64 nv] 25 := k3.set 1 (.int .i64 nv)
      have HT : Hid (Tb (w5.setCell ⟨w2.heap.size, 1, none⟩ (.int .i64 nv))) := HE.out.tb.later B6
      clear k2 k3 HE
      have hst := store_one f1 d1 (v := nv)
      generalize w5.setCell ⟨w2.heap.size, 1, none⟩ (.int .i64 nv) = w6 at *
      clear f1 d1 B5
      rcases SB.out with ⟨rfl, rfl, rfl, rfl⟩ | ⟨rfl, hx⟩
      · obtain ⟨w9, hrun, k9, hg9, _⟩ := k2'.store 25 #[.int .i64 0, .int .i64 0] rfl (by kernel_rfl) (by kernel_rfl)
        have r0 : w9.cell? ⟨w.heap.size, 0, none⟩ = some (.int .i64 0) := k9.cell 0 _ rfl
        have r1 : w9.cell? ⟨w.heap.size, 1, none⟩ = some (.int .i64 0) := k9.cell 1 _ rfl
        clear k2' k3' k9 SB IS0
        go_wp2_with (first | (refine store_q hst rfl _ _ rfl rfl rfl rfl ?_) | (refine store_q hrun rfl _ _ rfl rfl rfl rfl ?_))
        exact bodyPost_ret (v := .tuple #[.agg #[.int .i64 0, .int .i64 0], .bool false]) (by simp [results, Tryd.results10, go_sem, r0, r1]) rfl ⟨rfl, bel_set B6 hg9 (Nat.le_refl _)⟩
      · replace hx : Hid _ := hx
        have c0 : w6.cell? ⟨w2.heap.size, 0, none⟩ = some (.int .i64 op) := k3'.cell 0 _ rfl
        have c1 : w6.cell? ⟨w2.heap.size, 1, none⟩ = some (.int .i64 nv) := k3'.cell 1 _ rfl
        go_wp2_with (refine store_q hst rfl _ _ rfl rfl rfl rfl ?_)
        refine (IS0 _ HT.out).mono ?_
        rintro e w4 ⟨rfl, hb4⟩
        have B4 := bel_afterQ B6 hb4
        have k2 := k2'.later hb4
        have k3 := k3'.later hb4
        clear hb4 B6 IS0 c0 c1 k2' k3' hst HT
        rcases hx.out with ⟨rfl, rfl, rfl, rfl⟩ | ⟨hn, rfl, rfl, rfl⟩
        · obtain ⟨w9, hrun, k9, hg9, _⟩ := k2.store 25 #[.int .i64 x1, .int .i64 x2] rfl (by kernel_rfl) (by kernel_rfl)
          have r0 : w9.cell? ⟨w.heap.size, 0, none⟩ = some (.int .i64 x1) := k9.cell 0 _ rfl
          have r1 : w9.cell? ⟨w.heap.size, 1, none⟩ = some (.int .i64 x2) := k9.cell 1 _ rfl
          have c0 : w4.cell? ⟨w2.heap.size, 0, none⟩ = some (.int .i64 x1) := k3.cell 0 _ rfl
          have c1 : w4.cell? ⟨w2.heap.size, 1, none⟩ = some (.int .i64 x2) := k3.cell 1 _ rfl
          clear k2 k3 k9 SB hx
          go_wp2_with (refine store_q hrun rfl _ _ rfl rfl rfl rfl ?_)
          exact bodyPost_ret (v := .tuple #[.agg #[.int .i64 x1, .int .i64 x2], .bool true]) (by simp [results, Tryd.results10, go_sem, r0, r1]) rfl ⟨rfl, bel_set B4 hg9 (Nat.le_refl _)⟩
        · obtain ⟨w9, hrun, k9, hg9, _⟩ := k2.store 25 #[.int .i64 0, .int .i64 0] rfl (by kernel_rfl) (by kernel_rfl)
          have r0 : w9.cell? ⟨w.heap.size, 0, none⟩ = some (.int .i64 0) := k9.cell 0 _ rfl
          have r1 : w9.cell? ⟨w.heap.size, 1, none⟩ = some (.int .i64 0) := k9.cell 1 _ rfl
          replace hn := str_ne' hn
          clear k2 k3 k9 SB hx
          go_wp2_with (refine store_q hrun rfl _ _ rfl rfl rfl rfl ?_)
          exact bodyPost_ret (v := .tuple #[.agg #[.int .i64 0, .int .i64 0], .bool false]) (by simp [results, Tryd.results10, go_sem, r0, r1]) rfl ⟨rfl, bel_set B4 hg9 (Nat.le_refl _)⟩

end Go.Proofs.YtimkdjolipnahaaDoor
