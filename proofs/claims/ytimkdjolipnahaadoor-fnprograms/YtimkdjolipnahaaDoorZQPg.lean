/- Reading a program: codeAhead and ReadProgram of the program. -/
import Derived.Test.YtimkdjolipnahaaDoorZQRdS
namespace Go.Proofs.YtimkdjolipnahaaDoor
open Go.RowKit

theorem Tryd.infoCQ : (Tryd.prog.info? 25).map (fun i => (i.zero, i.size, i.bytes)) = some (some (.agg #[.int .i64 0, .int .i64 0]), 2, 16) := by kernel_rfl
theorem Tryd.underCQ : Tryd.prog.underlying 32 = some (.slice 25) := by kernel_rfl
theorem app_code {ops : Array Oper} {rest : List Oper} {o : Oper} {a : Act} {Q : Exit → Act → World → Prop} (w : World) (hgd : o.guard = none) (s x : Operand)
    (ho : o.op = .call { callee := .builtin .append, args := #[s, x], argTypes := #[32, 32] }) (B : Nat) (v : Value) (n : Nat) (xs : List Value) (hs : a.eval s = v) (hown : w.ownsRow B 25 2 v n xs)
    (g c : Nat) (z y : Int) (hx : a.eval x = .slice (some ⟨g, 0, none⟩) 1 c) (hc : w.cell? ⟨g, 0, none⟩ = some (.int .i64 z) ∧ w.cell? ⟨g, 1, none⟩ = some (.int .i64 y)) (hn : n ≤ 1000000000) (hB : B ≤ w.heap.size)
    (h : ∀ v' w', w'.ownsRow B 25 2 v' (n + 1) (xs ++ [.int .i64 z, .int .i64 y]) → w.grownBy w' v.ownBlock → wpList Tryd.prog ops Q rest (a.put o.dst v') w') : wpList Tryd.prog ops Q (o :: rest) a w := by
  obtain ⟨i, hi, hzz⟩ := Option.map_eq_some_iff.1 Tryd.infoCQ
  simp only [Prod.mk.injEq] at hzz
  obtain ⟨hz, hsz, hby⟩ := hzz
  refine wpList_append_own_at w hgd s x 32 ho B 25 i _ 2 16 Tryd.underCQ hi hz hsz hby rfl (by omega) v n xs hs hown ⟨g, 0, none⟩ 1 c [.int .i64 z, .int .i64 y] hx rfl (fun j u hj => ?_) (fun u hu => ?_) (by unfold maxLen; omega) (by omega) hB (fun v' w' h1 h2 _ h4 => h v' w' h1 h2)
  · match j, hj with
    | 0, hj => simp at hj; subst hj; simpa [Addr.add] using hc.1
    | 1, hj => simp at hj; subst hj; simpa [Addr.add] using hc.2
  · simp at hu; rcases hu with rfl | rfl <;> rfl

/-- The cells of a row of Codes. -/
def ccells (l : List (Int × Int)) : List Value := l.flatMap fun p => [.int .i64 p.1, .int .i64 p.2]
theorem ccells_add (l : List (Int × Int)) (p : Int × Int) : ccells (l ++ [p]) = ccells l ++ [.int .i64 p.1, .int .i64 p.2] := by simp [ccells]
theorem clen_add (l : List (Int × Int)) (p : Int × Int) : (l ++ [p]).length = l.length + 1 := by simp
noncomputable def pgC (L : List UInt8) : List (Int × Int) × Int := pgF (L.length + 1) L []
/-- The answer of ReadProgram. -/
def PgOut (L : List UInt8) (B : Nat) (e : Ending) (w' : World) : Prop := ∃ v, e = .returned (.tuple #[v, .int .i64 (pgC L).2]) ∧ w'.ownsRow B 25 2 v (pgC L).1.length (ccells (pgC L).1)
theorem PgOut.of {L : List UInt8} {B : Nat} {w' : World} {l : List (Int × Int)} {n : Int} {v : Value} (h : pgC L = (l, n)) (ho : w'.ownsRow B 25 2 v l.length (ccells l)) : PgOut L B (.returned (.tuple #[v, .int .i64 n])) w' := ⟨v, by rw [h], by rw [h]; exact ho⟩

/-- The line ahead, and what is behind it. -/
def lnB (l : List UInt8) : ByteArray := ⟨(cutL 10 l).1.toArray⟩
def lnR (l : List UInt8) : List UInt8 := (cutL 10 l).2.1
def lnE (l : List UInt8) : Bool := (cutL 10 l).2.2
theorem ln_size (l : List UInt8) : (lnB l).size ≤ l.length ∧ (lnR l).length ≤ l.length ∧ (lnE l = true → (lnR l).length < l.length) := by
  show ((cutL 10 l).1.toArray).size ≤ _ ∧ ((cutL 10 l).2.1).length ≤ _ ∧ ((cutL 10 l).2.2 = true → ((cutL 10 l).2.1).length < _)
  unfold cutL
  cases h : l.findIdx? (· == 10) with
  | none => simp
  | some i =>
    have := (List.findIdx?_eq_some_iff_getElem.1 h).1
    simp
    omega
theorem pg_ln_none {f : Nat} {l : List UInt8} {acc : List (Int × Int)} (hl : l ≠ []) (h : lnE l = false) : pgF (f + 1) l acc = ([], (acc.length : Int)) := by
  refine pg_none hl ?_
  unfold lnE cutL at h
  cases hf : l.findIdx? (· == 10) with
  | none => rfl
  | some i => rw [hf] at h; cases h
theorem ln_some {l : List UInt8} (h : lnE l = true) : ∃ i, l.findIdx? (· == 10) = some i ∧ lnB l = ⟨(l.take i).toArray⟩ ∧ lnR l = l.drop (i + 1) := by
  unfold lnE cutL at h
  unfold lnB lnR cutL
  cases hf : l.findIdx? (· == 10) with
  | none => rw [hf] at h; cases h
  | some i => exact ⟨i, rfl, rfl, rfl⟩
theorem pg_ln_bad {f : Nat} {l : List UInt8} {acc : List (Int × Int)} (hl : l ≠ []) (h : lnE l = true) (hb : ¬ ((rdC (lnB l)).2.2 = true ∧ acc.length ≠ 100)) : pgF (f + 1) l acc = ([], (acc.length : Int)) := by
  obtain ⟨i, h1, h2, _⟩ := ln_some h
  rw [h2] at hb
  exact pg_bad hl h1 hb
theorem pg_ln_step {f : Nat} {l : List UInt8} {acc : List (Int × Int)} (hl : l ≠ []) (h : lnE l = true) (hb : (rdC (lnB l)).2.2 = true ∧ acc.length ≠ 100) : pgF (f + 1) l acc = pgF f (lnR l) (acc ++ [((rdC (lnB l)).1, (rdC (lnB l)).2.1)]) := by
  obtain ⟨i, h1, h2, h3⟩ := ln_some h
  rw [h2] at hb
  rw [h2, h3]
  exact pg_step hl h1 hb

/-- What codeAhead answers. -/
noncomputable def caV (l : List UInt8) : Value := if lnE l = true then .tuple #[codeV (rdC (lnB l)).1 (rdC (lnB l)).2.1, .string ⟨(lnR l).toArray⟩, .bool (rdC (lnB l)).2.2] else .tuple #[codeV 0 0, .string ⟨#[]⟩, .bool false]
set_option maxRecDepth 100000 in
set_option maxHeartbeats 1000000 in
theorem codeAhead_any (l : List UInt8) (w : World) (hs : l.length ≤ 1000000000000) (hE : Env w) :
    Calls Tryd.prog 35 #[.string ⟨l.toArray⟩] w fun e w' => e = .returned (caV l) ∧ Below w.heap.size w w' := by
  have CA : ∀ w, Calls Tryd.prog 25 #[.string ⟨l.toArray⟩, .int .i32 10] w fun e w' => e = .returned (.tuple #[.string (lnB l), .string ⟨(lnR l).toArray⟩, .bool (lnE l)]) ∧ Below w.heap.size w w' := fun w => cutAt_any ⟨l.toArray⟩ 10 w (by decide) (by show l.toArray.size ≤ _; rw [List.size_toArray]; exact hs)
  have z1 := (ln_size l).1
  have RD := fun w h => implRead_any (lnB l) w (by omega) h
  have HE : Hid (Env w) := hE
  clear hE z1 hs
  unfold caV codeV at *
  generalize (⟨l.toArray⟩ : ByteArray) = s at *
  generalize (⟨(lnR l).toArray⟩ : ByteArray) = r at *
  generalize (rdC (lnB l)).1 = x1 at *
  generalize (rdC (lnB l)).2.1 = x2 at *
  generalize (rdC (lnB l)).2.2 = x3 at *
  generalize lnB l = b at *
  cases hh : lnE l
  · rw [hh] at CA
    rw [if_neg (by simp)]
    clear hh RD HE
    go_enter Tryd.func35, Tryd.ntmps35
    have k2 := Bk.new w #[.int .i64 0, .int .i64 0] 25
    go_wp2_with fail
    refine (CA _).mono ?_
    rintro e w1 ⟨rfl, hb1⟩
    have B1 := bel_afterQ (qbel w _) hb1
    replace k2 := k2.later hb1
    clear hb1 CA
    obtain ⟨w9, hrun, k9, hg9, _⟩ := k2.store 25 #[.int .i64 0, .int .i64 0] rfl (by kernel_rfl) (by kernel_rfl)
    have r0 : w9.cell? ⟨w.heap.size, 0, none⟩ = some (.int .i64 0) := k9.cell 0 _ rfl
    have r1 : w9.cell? ⟨w.heap.size, 1, none⟩ = some (.int .i64 0) := k9.cell 1 _ rfl
    clear k2 k9
    go_wp2_with (refine store_q hrun rfl _ _ rfl rfl rfl rfl ?_)
    exact bodyPost_ret (v := .tuple #[.agg #[.int .i64 0, .int .i64 0], .string ⟨#[]⟩, .bool false]) (by simp [results, Tryd.results35, go_sem, r0, r1]) rfl ⟨rfl, bel_set B1 hg9 (Nat.le_refl _)⟩
  · rw [hh] at CA
    rw [if_pos rfl]
    clear hh
    go_enter Tryd.func35, Tryd.ntmps35
    have k2 := Bk.new w #[.int .i64 0, .int .i64 0] 25
    go_wp2_with fail
    refine (CA _).mono ?_
    rintro e w1 ⟨rfl, hb1⟩
    have B1 := bel_afterQ (qbel w _) hb1
    replace k2 := k2.later hb1
    clear hb1 CA
    go_wp2_with fail
    refine (RD _ (HE.out.later B1)).mono ?_
    rintro e w2 ⟨rfl, hb2⟩
    replace B1 := bel_afterQ B1 hb2
    replace B1 := B1.alloc B1.size (.cells #[.int .i64 x1, .int .i64 x2] 25)
    replace k2 := (k2.later hb2).alloc (.cells #[.int .i64 x1, .int .i64 x2] 25)
    clear hb2 RD HE
    obtain ⟨w9, hrun, k9, hg9, _⟩ := k2.store 25 #[.int .i64 x1, .int .i64 x2] rfl (by kernel_rfl) (by kernel_rfl)
    have r0 : w9.cell? ⟨w.heap.size, 0, none⟩ = some (.int .i64 x1) := k9.cell 0 _ rfl
    have r1 : w9.cell? ⟨w.heap.size, 1, none⟩ = some (.int .i64 x2) := k9.cell 1 _ rfl
    clear k2 k9
    go_wp2_with (refine store_q hrun rfl _ _ rfl rfl rfl rfl ?_)
    exact bodyPost_ret (v := .tuple #[.agg #[.int .i64 x1, .int .i64 x2], .string r, .bool x3]) (by simp [results, Tryd.results35, go_sem, r0, r1]) rfl ⟨rfl, bel_set B1 hg9 (Nat.le_refl _)⟩

theorem own_shape {w : World} {B e size n : Nat} {v : Value} {xs : List Value} (h : w.ownsRow B e size v n xs) : ∃ a c, v = .slice a n c ∧ (0 < n → ∃ g, a = some ⟨g, 0, none⟩) := by
  rcases h.2 with ⟨e, e2⟩ | ⟨g, cap, cur, e, _⟩
  · exact ⟨none, 0, by rw [e, e2], fun h => by omega⟩
  · exact ⟨_, _, e, fun _ => ⟨g, rfl⟩⟩
def strSz : Value → Nat
  | .string s => s.size
  | _ => 0
theorem bytes_ne {q : List UInt8} (h : q ≠ []) : (⟨q.toArray⟩ : ByteArray) ≠ ⟨#[]⟩ := fun e => h (by
  have := congrArg (fun b : ByteArray => b.data.toList) e
  simpa using this)
set_option maxRecDepth 100000 in
set_option maxHeartbeats 2000000 in
theorem implProg_any (L : List UInt8) (w : World) (hs : L.length ≤ 100000000) (hE : Env w) :
    Calls Tryd.prog 14 #[.string ⟨L.toArray⟩] w fun e w' => PgOut L w.heap.size e w' ∧ Below w.heap.size w w' := by
  have HE : Hid (Env w) := hE
  clear hE
  have OF : Hid (∀ l n v w', pgC L = (l, n) → World.ownsRow w' w.heap.size 25 2 v l.length (ccells l) → PgOut L w.heap.size (.returned (.tuple #[v, .int .i64 n])) w') := fun l n v w' h1 h2 => PgOut.of h1 h2
  have H0 : Hid (pgF (L.length + 1) L [] = pgC L) := (rfl : pgF (L.length + 1) L [] = pgC L)
  go_enter Tryd.func14, Tryd.ntmps14
  go_wp2
  go_loopw [0, 2, 3, 4, 5, 6, 7] (fun tv _ _ pv _ _ _ wr => ∃ (q : List UInt8) (f : Nat) (acc : List (Int × Int)) (v0 : Value), tv = .string ⟨q.toArray⟩ ∧ v0 = pv ∧ q.length ≤ f ∧ q.length ≤ L.length ∧ acc.length ≤ 100 ∧ Hid (wr.ownsRow w.heap.size 25 2 v0 acc.length (ccells acc)) ∧ Hid (pgF (f + 1) q acc = pgC L) ∧ Below w.heap.size w wr) (fun tv _ _ _ _ _ _ _ => strSz tv)
  case atStart => exact ⟨L, L.length, [], _, rfl, rfl, Nat.le_refl _, Nat.le_refl _, Nat.zero_le _, World.ownsRow_nil _ _ _ _, H0, Below.refl _ _⟩
  case round =>
    obtain ⟨q, f, acc, pv, rfl, rfl, hf, hq, ha, hown, hP, hb⟩ := hrel
    obtain ⟨va, vc, rfl, _⟩ := own_shape hown.out
    by_cases hq0 : q = []
    · subst hq0
      have hst : (⟨([] : List UInt8).toArray⟩ : ByteArray) = ⟨#[]⟩ := rfl
      rw [hst]
      go_wp2
      exact bodyPost_ret (v := .tuple #[.slice va acc.length vc, .int .i64 (-1)]) (by simp [results, Tryd.results14, go_sem]) rfl ⟨OF.out acc (-1) _ _ (hP.out.symm.trans (pg_empty _ _)) hown.out, hb⟩
    · have CQ := codeAhead_any q wr (by omega) (HE.out.later hb)
      have hne : (⟨q.toArray⟩ : ByteArray).toList.isEmpty = false := by rw [ByteArray.toList_eq]; simp [hq0]
      have hz : (⟨q.toArray⟩ : ByteArray).size = q.length := by show q.toArray.size = _; rw [List.size_toArray]
      have hzr : (⟨(lnR q).toArray⟩ : ByteArray).size = (lnR q).length := by show (lnR q).toArray.size = _; rw [List.size_toArray]
      obtain ⟨_, _, zl⟩ := ln_size q
      have hlo : (acc.length : Int) ≤ 100 := by omega
      unfold caV codeV at CQ
      cases hh : lnE q
      · have HP2 : Hid (pgF (f + 1) q acc = ([], (acc.length : Int))) := pg_ln_none hq0 hh
        rw [hh, if_neg (by simp)] at CQ
        clear hh zl hzr
        generalize (⟨q.toArray⟩ : ByteArray) = qs at *
        go_wp2_with fail
        refine CQ.mono ?_
        rintro e w1 ⟨rfl, hb1⟩
        have B1 := bel_afterQ hb hb1
        clear hb1 CQ
        go_wp2
        exact bodyPost_ret (v := .tuple #[.slice none 0 0, .int .i64 (acc.length : Int)]) (by simp [results, Tryd.results14, go_sem]) rfl ⟨OF.out [] _ _ _ (hP.out.symm.trans HP2.out) (World.ownsRow_nil _ _ _ _), B1.alloc B1.size _⟩
      · rw [hh, if_pos rfl] at CQ
        have hlr := zl hh
        have HX : Hid ((rdC (lnB q)).2.2 = false ∧ pgF (f + 1) q acc = ([], (acc.length : Int)) ∨ (rdC (lnB q)).2.2 = true ∧ (acc.length = 100 ∧ pgF (f + 1) q acc = ([], (acc.length : Int)) ∨ acc.length < 100 ∧ pgF (f + 1) q acc = pgF f (lnR q) (acc ++ [((rdC (lnB q)).1, (rdC (lnB q)).2.1)]))) := (by
          cases h3 : (rdC (lnB q)).2.2
          · exact .inl ⟨rfl, pg_ln_bad hq0 hh (by rw [h3]; simp)⟩
          · refine .inr ⟨rfl, ?_⟩
            by_cases h4 : acc.length = 100
            · exact .inl ⟨h4, pg_ln_bad hq0 hh (fun h => h.2 h4)⟩
            · exact .inr ⟨by omega, pg_ln_step hq0 hh ⟨h3, h4⟩⟩ : _ ∨ _)
        clear hh zl
        generalize (rdC (lnB q)).1 = x1 at *
        generalize (rdC (lnB q)).2.1 = x2 at *
        generalize (rdC (lnB q)).2.2 = x3 at *
        generalize (⟨q.toArray⟩ : ByteArray) = qs at *
        go_wp2_with fail
        refine CQ.mono ?_
        rintro e w1 ⟨rfl, hb1⟩
        have B1 := bel_afterQ hb hb1
        have hownA := own_laterQ hown.out hb1
        clear hb1 CQ hb hown
        have k5 := Bk.new w1 #[.int .i64 x1, .int .i64 x2] 25
        replace B1 := B1.alloc B1.size (.cells #[.int .i64 x1, .int .i64 x2] 25)
        replace hownA := hownA.alloc (.cells #[.int .i64 x1, .int .i64 x2] 25)
        rcases HX.out with ⟨rfl, h4⟩ | ⟨rfl, ⟨h4, h5⟩ | ⟨h4, h5⟩⟩
        · replace h4 : Hid _ := h4
          clear k5 hownA
          go_wp2
          exact bodyPost_ret (v := .tuple #[.slice none 0 0, .int .i64 (acc.length : Int)]) (by simp [results, Tryd.results14, go_sem]) rfl ⟨OF.out [] _ _ _ (hP.out.symm.trans h4.out) (World.ownsRow_nil _ _ _ _), B1⟩
        · replace h5 : Hid _ := h5
          have h4q : ((acc.length : Int) == 100) = true := by simp; omega
          clear k5 h4 hownA
          go_wp2
          exact bodyPost_ret (v := .tuple #[.slice none 0 0, .int .i64 (acc.length : Int)]) (by simp [results, Tryd.results14, go_sem]) rfl ⟨OF.out [] _ _ _ (hP.out.symm.trans h5.out) (World.ownsRow_nil _ _ _ _), B1⟩
        · have h5' : Hid (pgF f (lnR q) (acc ++ [(x1, x2)]) = pgC L) := (h5.symm.trans hP.out : pgF f (lnR q) (acc ++ [(x1, x2)]) = pgC L)
          have h4q : ((acc.length : Int) == 100) = false := by simp; omega
          have d0 := k5.cell 0 (.int .i64 x1) rfl
          have d1 := k5.cell 1 (.int .i64 x2) rfl
          have k6 := fun W => Bk.new W #[.int .i64 x1, .int .i64 x2] 25
          clear HX h5 hP k5
          have hc : ((w1.alloc (.cells #[.int .i64 x1, .int .i64 x2] 25)).alloc (.cells #[.int .i64 x1, .int .i64 x2] 25)).cell? ⟨w1.heap.size + 1, 0, none⟩ = some (.int .i64 x1) ∧ ((w1.alloc (.cells #[.int .i64 x1, .int .i64 x2] 25)).alloc (.cells #[.int .i64 x1, .int .i64 x2] 25)).cell? ⟨w1.heap.size + 1, 1, none⟩ = some (.int .i64 x2) := by
            have k := k6 (w1.alloc (.cells #[.int .i64 x1, .int .i64 x2] 25))
            rw [World.size_alloc] at k
            exact ⟨k.cell 0 _ rfl, k.cell 1 _ rfl⟩
          have hown4 := hownA.alloc (.cells #[.int .i64 x1, .int .i64 x2] 25)
          have hb4 := B1.alloc B1.size (.cells #[.int .i64 x1, .int .i64 x2] 25)
          clear k6 hownA B1
          go_wp2_with (at_builtin; refine app_code _ rfl _ _ rfl w.heap.size _ acc.length _ rfl hown4 _ 1 x1 x2 rfl hc (by omega) hb4.size ?_; intro v5 w5 hown5 hg5; have hb5 := own_grownQ hb4 hown4 hg5; replace hown5 : Hid _ := hown5; clear hown4 hb4 hg5)
          cases f with
          | zero => omega
          | succ f =>
            refine ⟨⟨lnR q, f, acc ++ [(x1, x2)], _, rfl, rfl, by omega, by omega, by rw [clen_add]; omega, by rw [clen_add, ccells_add]; exact hown5.out, h5', hb5⟩, ?_⟩
            show (⟨(lnR q).toArray⟩ : ByteArray).size < qs.size
            omega

end Go.Proofs.YtimkdjolipnahaaDoor
