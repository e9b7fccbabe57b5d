
import Derived.Test.YthdffigckohpoaaGreatZLAny
import Derived.Test.YthdffigckohpoaaGreatZV9
import Derived.Test.YthdffigckohpoaaGreatZCSpec
import Derived.Test.YthdffigckohpoaaGreatZV4
import Derived.Test.YthdffigckohpoaaGreatZV7
/- The draw of FnCompacted: l9Draw, DrawScavenge and DrawCompact of the model. -/
namespace Go.Proofs.YthdffigckohpoaaGreat
open Go.RowKit
theorem run_store_i (W : World) (b i : Nat) (x : Int) (old : Value) (hc : W.cell? ⟨b, i, none⟩ = some old) (hf : W.frozen? ⟨b, i, none⟩ = false) : (Instr.storeAt 2 (.pointer (some ⟨b, i, none⟩)) (.int .i64 x)).run Tryz.prog W = .ok () (W.setCell ⟨b, i, none⟩ (.int .i64 x)) := by
 go_simp
/-- A number is stored: the world behind it has a name. -/
theorem store_i {ops : Array Oper} {rest : List Oper} {o : Oper} {a : Act} {Q : Exit -> Act -> World -> Prop} (w : World) (hgd : o.guard = none) (p s : Operand)
  (ho : o.op = .store 2 p s) (b i : Nat) (x : Int) (old : Value) (hp : a.eval p = .pointer (some ⟨b, i, none⟩)) (hs : a.eval s = .int .i64 x) (hc : w.cell? ⟨b, i, none⟩ = some old) (hf : w.frozen? ⟨b, i, none⟩ = false)
  (h : ∀ w', w' = w.setCell ⟨b, i, none⟩ (.int .i64 x) -> wpList Tryz.prog ops Q rest (a.put o.dst undef) w') : wpList Tryz.prog ops Q (o :: rest) a w := by
 refine wpList_plain hgd fun K hK => ?_
 have hrun := run_store_i w b i x old hc hf
 unfold Oper.wp
 simp [execOp, ho, hp, hs, hrun, Result.andThen]
 exact hK _ _ (h _ rfl)
theorem AD.ri {w : World} {N : Nat} {cv : Value} {cs : List UInt8} {H : Nat} {W : World} {t : Hp} {g c : Nat} {v2 v3 : Value} (k : AD w N cv cs H W t (.slice (some ⟨g, 0, none⟩) 3200 c) v2 v3) (wl : t.words.length = 3200) : RI W g t.words c := by
 obtain ⟨g', c', ev, R⟩ := k.ha.fw wl
 simp only [Value.slice.injEq, Option.some.injEq, Addr.mk.injEq, and_true] at ev
 obtain ⟨rfl, -, rfl⟩ := ev
 exact R
theorem AD.word3 {w : World} {N : Nat} {cv : Value} {cs : List UInt8} {H : Nat} {W : World} {t : Hp} {g c : Nat} {v2 v3 : Value} (k : AD w N cv cs H W t (.slice (some ⟨g, 0, none⟩) 3200 c) v2 v3) (wl : t.words.length = 3200) (i : Nat) (x : Int) : AD w N cv cs H (W.setCell ⟨g, i, none⟩ (.int .i64 x)) { t with words := t.words.set i x } (.slice (some ⟨g, 0, none⟩) 3200 c) v2 v3 := by
 have R := k.ri wl
 have k' : AD w N cv cs H W t (.slice (some ⟨g, 0, none⟩) t.words.length c) v2 v3 := by rw [wl]; exact k
 have q := k'.word R (by omega) i x
 rw [wl] at q
 exact q
set_option maxRecDepth 100000 in
set_option maxHeartbeats 6400000 in
theorem Dw.scav {N : Nat} {cv : Value} {cs : List UInt8} {w : World} (h : Dw N cv cs w) (hN : N < w.heap.size) :
  Calls Tryz.prog 57 #[.pointer (some ⟨N, 0, none⟩)] w fun x w' => DrawnA w N cv cs x w' := by
 have al := bel_one w (.cells #[.slice none 0 0, .slice none 0 0, .int .i64 0, .int .i64 0, .int .i64 0, .bool false, .int .i64 0, .slice none 0 0] 26)
 have RS0 := row_any w #[.slice none 0 0, .slice none 0 0, .int .i64 0, .int .i64 0, .int .i64 0, .bool false, .int .i64 0, .slice none 0 0] 26
 have hNA : N < (w.alloc (.cells #[.slice none 0 0, .slice none 0 0, .int .i64 0, .int .i64 0, .int .i64 0, .bool false, .int .i64 0, .slice none 0 0] 26)).heap.size := by simp; omega
 have HD := (h.more al hN).any hNA
 have sA : (w.alloc (.cells #[.slice none 0 0, .slice none 0 0, .int .i64 0, .int .i64 0, .int .i64 0, .bool false, .int .i64 0, .slice none 0 0] 26)).heap.size = w.heap.size + 1 := by simp
 go_enter Tryz.func57, Tryz.ntmps57
 go_wp2_with fail
 refine HD.mono ?_
 rintro e w1 ⟨⟨t, v1, v2, v3, rfl, ha, sz⟩, g1, d1⟩
 rw [sA] at ha
 obtain ⟨p1, e1, rfl, -⟩ := IRs ha.w1
 obtain ⟨p2, e2, rfl, -⟩ := IRs (IR_of_owns ha.o2)
 obtain ⟨p3, e3, rfl, -⟩ := IRs (IR_of_owns ha.o3)
 have al1 := bel_one w1 (.cells #[.slice p1 t.words.length e1, .slice p2 t.roots.length e2, .int .i64 t.old, .int .i64 t.eden, .int .i64 t.surv, .bool t.flip, .int .i64 t.hash, .slice p3 t.kept.length e3] 26)
 have sz1 : w.heap.size + 1 <= w1.heap.size := by have := g1.size; rw [sA] at this; exact this
 have D1 : AD w N cv cs w1.heap.size (w1.alloc (.cells #[.slice p1 t.words.length e1, .slice p2 t.roots.length e2, .int .i64 t.old, .int .i64 t.eden, .int .i64 t.surv, .bool t.flip, .int .i64 t.hash, .slice p3 t.kept.length e3] 26)) t (.slice p1 t.words.length e1) (.slice p2 t.roots.length e2) (.slice p3 t.kept.length e3) := by
  have gw1 : w.grownBy w1 (some N) := gtrans ⟨al.os, al.tape, al.output, al.size, fun k hk _ => al.block k hk⟩ g1
  refine ⟨d1.more al1 (by omega), h, gtrans gw1 ⟨al1.os, al1.tape, al1.output, al1.size, fun k hk _ => al1.block k hk⟩, row_any w1 #[.slice p1 t.words.length e1, .slice p2 t.roots.length e2, .int .i64 t.old, .int .i64 t.eden, .int .i64 t.surv, .bool t.flip, .int .i64 t.hash, .slice p3 t.kept.length e3] 26, (ha.down (by omega)).later al1, ⟨_, (RS0.of_block (g1.block _ RS0.lt (fun e => by injection e; omega))).of_block (al1.block _ (by omega))⟩, fun q => by have := ha.w1.inlt q; omega, fun q => by have := ha.b1 _ q; omega, hN, by omega, sz⟩
 have HOK := specHeapOk_c _ t _ D1.ha.hr (by omega) (by omega)
 have tlen := sz
 clear ha sA hNA g1 d1 al RS0 sz
 go_wp2_with fail
 refine HOK.mono ?_
 rintro x w2 ⟨rfl, hb2⟩
 have D2 := D1.later hb2
 clear HOK hb2 D1 al1
 generalize w1.heap.size = H at *
 cases hok : okC t
 ·obtain ⟨c0, c1, c2, c3, c4, c5, c6, c7⟩ := va8_cells D2.row
  obtain ⟨fR, FR⟩ := D2.res
  have OKC : (#[.slice p1 t.words.length e1, .slice p2 t.roots.length e2, .int .i64 t.old, .int .i64 t.eden, .int .i64 t.surv, .bool t.flip, .int .i64 t.hash, .slice p3 t.kept.length e3] : Array Value).all (·.oneCell') = true := by simp [Value.oneCell']
  have ED := fun W' (q : World.grownBy _ W' _) => D2.done q
  go_wp2_with ((with_reducible refine store_box _ ?_ (.tmp 2) (.tmp 15) 26 ?_ 26 w.heap.size 8 #[.slice p1 t.words.length e1, .slice p2 t.roots.length e2, .int .i64 t.old, .int .i64 t.eden, .int .i64 t.surv, .bool t.flip, .int .i64 t.hash, .slice p3 t.kept.length e3] _ ?_ ?_ FR ?_ ?_ OKC ?_); rfl; rfl; rfl; rfl; rfl; kernel_rfl; intro w9 F9 G9)
  obtain ⟨r0, r1, r2, r3, r4, r5, r6, r7⟩ := zrc8 F9
  exact bodyPost_ret (v := .agg #[.slice p1 t.words.length e1, .slice p2 t.roots.length e2, .int .i64 t.old, .int .i64 t.eden, .int .i64 t.surv, .bool t.flip, .int .i64 t.hash, .slice p3 t.kept.length e3]) (by simp [results, Tryz.results57, go_sem, r0, r1, r2, r3, r4, r5, r6, r7]) rfl (ED _ G9)
 ·have BO := D2.dw.once 8 (by omega) (by omega)
  go_wp2_with fail
  refine BO.mono ?_
  rintro x w3 ⟨⟨bo, rfl⟩, go, dO⟩
  have D3 := D2.step ⟨go, dO⟩
  clear BO go dO D2
  cases bo
  ·obtain ⟨c0, c1, c2, c3, c4, c5, c6, c7⟩ := va8_cells D3.row
   obtain ⟨fR, FR⟩ := D3.res
   have OKC : (#[.slice p1 t.words.length e1, .slice p2 t.roots.length e2, .int .i64 t.old, .int .i64 t.eden, .int .i64 t.surv, .bool t.flip, .int .i64 t.hash, .slice p3 t.kept.length e3] : Array Value).all (·.oneCell') = true := by simp [Value.oneCell']
   have ED := fun W' (q : World.grownBy _ W' _) => D3.done q
   go_wp2_with ((with_reducible refine store_box _ ?_ (.tmp 2) (.tmp 15) 26 ?_ 26 w.heap.size 8 #[.slice p1 t.words.length e1, .slice p2 t.roots.length e2, .int .i64 t.old, .int .i64 t.eden, .int .i64 t.surv, .bool t.flip, .int .i64 t.hash, .slice p3 t.kept.length e3] _ ?_ ?_ FR ?_ ?_ OKC ?_); rfl; rfl; rfl; rfl; rfl; kernel_rfl; intro w9 F9 G9)
   obtain ⟨r0, r1, r2, r3, r4, r5, r6, r7⟩ := zrc8 F9
   exact bodyPost_ret (v := .agg #[.slice p1 t.words.length e1, .slice p2 t.roots.length e2, .int .i64 t.old, .int .i64 t.eden, .int .i64 t.surv, .bool t.flip, .int .i64 t.hash, .slice p3 t.kept.length e3]) (by simp [results, Tryz.results57, go_sem, r0, r1, r2, r3, r4, r5, r6, r7]) rfl (ED _ G9)
  ·obtain ⟨wl, ⟨ol, ou⟩, -⟩ := (c_right hok).1
   have hp1 := (c_right hok).2.2.1.1
   obtain ⟨g, c, ev, R3⟩ := D3.ha.fw wl
   simp only [Value.slice.injEq] at ev
   obtain ⟨rfl, -, rfl⟩ := ev
   rw [wl] at D3
   go_wp2_with fail
   go_loopw [4] (fun _ wr => ∃ t' : Hp, AD w N cv cs H wr t' (.slice (some ⟨g, 0, none⟩) 3200 e1) (.slice p2 t.roots.length e2) (.slice p3 t.kept.length e3) /\ t'.words.length = 3200 /\ t'.roots = t.roots /\ t'.kept = t.kept /\ 0 <= t'.old /\ t'.old <= 2000 /\ 1 <= t'.hash) (fun _ wr => (2000 - intOf ((wr.cell? ⟨H, 2, none⟩).getD undef)).toNat)
   case atStart => exact ⟨t, D3, wl, rfl, rfl, ol, ou, hp1⟩
   case round =>
    clear D3 R3
    obtain ⟨t', D, wl', er, ek, o1, o2, hl1⟩ := hrel
    have R : RI wr g t'.words e1 := D.ri wl'
    obtain ⟨c0, c1, c2, c3, c4, c5, c6, c7⟩ := va8_cells D.row
    have mes : intOf ((wr.cell? ⟨H, 2, none⟩).getD undef) = t'.old := by rw [c2]; rfl
    by_cases h1 : t'.old < 1936
    ·by_cases h2 : t'.hash < 1000000000
     ·obtain ⟨a, ha⟩ := Int.eq_ofNat_of_zero_le o1
      rw [ha] at h1 o1 o2 c2 mes
      have l0 : (a : Int) < 3200 := by omega
      have l1 : (a : Int) + 1 < 3200 := by omega
      have l2 : (a : Int) + 2 < 3200 := by omega
      have k0 := R.cell (i := a) (by omega)
      have f0 := R.frozen a
      obtain ⟨hsh, hh⟩ : ∃ hsh, hsh = t'.hash := ⟨_, rfl⟩
      have D' : Hid (AD w N cv cs H wr t' (.slice (some ⟨g, 0, none⟩) 3200 e1) (.slice p2 t.roots.length e2) (.slice p3 t.kept.length e3) /\ t'.words.length = 3200) := ⟨D, wl'⟩
      rw [<- hh] at c6 h2 hl1
      replace hh : Hid (hsh = t'.hash) := hh
      have TW : Hid (t'.roots = t.roots /\ t'.kept = t.kept) := ⟨er, ek⟩
      replace ha : Hid (t'.old = a) := ha
      replace mes : Hid (intOf ((wr.cell? ⟨H, 2, none⟩).getD undef) = a) := mes
      clear D R wl' er ek o2 c1 c3 c4 c5 c7
      generalize t'.words.getD a 0 = y0 at *
      go_wp2_with (first
       | (refine store_i _ ?_ (.tmp 29) (.const (.int .i64 40)) ?_ g a 40 _ ?_ ?_ k0 f0 ?_; rfl; rfl; rfl; rfl; intro w4 E4; have X4 := D'.out.1.word3 D'.out.2 a 40; rw [<- E4] at X4; have L4 : (t'.words.set a 40).length = 3200 := (by rw [List.length_set]; exact D'.out.2); have R4 := X4.ri L4; have k4 := R4.cell (i := a + 1) (by show a + 1 < (t'.words.set a 40).length; omega); have f4 := R4.frozen (a + 1); have q4 := va8_cells X4.row; have c04 := q4.1; have c24 := q4.2.2.1; have c64 : w4.cell? ⟨H, 6, none⟩ = some (.int .i64 hsh) := (by rw [hh.out]; exact q4.2.2.2.2.2.2.1); clear E4 q4 R4 k0 f0 c0 c2 c6)
       | (refine store_i _ ?_ (.tmp 34) (.const (.int .i64 9)) ?_ g (a + 1) 9 _ ?_ ?_ k4 f4 ?_; rfl; rfl; rfl; rfl; intro w5 E5; have X5 := X4.word3 L4 (a + 1) 9; rw [<- E5] at X5; have L5 : ((t'.words.set a 40).set (a + 1) 9).length = 3200 := (by rw [List.length_set]; exact L4); have R5 := X5.ri L5; have k5 := R5.cell (i := a + 2) (by show a + 2 < ((t'.words.set a 40).set (a + 1) 9).length; omega); have f5 := R5.frozen (a + 2); have q5 := va8_cells X5.row; have c05 := q5.1; have c25 := q5.2.2.1; have c65 : w5.cell? ⟨H, 6, none⟩ = some (.int .i64 hsh) := (by rw [hh.out]; exact q5.2.2.2.2.2.2.1); clear E5 q5 R5 k4 f4 c04 c24 c64)
       | (refine store_i _ ?_ (.tmp 41) (.tmp 40) ?_ g (a + 2) hsh _ ?_ ?_ k5 f5 ?_; rfl; rfl; rfl; rfl; intro w6 E6; have X6 := X5.word3 L5 (a + 2) hsh; rw [<- E6] at X6; have L6 : (((t'.words.set a 40).set (a + 1) 9).set (a + 2) hsh).length = 3200 := (by rw [List.length_set]; exact L5); have q6 := va8_cells X6.row; have fz6 := X6.row.frozen 6; have c26 := q6.2.2.1; have c66 : w6.cell? ⟨H, 6, none⟩ = some (.int .i64 hsh) := (by rw [hh.out]; exact q6.2.2.2.2.2.2.1); clear E6 q6 k5 f5 c05 c25 c65)
       | (refine store_i _ ?_ (.tmp 45) (.tmp 44) ?_ H 6 (hsh + 1) _ ?_ ?_ c66 fz6 ?_; rfl; rfl; rfl; rfl; intro w7 E7; have X7 := X6.hash (hsh + 1); rw [<- E7] at X7; have q7 := va8_cells X7.row; have fz7 := X7.row.frozen 2; have c27 := q7.2.2.1; clear E7 q7 fz6 c26 c66)
       | (refine store_i _ ?_ (.tmp 48) (.tmp 47) ?_ H 2 ((a : Int) + 44) _ ?_ ?_ c27 fz7 ?_; rfl; rfl; rfl; rfl; intro w8 E8; have X8 := X7.old ((a : Int) + 44); rw [<- E8] at X8; have z2 := (va8_cells X8.row).2.2.1; clear E8 fz7 c27))
      exact ⟨⟨_, X8, L6, TW.out.1, TW.out.2, by show (0 : Int) <= (a : Int) + 44; omega, by show (a : Int) + 44 <= 2000; omega, by show 1 <= hsh + 1; omega⟩, by rw [mes.out]; simp [intOf]; omega⟩
     ·obtain ⟨fR, FR⟩ := D.res
      have OKC : (#[.slice (some ⟨g, 0, none⟩) 3200 e1, .slice p2 t.roots.length e2, .int .i64 t'.old, .int .i64 t'.eden, .int .i64 t'.surv, .bool t'.flip, .int .i64 t'.hash, .slice p3 t.kept.length e3] : Array Value).all (·.oneCell') = true := by simp [Value.oneCell']
      have ED := fun W' (q : World.grownBy _ W' _) => D.done q
      go_wp2_with ((with_reducible refine store_box _ ?_ (.tmp 2) (.tmp 49) 26 ?_ 26 w.heap.size 8 #[.slice (some ⟨g, 0, none⟩) 3200 e1, .slice p2 t.roots.length e2, .int .i64 t'.old, .int .i64 t'.eden, .int .i64 t'.surv, .bool t'.flip, .int .i64 t'.hash, .slice p3 t.kept.length e3] _ ?_ ?_ FR ?_ ?_ OKC ?_); rfl; rfl; rfl; rfl; rfl; kernel_rfl; intro w9 F9 G9)
      obtain ⟨r0, r1, r2, r3, r4, r5, r6, r7⟩ := zrc8 F9
      exact bodyPost_ret (v := .agg #[.slice (some ⟨g, 0, none⟩) 3200 e1, .slice p2 t.roots.length e2, .int .i64 t'.old, .int .i64 t'.eden, .int .i64 t'.surv, .bool t'.flip, .int .i64 t'.hash, .slice p3 t.kept.length e3]) (by simp [results, Tryz.results57, go_sem, r0, r1, r2, r3, r4, r5, r6, r7]) rfl (ED _ G9)
    ·obtain ⟨fR, FR⟩ := D.res
     have OKC : (#[.slice (some ⟨g, 0, none⟩) 3200 e1, .slice p2 t.roots.length e2, .int .i64 t'.old, .int .i64 t'.eden, .int .i64 t'.surv, .bool t'.flip, .int .i64 t'.hash, .slice p3 t.kept.length e3] : Array Value).all (·.oneCell') = true := by simp [Value.oneCell']
     have ED := fun W' (q : World.grownBy _ W' _) => D.done q
     go_wp2_with ((with_reducible refine store_box _ ?_ (.tmp 2) (.tmp 49) 26 ?_ 26 w.heap.size 8 #[.slice (some ⟨g, 0, none⟩) 3200 e1, .slice p2 t.roots.length e2, .int .i64 t'.old, .int .i64 t'.eden, .int .i64 t'.surv, .bool t'.flip, .int .i64 t'.hash, .slice p3 t.kept.length e3] _ ?_ ?_ FR ?_ ?_ OKC ?_); rfl; rfl; rfl; rfl; rfl; kernel_rfl; intro w9 F9 G9)
     obtain ⟨r0, r1, r2, r3, r4, r5, r6, r7⟩ := zrc8 F9
     exact bodyPost_ret (v := .agg #[.slice (some ⟨g, 0, none⟩) 3200 e1, .slice p2 t.roots.length e2, .int .i64 t'.old, .int .i64 t'.eden, .int .i64 t'.surv, .bool t'.flip, .int .i64 t'.hash, .slice p3 t.kept.length e3]) (by simp [results, Tryz.results57, go_sem, r0, r1, r2, r3, r4, r5, r6, r7]) rfl (ED _ G9)
set_option maxRecDepth 100000 in
set_option maxHeartbeats 3200000 in
theorem drawScavenge_any (cv : Value) (cs : List UInt8) (w : World) (hc : BR w cv cs) (hn : cs.length <= 4096) :
  Calls Tryz.prog 30 #[cv] w fun x w' => (∃ t v1 v2 v3, x = .returned (.agg #[v1, v2, .int .i64 t.old, .int .i64 t.eden, .int .i64 t.surv, .bool t.flip, .int .i64 t.hash, v3]) /\ HA w.heap.size w' t v1 v2 v3 /\ t.words.length <= 3200 /\ t.roots.length <= 21 /\ t.kept.length <= 3201) /\ Below w.heap.size w w' := by
 have h0 := bel_one w (.cells #[.slice none 0 0, .slice none 0 0, .int .i64 0, .int .i64 0, .int .i64 0, .bool false, .int .i64 0, .slice none 0 0] 26)
 have R0 := row_any w #[.slice none 0 0, .slice none 0 0, .int .i64 0, .int .i64 0, .int .i64 0, .bool false, .int .i64 0, .slice none 0 0] 26
 have NW := l1New_any cv cs _ (hc.later h0) hn
 have z0 : (w.alloc (.cells #[.slice none 0 0, .slice none 0 0, .int .i64 0, .int .i64 0, .int .i64 0, .bool false, .int .i64 0, .slice none 0 0] 26)).heap.size = w.heap.size + 1 := by simp
 go_enter Tryz.func30, Tryz.ntmps30
 go_wp2_with fail
 refine NW.mono ?_
 rintro x w1 ⟨N, rfl, hN, hN1, hb1, d1⟩
 clear NW
 rw [z0] at hN
 have R1 := World.rowIs.of_block R0 (hb1.block _ (by rw [z0]; omega))
 go_wp2_with fail
 refine (d1.scav hN1).mono ?_
 rintro x w2 ⟨⟨t, v1, v2, v3, rfl, ha, sz⟩, g2, d2⟩
 have R2 := World.rowIs.of_block R1 (g2.block _ (World.rowIs.lt R1) (fun e => by have := Option.some.inj e; omega))
 obtain ⟨p1, e1, rfl, -⟩ := IRs ha.w1
 obtain ⟨p2, e2, rfl, -⟩ := IRs (IR_of_owns ha.o2)
 obtain ⟨p3, e3, rfl, -⟩ := IRs (IR_of_owns ha.o3)
 have hw1 : w.heap.size < w1.heap.size := by omega
 have FIN : Hid (∀ W, w2.grownBy W (some w.heap.size) -> HA w.heap.size W t (.slice p1 t.words.length e1) (.slice p2 t.roots.length e2) (.slice p3 t.kept.length e3) /\ Below w.heap.size w W) := fun W g =>
  ⟨(ha.off g hw1).down (by omega), gbel (gbel (bel_after h0 hb1) g2 (by omega) (by omega)) g (by have := g2.size; omega) (Nat.le_refl _)⟩
 have OKC : (#[.slice p1 t.words.length e1, .slice p2 t.roots.length e2, .int .i64 t.old, .int .i64 t.eden, .int .i64 t.surv, .bool t.flip, .int .i64 t.hash, .slice p3 t.kept.length e3] : Array Value).all (·.oneCell') = true := by simp [Value.oneCell']
 clear ha g2 d2 R0 R1 h0 hb1 d1 z0
 go_wp2_with ((with_reducible refine store_box _ ?_ (.tmp 2) (.tmp 7) 26 ?_ 26 w.heap.size 8 #[.slice p1 t.words.length e1, .slice p2 t.roots.length e2, .int .i64 t.old, .int .i64 t.eden, .int .i64 t.surv, .bool t.flip, .int .i64 t.hash, .slice p3 t.kept.length e3] _ ?_ ?_ R2 ?_ ?_ OKC ?_); rfl; rfl; rfl; rfl; rfl; kernel_rfl; intro w9 F9 G9)
 obtain ⟨r0, r1, r2, r3, r4, r5, r6, r7⟩ := zrc8 F9
 exact bodyPost_ret (v := .agg #[.slice p1 t.words.length e1, .slice p2 t.roots.length e2, .int .i64 t.old, .int .i64 t.eden, .int .i64 t.surv, .bool t.flip, .int .i64 t.hash, .slice p3 t.kept.length e3]) (by simp [results, Tryz.results30, go_sem, r0, r1, r2, r3, r4, r5, r6, r7]) rfl ⟨⟨t, _, _, _, rfl, (FIN.out _ G9).1, sz⟩, (FIN.out _ G9).2⟩
set_option maxRecDepth 100000 in
set_option maxHeartbeats 3200000 in
theorem drawCompact_any (cv : Value) (cs : List UInt8) (w : World) (hc : BR w cv cs) (hn : cs.length <= 4096) :
  Calls Tryz.prog 7 #[cv] w fun x w' => (∃ t v1 v2 v3, x = .returned (.agg #[v1, v2, .int .i64 t.old, .int .i64 t.eden, .int .i64 t.surv, .bool t.flip, .int .i64 t.hash, v3]) /\ HA w.heap.size w' t v1 v2 v3 /\ t.words.length <= 3200 /\ t.roots.length <= 21 /\ t.kept.length <= 3201) /\ Below w.heap.size w w' := by
 have h0 := bel_one w (.cells #[.slice none 0 0, .slice none 0 0, .int .i64 0, .int .i64 0, .int .i64 0, .bool false, .int .i64 0, .slice none 0 0] 26)
 have R0 := row_any w #[.slice none 0 0, .slice none 0 0, .int .i64 0, .int .i64 0, .int .i64 0, .bool false, .int .i64 0, .slice none 0 0] 26
 have DS := drawScavenge_any cv cs _ (hc.later h0) hn
 have z0 : (w.alloc (.cells #[.slice none 0 0, .slice none 0 0, .int .i64 0, .int .i64 0, .int .i64 0, .bool false, .int .i64 0, .slice none 0 0] 26)).heap.size = w.heap.size + 1 := by simp
 go_enter Tryz.func7, Tryz.ntmps7
 go_wp2_with fail
 refine DS.mono ?_
 rintro x w2 ⟨⟨t, v1, v2, v3, rfl, ha, sz⟩, hb⟩
 have R2 := World.rowIs.of_block R0 (hb.block _ (by rw [z0]; omega))
 rw [z0] at ha
 obtain ⟨p1, e1, rfl, -⟩ := IRs ha.w1
 obtain ⟨p2, e2, rfl, -⟩ := IRs (IR_of_owns ha.o2)
 obtain ⟨p3, e3, rfl, -⟩ := IRs (IR_of_owns ha.o3)
 have FIN : Hid (∀ W, w2.grownBy W (some w.heap.size) -> HA w.heap.size W t (.slice p1 t.words.length e1) (.slice p2 t.roots.length e2) (.slice p3 t.kept.length e3) /\ Below w.heap.size w W) := fun W g =>
  ⟨(ha.off g (by omega)).down (by omega), gbel (bel_after h0 hb) g (by have := hb.size; omega) (Nat.le_refl _)⟩
 have OKC : (#[.slice p1 t.words.length e1, .slice p2 t.roots.length e2, .int .i64 t.old, .int .i64 t.eden, .int .i64 t.surv, .bool t.flip, .int .i64 t.hash, .slice p3 t.kept.length e3] : Array Value).all (·.oneCell') = true := by simp [Value.oneCell']
 clear ha hb R0 h0 z0 DS
 go_wp2_with ((with_reducible refine store_box _ ?_ (.tmp 2) (.tmp 4) 26 ?_ 26 w.heap.size 8 #[.slice p1 t.words.length e1, .slice p2 t.roots.length e2, .int .i64 t.old, .int .i64 t.eden, .int .i64 t.surv, .bool t.flip, .int .i64 t.hash, .slice p3 t.kept.length e3] _ ?_ ?_ R2 ?_ ?_ OKC ?_); rfl; rfl; rfl; rfl; rfl; kernel_rfl; intro w9 F9 G9)
 obtain ⟨r0, r1, r2, r3, r4, r5, r6, r7⟩ := zrc8 F9
 exact bodyPost_ret (v := .agg #[.slice p1 t.words.length e1, .slice p2 t.roots.length e2, .int .i64 t.old, .int .i64 t.eden, .int .i64 t.surv, .bool t.flip, .int .i64 t.hash, .slice p3 t.kept.length e3]) (by simp [results, Tryz.results7, go_sem, r0, r1, r2, r3, r4, r5, r6, r7]) rfl ⟨⟨t, _, _, _, rfl, (FIN.out _ G9).1, sz⟩, (FIN.out _ G9).2⟩
end Go.Proofs.YthdffigckohpoaaGreat
/- The draw of a word that a heap may have: l4DrawWord and l7DrawWord of the model. -/
namespace Go.Proofs.YthdffigckohpoaaGreat
open Go.RowKit
end Go.Proofs.YthdffigckohpoaaGreat
/- The state of the public draws of a heap: the answer's box, the code's block, the heap's box. -/
namespace Go.Proofs.YthdffigckohpoaaGreat
open Go.RowKit
/-- A heap drawn for a law: the answer's box lies at w.heap.size, the code's block is N, the heap's box H, its lists lie from B on. -/
structure AX (w : World) (B N : Nat) (cv : Value) (cs : List UInt8) (H : Nat) (W : World) (t : Hp) (v1 v2 v3 : Value) : Prop where
 dw : Dw N cv cs W
 br0 : BR w cv cs
 bel : Below w.heap.size w W
 row : W.rowIs H 26 8 (fun i => (va8 t v1 v2 v3)[i]?.getD undef)
 ha : HA B W t v1 v2 v3
 res : ∃ f, W.rowIs w.heap.size 26 8 f
 nH : ¬ inB v1 H
 hR : w.heap.size < N
 hN : N < B
 hB : B <= H
 sz : t.words.length <= 3200 /\ t.roots.length <= 21 /\ t.kept.length <= 3201
end Go.Proofs.YthdffigckohpoaaGreat
/- The state of the public draws: how it begins, and the answer written. -/
namespace Go.Proofs.YthdffigckohpoaaGreat
open Go.RowKit
end Go.Proofs.YthdffigckohpoaaGreat
/- Theory of FnHeaps: the headers of a right heap, the sum of its objects' sizes, a new heap is right; likeInts. -/
namespace Go.Proofs.YthdffigckohpoaaGreat
open Go.RowKit
/-- The words that these objects take. -/
def szS (W : List Int) : List Nat -> Int
 | [] => 0
 | a :: l => 4 + gw W a + szS W l
theorem szS_app (W : List Int) (l m : List Nat) : szS W (l ++ m) = szS W l + szS W m := by
 induction l with
 | nil => simp [szS]
 | cons a l ih => simp only [List.cons_append, szS, ih]; omega
theorem szS_snoc (W : List Int) (l : List Nat) (k : Nat) (h : k < l.length) : szS W (l.take (k + 1)) = szS W (l.take k) + 4 + gw W (l.getD k 0) := by
 rw [List.take_succ_eq_append_getElem h, szS_app]
 simp only [szS, List.getD_eq_getElem?_getD, List.getElem?_eq_getElem h, Option.getD_some]
 omega
theorem rise {l : List Nat} (so : l.Pairwise (· < ·)) {k : Nat} (h : k + 1 < l.length) : l.getD k 0 < l.getD (k + 1) 0 := by
 have := List.pairwise_iff_getElem.1 so k (k + 1) (by omega) h (by omega)
 simpa [List.getD_eq_getElem?_getD, List.getElem?_eq_getElem h, List.getElem?_eq_getElem (show k < l.length by omega)] using this
set_option maxHeartbeats 400000 in
theorem likeInts_any (v u : Value) (ss : List Int) (w : World) (hv : IR w v ss) (hu : IR w u ss) (h1 : ss.length <= 1000000000000000) :
  Calls Tryz.prog 14 #[v, u] w fun e w' => e = .returned (.bool true) /\ Below w.heap.size w w' := by
 obtain ⟨ao, cap, rfl, _, hv⟩ := hv
 obtain ⟨bo, cbp, rfl, _, hu⟩ := hu
 have hl' : ((ss.length : Int) != (ss.length : Int)) = false := by simp
 go_enter Tryz.func14, Tryz.ntmps14
 go_wp2
 go_loopw [5] (fun a wr => ∃ (k : Nat), a = .int .i64 k /\ k <= ss.length /\ ∃ n, wr = w.drewN n) (fun a _ => (ss.length - (intOf a).toNat))
 case atStart => exact ⟨0, rfl, Nat.zero_le _, 0, rfl⟩
 case round =>
  obtain ⟨k, rfl, hk, n, rfl⟩ := hrel
  by_cases hlt : k < ss.length
  ·obtain ⟨b, o, rfl, hc⟩ := hv k hlt
   obtain ⟨b', o', rfl, hc'⟩ := hu k hlt
   generalize ss.getD k 0 = s at *
   have he : (s != s) = false := by simp
   clear hv hu
   go_wp2
   go_region
   all_goals go_wp2
   all_goals go_roundw
   case rel => exact ⟨k + 1, by go_num, by omega, _, rfl⟩
   case measure => simp [intOf]; omega
  ·go_wp2
   go_ret
   exact ⟨rfl, below_drewN (Below.refl _ _) _⟩
end Go.Proofs.YthdffigckohpoaaGreat
/- Heaps held against each other in a law. -/
namespace Go.Proofs.YthdffigckohpoaaGreat
open Go.RowKit
set_option maxRecDepth 100000 in
set_option maxHeartbeats 1600000 in
theorem likeHeap_any (v u : Value) (h : Hp) (w : World) (hv : HR w v h) (hu : HR w u h) (l1 : h.words.length <= 10000000000000) (l2 : h.roots.length <= 10000000000000) (l3 : h.kept.length <= 10000000000000) :
  Calls Tryz.prog 10 #[v, u] w fun e w' => e = .returned (.bool true) /\ Below w.heap.size w w' := by
 obtain ⟨v1, v2, v3, rfl, a1, a2, a3⟩ := hv
 obtain ⟨u1, u2, u3, rfl, b1, b2, b3⟩ := hu
 have hb0 : Below w.heap.size w ((w.alloc (.cells #[v1, v2, .int .i64 h.old, .int .i64 h.eden, .int .i64 h.surv, .bool h.flip, .int .i64 h.hash, v3] 26)).alloc (.cells #[u1, u2, .int .i64 h.old, .int .i64 h.eden, .int .i64 h.surv, .bool h.flip, .int .i64 h.hash, u3] 26)) := bel_after (bel_one _ _) (bel_one _ _)
 have X0 := (Bx.new w v1 v2 v3 h 26).later (bel_one _ (.cells #[u1, u2, .int .i64 h.old, .int .i64 h.eden, .int .i64 h.surv, .bool h.flip, .int .i64 h.hash, u3] 26))
 have Y0 : Bx ((w.alloc (.cells #[v1, v2, .int .i64 h.old, .int .i64 h.eden, .int .i64 h.surv, .bool h.flip, .int .i64 h.hash, v3] 26)).alloc (.cells #[u1, u2, .int .i64 h.old, .int .i64 h.eden, .int .i64 h.surv, .bool h.flip, .int .i64 h.hash, u3] 26)) (w.heap.size + 1) u1 u2 u3 h := by
  have q := Bx.new (w.alloc (.cells #[v1, v2, .int .i64 h.old, .int .i64 h.eden, .int .i64 h.surv, .bool h.flip, .int .i64 h.hash, v3] 26)) u1 u2 u3 h 26
  rwa [World.size_alloc] at q
 have E1 := likeInts_any v1 u1 h.words _ (a1.later hb0) (b1.later hb0) (by omega)
 go_enter Tryz.func10, Tryz.ntmps10
 go_wp2_with fail
 refine E1.mono ?_
 rintro e w1 ⟨rfl, hb1⟩
 have hbw1 := bel_after hb0 hb1
 have X1 := X0.later hb1
 have Y1 := Y0.later hb1
 obtain ⟨x0, x1, x2, x3, x4, x5, x6, x7⟩ := id X1
 obtain ⟨y0, y1, y2, y3, y4, y5, y6, y7⟩ := id Y1
 have E2 := likeInts_any v2 u2 h.roots _ (a2.later hbw1) (b2.later hbw1) (by omega)
 clear E1 X0 Y0
 go_wp2_with fail
 refine E2.mono ?_
 rintro e w2 ⟨rfl, hb2⟩
 have hbw2 := bel_after hbw1 hb2
 have X2 := X1.later hb2
 have Y2 := Y1.later hb2
 clear x0 x1 x2 x3 x4 x5 x6 x7 y0 y1 y2 y3 y4 y5 y6 y7
 obtain ⟨x0, x1, x2, x3, x4, x5, x6, x7⟩ := id X2
 obtain ⟨y0, y1, y2, y3, y4, y5, y6, y7⟩ := id Y2
 have E3 := likeInts_any v3 u3 h.kept _ (a3.later hbw2) (b3.later hbw2) (by omega)
 clear E2 X1 Y1
 go_wp2_with fail
 refine E3.mono ?_
 rintro e w3 ⟨rfl, hb3⟩
 go_wp2
 go_ret
 exact ⟨rfl, bel_after hbw2 hb3⟩
/-- The shape of a heap that is owned. -/
theorem HN.sh {B : Nat} {w : World} {v : Value} {h : Hp} (k : HN B w v h) : ∃ a1 c1 a2 c2 a3 c3, v = .agg #[.slice a1 h.words.length c1, .slice a2 h.roots.length c2, .int .i64 h.old, .int .i64 h.eden, .int .i64 h.surv, .bool h.flip, .int .i64 h.hash, .slice a3 h.kept.length c3] ∧
  IR w (.slice a1 h.words.length c1) h.words /\ IR w (.slice a2 h.roots.length c2) h.roots /\ IR w (.slice a3 h.kept.length c3) h.kept := by
 obtain ⟨v1, v2, v3, e, os, ir, rest⟩ := k.ex
 obtain ⟨a1, c1, rfl, _⟩ := IRs ir.1
 obtain ⟨a2, c2, rfl, _⟩ := IRs ir.2.1
 obtain ⟨a3, c3, rfl, _⟩ := IRs ir.2.2
 exact ⟨a1, c1, a2, c2, a3, c3, e, ir⟩
/-- The cell of a list that is read. -/
theorem IR.at {w : World} {a : Option Addr} {n c : Nat} {l : List Int} (h : IR w (.slice a n c) l) {k : Nat} (hk : k < l.length) : ∃ b o, a = some ⟨b, o, none⟩ /\ w.cell? ⟨b, o + k, none⟩ = some (.int .i64 (l.getD k 0)) := by
 obtain ⟨ao, cap, e, _, hc⟩ := h
 simp only [Value.slice.injEq] at e
 obtain ⟨rfl, rfl, rfl⟩ := e
 exact hc k hk
end Go.Proofs.YthdffigckohpoaaGreat
