
import Derived.Test.YthdffigckohpoaaGreatZV15
import Derived.Test.YthdffigckohpoaaGreatZCComp
import Derived.Test.YthdffigckohpoaaGreatZV9
import Derived.Test.YthdffigckohpoaaGreatZV8
import Derived.Lib.SliceRun
/- Moves of the program. -/
namespace Go.Proofs.YthdffigckohpoaaGreat
open Go.RowKit
theorem own_downQ {w : World} {B C e size n : Nat} {v : Value} {xs : List Value} (h : w.ownsRow B e size v n xs) (hC : C <= B) : w.ownsRow C e size v n xs := by
 obtain ⟨h1, h2⟩ := h
 refine ⟨h1, ?_⟩
 rcases h2 with h2 | ⟨g, cap, cur, e0, hB, r⟩
 ·exact .inl h2
 ·exact .inr ⟨g, cap, cur, e0, Nat.le_trans hC hB, r⟩
set_option maxRecDepth 100000 in
set_option maxHeartbeats 3200000 in
theorem implMoves_c (v : Value) (h : Hp) (w : World) (hv : HR w v h) (hwo : h.words.length <= 1000000000000) (hro : h.roots.length <= 1000000000000) (hke : h.kept.length <= 1000000000000) :
  Calls Tryz.prog 12 #[v] w fun x w' => (∃ v', x = .returned v' /\ w'.ownsRow w.heap.size 2 1 v' (mvC h).length (icells (mvC h))) /\ Below w.heap.size w w' := by
 obtain ⟨v1, v2, v3, rfl, i1, i2, i3⟩ := id hv
 have hb0 := bel_one w (.cells #[v1, v2, .int .i64 h.old, .int .i64 h.eden, .int .i64 h.surv, .bool h.flip, .int .i64 h.hash, v3] 26)
 have X0 := Bx.new w v1 v2 v3 h 26
 have C0 := compactionOf_c _ h _ (hv.later hb0) hwo hro hke
 obtain ⟨x0, x1, x2, x3, x4, x5, x6, x7⟩ := id X0
 clear i1 i2 i3 X0
 go_enter Tryz.func12, Tryz.ntmps12
 go_wp2_with fail
 refine C0.mono ?_
 rintro e w1 ⟨D, hb1⟩
 have hbw1 := bel_after hb0 hb1
 clear x0 x1 x2 x3 x4 x5 x6 x7 C0
 rcases D with ⟨hk, g1, g2, g3, oa, oc, gr, cr, M, rfl, -, io, -, hm, lo⟩ | ⟨hk, rfl⟩
 ·have al0 := bel_one w1 (.cells #[.slice (some ⟨g1, 0, none⟩) 3200 3200, .slice oa (obC h).length oc, .slice (some ⟨g2, 0, none⟩) h.roots.length h.roots.length, .int .i64 h.old, .int .i64 h.eden, .int .i64 h.surv, .bool h.flip, .int .i64 h.hash, .slice (some ⟨g3, 0, none⟩) h.kept.length h.kept.length, .slice (some ⟨gr, 0, none⟩) (rchL h).length cr, .map (some M), .int .i64 (szS h.words (rchL h))] 52)
  have hbw2 := bel_after hbw1 al0
  have BX := row_any w1 #[.slice (some ⟨g1, 0, none⟩) 3200 3200, .slice oa (obC h).length oc, .slice (some ⟨g2, 0, none⟩) h.roots.length h.roots.length, .int .i64 h.old, .int .i64 h.eden, .int .i64 h.surv, .bool h.flip, .int .i64 h.hash, .slice (some ⟨g3, 0, none⟩) h.kept.length h.kept.length, .slice (some ⟨gr, 0, none⟩) (rchL h).length cr, .map (some M), .int .i64 (szS h.words (rchL h))] 52
  have b1 := BX.cell (i := 1) (by simp)
  have b10 := BX.cell (i := 10) (by simp)
  have io2 := io.later al0
  have hm2 := hm.later al0
  have ML : Hid ((mvL h).length = (obC h).length) := mv_len h
  have MA : Hid (∀ j, j < (obC h).length -> (mvL h).getD j 0 = (plF h.words (rchL h) (rchL h).length (((obC h).getD j 0 : Nat) : Int)).getD (-1)) := fun j hj => mv_at hj
  have MC : Hid (mvC h = if szS h.words (rchL h) <= 2000 then mvL h else []) := (by unfold mvC; rw [hk]; simp : mvC h = if szS h.words (rchL h) <= 2000 then mvL h else [])
  have ls := ob_short h
  have OB : Hid (∀ a, a ∈ obC h -> a + 4 <= 3200) := fun a ha => ((c_right hk).1.obj ha).1
  clear io hm lo hv hb0 hb1 hbw1
  by_cases hfit : szS h.words (rchL h) <= 2000
  ·have MC' : Hid (mvC h = mvL h) := (by rw [MC.out, if_pos hfit] : mvC h = mvL h)
   generalize hw2 : w1.alloc (.cells #[.slice (some ⟨g1, 0, none⟩) 3200 3200, .slice oa (obC h).length oc, .slice (some ⟨g2, 0, none⟩) h.roots.length h.roots.length, .int .i64 h.old, .int .i64 h.eden, .int .i64 h.surv, .bool h.flip, .int .i64 h.hash, .slice (some ⟨g3, 0, none⟩) h.kept.length h.kept.length, .slice (some ⟨gr, 0, none⟩) (rchL h).length cr, .map (some M), .int .i64 (szS h.words (rchL h))] 52) = w2 at io2 hm2 b1 b10 hbw2
   have HW2 : Hid (w1.alloc (.cells #[.slice (some ⟨g1, 0, none⟩) 3200 3200, .slice oa (obC h).length oc, .slice (some ⟨g2, 0, none⟩) h.roots.length h.roots.length, .int .i64 h.old, .int .i64 h.eden, .int .i64 h.surv, .bool h.flip, .int .i64 h.hash, .slice (some ⟨g3, 0, none⟩) h.kept.length h.kept.length, .slice (some ⟨gr, 0, none⟩) (rchL h).length cr, .map (some M), .int .i64 (szS h.words (rchL h))] 52) = w2) := hw2
   obtain ⟨wm, hrun, hown, hbm⟩ := make_cap (obC h).length w2.heap.size (by omega) w2 (Nat.le_refl _)
   rw [<- hw2] at hrun b1 b10
   have HOW : Hid (wm.ownsRow w2.heap.size 2 1 (.slice (some ⟨w2.heap.size, 0, none⟩) 0 (obC h).length) 0 []) := hown
   have hw2s : (w1.alloc (.cells #[.slice (some ⟨g1, 0, none⟩) 3200 3200, .slice oa (obC h).length oc, .slice (some ⟨g2, 0, none⟩) h.roots.length h.roots.length, .int .i64 h.old, .int .i64 h.eden, .int .i64 h.surv, .bool h.flip, .int .i64 h.hash, .slice (some ⟨g3, 0, none⟩) h.kept.length h.kept.length, .slice (some ⟨gr, 0, none⟩) (rchL h).length cr, .map (some M), .int .i64 (szS h.words (rchL h))] 52)).heap.size = w2.heap.size := by rw [hw2]
   rw [hw2s] at hrun
   have c1m := cell_later hbm (by rw [<- hw2]; exact b1)
   have c10m := cell_later hbm (by rw [<- hw2]; exact b10)
   clear MC hown BX hw2 al0 hk
   generalize plF h.words (rchL h) (rchL h).length = f at *
   generalize (rchL h).length = nr at *
   go_wp2
   go_loopw [5, 28] (fun vo iv wr => ∃ (j : Nat) (ov : Value), j <= (obC h).length /\ iv = .int .i64 j /\ ov = vo /\ wr.ownsRow w2.heap.size 2 1 ov j (icells ((mvL h).take j)) /\ Below w2.heap.size w2 wr) (fun _ iv _ => (obC h).length - (intOf iv).toNat)
   case atStart => exact ⟨0, _, Nat.zero_le _, rfl, rfl, HOW.out, hbm⟩
   case round =>
    clear c1m c10m hrun HOW hbm
    obtain ⟨j, ov, hj, rfl, rfl, ho, hb⟩ := hrel
    by_cases hjl : j < (obC h).length
    ·obtain ⟨la', lc', e, hlc⟩ := intsI (io2.later hb)
     simp only [Value.slice.injEq, true_and] at e
     obtain ⟨rfl, rfl⟩ := e
     obtain ⟨vb, vo, rfl, hcr⟩ := hlc j hjl
     have c1r := cell_later hb (show w2.cell? ⟨w1.heap.size, 1, none⟩ = _ from by rw [<- HW2.out]; exact b1)
     have c10r := cell_later hb (show w2.cell? ⟨w1.heap.size, 10, none⟩ = _ from by rw [<- HW2.out]; exact b10)
     have TS : Hid ((mvL h).take (j + 1) = (mvL h).take j ++ [(mvL h).getD j 0]) := itake_snoc _ _ (by rw [ML.out]; exact hjl)
     have RM := MA.out j hjl
     have a4 := OB.out _ (lget_mem _ _ hjl)
     have hmr := hm2.later hb
     have hji : (j : Int) < (obC h).length := by omega
     have hsz := hb.size
     generalize (mvL h).getD j 0 = y at *
     generalize (obC h).getD j 0 = a at *
     have a64 : In64 (a : Int) := ⟨by omega, by omega⟩
     have FIN : Hid (∀ (z : Int) (w3 : World) v3, y = z -> w3.ownsRow w2.heap.size 2 1 v3 (j + 1) (icells ((mvL h).take j) ++ [.int .i64 z]) -> (wr.alloc (.cells #[.int .i64 z] 2)).grownBy w3 ov.ownBlock -> w3.ownsRow w2.heap.size 2 1 v3 (j + 1) (icells ((mvL h).take (j + 1))) /\ Below w2.heap.size w2 w3) := fun z w3 v3 e q1 q2 => by
      subst e
      refine ⟨by rw [TS.out]; simpa [icells] using q1, ?_⟩
      exact (hb.trans (bel_one wr _ |>.mono hb.size)).trans ((Grew.grown q2).below (by simp; omega) fun k _ e => (ho.lt k e).1)
     clear hlc TS MA b1 b10
     cases hfa : f (a : Int) with
     | none =>
      have RN : Hid (y = -1) := (by rw [RM, hfa]; rfl : y = -1)
      clear RM
      have al := bel_one wr (.cells #[.int .i64 (-1)] 2)
      have ho2 := own_later ho al
      have hc : ∀ W : World, (W.alloc (.cells #[.int .i64 (-1)] 2)).cell? ⟨W.heap.size, 0, none⟩ = some (.int .i64 (-1)) := fun W => by simp
      go_wp2_with (first
       | (at_lookup; refine look_ok _ rfl _ _ rfl M _ f rfl hmr _ rfl a64 ?_; rw [hfa])
       | (at_builtin; refine app_at _ rfl _ _ rfl w2.heap.size _ j (icells ((mvL h).take j)) rfl ho2 _ 1 (-1) rfl (hc _) (by omega) (Nat.le_trans hsz (by simp)) ?_; intro v4 w4 hown4 hg4 hloc; have SF := FIN.out (-1) w4 v4 RN.out hown4 hg4))
      exact ⟨⟨j + 1, v4, by omega, by go_num, rfl, SF.1, SF.2⟩, by simp [intOf]; omega⟩
     | some z =>
      have RN : Hid (y = z) := (by rw [RM, hfa]; rfl : y = z)
      clear RM
      have al := bel_one wr (.cells #[.int .i64 z] 2)
      have ho2 := own_later ho al
      have hc : ∀ W : World, (W.alloc (.cells #[.int .i64 z] 2)).cell? ⟨W.heap.size, 0, none⟩ = some (.int .i64 z) := fun W => by simp
      go_wp2_with (first
       | (at_lookup; refine look_ok _ rfl _ _ rfl M _ f rfl hmr _ rfl a64 ?_; rw [hfa])
       | (at_builtin; refine app_at _ rfl _ _ rfl w2.heap.size _ j (icells ((mvL h).take j)) rfl ho2 _ 1 z rfl (hc _) (by omega) (Nat.le_trans hsz (by simp)) ?_; intro v4 w4 hown4 hg4 hloc; have SF := FIN.out z w4 v4 RN.out hown4 hg4))
      exact ⟨⟨j + 1, v4, by omega, by go_num, rfl, SF.1, SF.2⟩, by simp [intOf]; omega⟩
    ·obtain rfl : j = (obC h).length := by omega
     have FN : wr.ownsRow w.heap.size 2 1 ov (mvC h).length (icells (mvC h)) := by
      rw [MC'.out, ML.out]
      rw [List.take_of_length_le (by rw [ML.out]; omega)] at ho
      exact own_downQ ho hbw2.size
     have BF : Below w.heap.size w wr := hbw2.trans (hb.mono hbw2.size)
     clear b1 b10
     go_wp2
     go_ret
     exact ⟨⟨_, rfl, FN⟩, BF⟩
  ·have MC' : Hid (mvC h = []) := (by rw [MC.out, if_neg hfit] : mvC h = [])
   rw [decide_eq_false hfit]
   clear hfit MC b1 b10 BX
   go_wp2
   go_ret
   exact ⟨⟨_, rfl, by rw [MC'.out]; exact ⟨by simp [icells], .inl ⟨rfl, rfl⟩⟩⟩, hbw2⟩
 ·have MC' : Hid (mvC h = []) := (by unfold mvC; rw [hk]; simp : mvC h = [])
  have hbw2 := bel_after hbw1 (bel_one w1 (.cells #[.slice none 0 0, .slice none 0 0, .slice none 0 0, .int .i64 0, .int .i64 0, .int .i64 0, .bool false, .int .i64 0, .slice none 0 0, .slice none 0 0, .map none, .int .i64 0] 52))
  go_wp2
  go_ret
  exact ⟨⟨_, rfl, by rw [MC'.out]; exact ⟨by simp [icells], .inl ⟨rfl, rfl⟩⟩⟩, hbw2⟩
end Go.Proofs.YthdffigckohpoaaGreat
/- Parts of done: a lookup as a run, the fields of an object with their place, numbers cleared. -/
namespace Go.Proofs.YthdffigckohpoaaGreat
open Go.RowKit Go.Maps
theorem gtransq {a w w' : World} {r : Option Nat} (h : a.grownBy w r) (k : w.grownBy w' r) : a.grownBy w' r :=
 ⟨k.os.trans h.os, k.tape.trans h.tape, k.output.trans h.output, Nat.le_trans h.size k.size, fun b hb e => (k.block b (Nat.lt_of_lt_of_le hb h.size) e).trans (h.block b hb e)⟩
theorem MP.look {w : World} {b n : Nat} {f : Int -> Option Int} (hM : MP w b n f) (k : Int) (hk : In64 k) : (Instr.lookup 50 (.map (some b)) (.int .i64 k) false).run Tryz.prog w = .ok (.int .i64 ((f k).getD 0)) w := by
 obtain ⟨D, hown, hD⟩ := hM
 obtain ⟨c, hrun, hc, -⟩ := hown.lookup_int keyL Tryz.underlying50 Tryz.underlying2 (zeroI _) (keyOf_int_mk Tryz.underlying2 (wf64 hk))
 obtain ⟨h1, h2⟩ := hD k hk
 rw [h2] at hc
 simp only [DataW.lit.injEq, Lit.int.injEq, true_and] at hc
 rw [hc]
 exact hrun
theorem fieldsAt_q (g cap : Nat) (W : List Int) (a m : Nat) (w : World) (hW : WS w g 0 W) (hl : W.length = 3200) (hc : 3200 <= cap) (ha : a + 4 <= 3200) (hm : gw W a = (m : Int)) (m60 : m <= 60) (hn : nx W a <= 3200) :
  Calls Tryz.prog 44 #[.slice (some ⟨g, 0, none⟩) 3200 cap, .int .i64 a] w fun e w' => (∃ q c, e = .returned (.slice (some ⟨g, q, none⟩) m c) /\ m <= c /\ (m = 0 ∨ q = a + 4) /\ (q = 0 ∨ q = a + 4)) /\ w' = w := by
 have B := behind_any g 0 cap W a w hW hl ha (by omega)
 have hn' : nx W a = a + 4 + m := by unfold nx; rw [hm]; rfl
 rw [hn'] at B hn
 clear hm hW hl hn'
 go_enter Tryz.func44, Tryz.ntmps44
 go_wp2_with fail
 refine B.mono ?_
 rintro x w1 ⟨rfl, rfl⟩
 go_wp2
 ·have h0 : m = 0 := by omega
  go_ret
  exact ⟨⟨_, _, rfl, by omega, .inl h0, by first | exact .inl rfl | exact .inr (by omega)⟩, rfl⟩
 ·go_ret
  exact ⟨⟨_, _, rfl, by omega, .inr (by omega), .inr (by omega)⟩, rfl⟩
/-- The end of a row of numbers is cleared. -/
theorem ri_clear {g c : Nat} : ∀ (n : Nat) (w : World) (off : Nat) (W : List Int), RI w g W c -> off + n = W.length -> RI (w.setCells g off (List.replicate n (.int .i64 0))) g (W.take off ++ List.replicate n 0) c /\ w.grownBy (w.setCells g off (List.replicate n (.int .i64 0))) (some g)
 | 0, w, off, W, h, hl => by
  have e : W.take off = W := List.take_of_length_le (by omega)
  rw [List.replicate_zero, List.replicate_zero, List.append_nil, e]
  exact ⟨h, ⟨rfl, rfl, rfl, Nat.le_refl _, fun _ _ _ => rfl⟩⟩
 | n + 1, w, off, W, h, hl => by
  have ih := ri_clear n (w.setCell ⟨g, off, none⟩ (.int .i64 0)) (off + 1) (W.set off 0) (h.set off 0) (by rw [List.length_set]; omega)
  have e : (W.set off 0).take (off + 1) = W.take off ++ [0] := by
   rw [List.take_succ_eq_append_getElem (by rw [List.length_set]; omega), List.getElem_set_self, List.take_set_of_le (Nat.le_refl _)]
  rw [e, List.append_assoc] at ih
  exact ⟨ih.1, gtransq (gset1q w g off _) ih.2⟩
theorem run_clear_ints (w : World) (ty : TypeId) (g off cap : Nat) (W : List Int) (c : Nat) (hrow : RI w g W c) (hW : off < W.length) :
  ∃ w', (Builtin.clear_ #[24] ty #[.slice (some ⟨g, off, none⟩) (W.length - off) cap]).run Tryz.prog w = .ok (.tuple #[]) w' /\ RI w' g (W.take off ++ List.replicate (W.length - off) 0) c /\ w.grownBy w' (some g) := by
 have run := Lib.run_clear_slice (P := Tryz.prog) w 24 2 ty (.int .i64 0) Tryz.underlying24 (fun w => zeroI w) rfl rfl g off (W.length - off) cap (by omega) (fun j hj => by rw [hrow.cell (i := off + j) (by omega)]; rfl) (fun j hj => hrow.frozen _)
 have K := ri_clear (W.length - off) w off W hrow (by omega)
 exact ⟨_, run, K.1, K.2⟩
end Go.Proofs.YthdffigckohpoaaGreat
