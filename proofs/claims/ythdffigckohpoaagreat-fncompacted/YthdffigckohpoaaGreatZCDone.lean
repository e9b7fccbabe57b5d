/- done of the program: the objects moved within the same words. -/
import Derived.Test.YthdffigckohpoaaGreatZV18
namespace Go.Proofs.YthdffigckohpoaaGreat
open Go.RowKit Go.Maps
/-- On the way of done: i objects lie at their places. -/
structure DJ (h : Hp) (w : World) (B R C g1 g2 gr cr M : Nat) (v1 v8 : Value) (i : Nat) (W : World) : Prop where
 bel : Below B w W
 words : ∃ V, RI W g1 V 3200 /\ DW h (plF h.words (rchL h) (rchL h).length) i V
 rts : RI W g2 h.roots h.roots.length
 rch : RI W gr (ints (rchL h)) cr
 mp : MP W M (rchL h).length (plF h.words (rchL h) (rchL h).length)
 box : W.rowIs C 52 12 (fun j => (#[.slice (some ⟨g1, 0, none⟩) 3200 3200, v1, .slice (some ⟨g2, 0, none⟩) h.roots.length h.roots.length, .int .i64 h.old, .int .i64 h.eden, .int .i64 h.surv, .bool h.flip, .int .i64 h.hash, v8, .slice (some ⟨gr, 0, none⟩) (rchL h).length cr, .map (some M), .int .i64 (szS h.words (rchL h))] : Array Value)[j]?.getD undef)
 res : ∃ f, W.rowIs R 26 8 f
/-- How the blocks lie. -/
structure DN (B R C g1 g2 gr M : Nat) : Prop where
 b1 : B <= g1
 bC : B <= C
 bR : B <= R
 n2 : g1 ≠ g2
 nr : g1 ≠ gr
 nM : g1 ≠ M
 nC : g1 ≠ C
 nR : g1 ≠ R
 nCR : C ≠ R
 lC : C < R
theorem DJ.later {h : Hp} {w : World} {B R C g1 g2 gr cr M : Nat} {v1 v8 : Value} {i : Nat} {W W' : World} (k : DJ h w B R C g1 g2 gr cr M v1 v8 i W) (hB : B <= W.heap.size) (hb : Below W.heap.size W W') : DJ h w B R C g1 g2 gr cr M v1 v8 i W' := by
 obtain ⟨V, r, d⟩ := k.words
 obtain ⟨f, F⟩ := k.res
 exact ⟨k.bel.trans (hb.mono hB), ⟨V, r.later hb, d⟩, k.rts.later hb, k.rch.later hb, k.mp.later hb, k.box.of_block (hb.block _ k.box.lt), ⟨f, F.of_block (hb.block _ F.lt)⟩⟩
/-- The words are written. -/
theorem DJ.put {h : Hp} {w : World} {B R C g1 g2 gr cr M : Nat} {v1 v8 : Value} {i j : Nat} {W W' : World} {V : List Int} (k : DJ h w B R C g1 g2 gr cr M v1 v8 i W) (n : DN B R C g1 g2 gr M) (hB : B <= W.heap.size) (g : W.grownBy W' (some g1)) (r : RI W' g1 V 3200) (d : DW h (plF h.words (rchL h) (rchL h).length) j V) : DJ h w B R C g1 g2 gr cr M v1 v8 j W' := by
 obtain ⟨f, F⟩ := k.res
 exact ⟨Below.grown k.bel g hB (fun q e => by cases e; exact n.b1), ⟨V, r, d⟩, k.rts.grown g (fun e => n.n2 (Option.some.inj e).symm), k.rch.grown g (fun e => n.nr (Option.some.inj e).symm), (Grew.grown g).mp k.mp (fun e => n.nM (Option.some.inj e)), k.box.of_block (g.block _ k.box.lt (fun e => n.nC (Option.some.inj e).symm)), ⟨f, F.of_block (g.block _ F.lt (fun e => n.nR (Option.some.inj e).symm))⟩⟩
/-- What done answers. -/
def DoOut (h : Hp) (g1 : Nat) (e : Ending) (w' : World) : Prop := ∃ rv, e = .returned (.agg #[.slice (some ⟨g1, 0, none⟩) 3200 3200, rv, .int .i64 (szS h.words (rchL h)), .int .i64 2000, .int .i64 2600, .bool false, .int .i64 h.hash, .slice none 0 0]) ∧
 RI w' g1 (outW h.words (plF h.words (rchL h) (rchL h).length) (rchL h) ++ List.replicate (3200 - (outW h.words (plF h.words (rchL h) (rchL h).length) (rchL h)).length) 0) 3200 /\ ∃ B2, g1 < B2 /\ w'.ownsRow B2 2 1 rv h.roots.length (icells (h.roots.map (rnM (plF h.words (rchL h) (rchL h).length))))
theorem pl_at {h : Hp} (k : okC h = true) {i : Nat} (hi : i < (rchL h).length) : (plF h.words (rchL h) (rchL h).length) (((rchL h).getD i 0 : Nat) : Int) = some (szS h.words ((rchL h).take i)) := by
 unfold plF
 have nd : (rchL h).Nodup := (rch_sorted k).imp (fun q => by omega)
 have mm : (((rchL h).getD i 0 : Nat) : Int) ∈ ints (rchL h) := List.mem_map.2 ⟨_, lget_mem _ _ hi, rfl⟩
 rw [List.take_length, if_pos mm, Int.toNat_natCast, idx_at nd hi]
theorem pl_size {h : Hp} (k : okC h = true) (n : Nat) : ((outW h.words (plF h.words (rchL h) (rchL h).length) ((rchL h).take n)).length : Int) = szS h.words ((rchL h).take n) := outW_size _ (fun a ha => ((rch_obs k).2 a (List.mem_of_mem_take ha)).2.1)
theorem pl_range {h : Hp} (k : okC h = true) (hf : szS h.words (rchL h) <= 2000) (x : Int) : 0 <= ((plF h.words (rchL h) (rchL h).length) x).getD 0 /\ ((plF h.words (rchL h) (rchL h).length) x).getD 0 <= 3199 := by
 unfold plF
 split
 ·have q := pl_size k ((rchL h).idxOf x.toNat)
  show 0 <= szS _ _ /\ szS _ _ <= 3199
  have nn : ∀ l m : List Nat, (∀ a, a ∈ m -> 0 <= gw h.words a) -> szS h.words l <= szS h.words (l ++ m) := fun l m hm => by
   rw [szS_app]
   have : 0 <= szS h.words m := by rw [<- outW_size (fun _ => none) hm]; omega
   omega
  have := nn ((rchL h).take ((rchL h).idxOf x.toNat)) ((rchL h).drop ((rchL h).idxOf x.toNat)) (fun a ha => ((rch_obs k).2 a (List.mem_of_mem_drop ha)).2.1)
  rw [List.take_append_drop] at this
  omega
 ·exact ⟨by simp, by simp⟩
theorem fld_ir {W : World} {g m q c a : Nat} {V : List Int} (r : RI W g V 3200) (hl : V.length = 3200) (ha : a + 4 + m <= 3200) (hm : gw V a = (m : Int)) (hc : m <= c) (hq : m = 0 ∨ q = a + 4) : IR W (.slice (some ⟨g, q, none⟩) m c) (flds V a) := by
 have e : (flds V a).length = m := by simp [flds, hm]
 refine ⟨_, c, by rw [e], by rw [e]; exact hc, fun i hi => ⟨g, q, rfl, ?_⟩⟩
 rw [e] at hi
 obtain rfl := hq.resolve_left (by omega)
 rw [r.cell (i := a + 4 + i) (by omega)]
 have ef : (flds V a).getD i 0 = V.getD (a + 4 + i) 0 := by
  simp only [flds, hm, Int.toNat_natCast, List.getD_eq_getElem?_getD, List.getElem?_map, List.getElem?_range hi]
  rfl
 rw [ef]
theorem z_drop {P : Program} {md : Region.Mode} {ops : Array Oper} {R : Act -> World -> Prop} {S : World -> Prop} {z : Nat} (i : Nat) {oi : Oper} {v : Value} {fuel : Nat} {listed : Array Bool} {a : Act} {w w' : World} (hi : ops[i]? = some oi) (hd : oi.dst = none)
  (hr : Region.ready md ops listed = [i]) (hw : Region.wanted oi (yielded ops a.tmps) = true) (hy : (execOp a.eval oi).run P w = .ok (.value v) w') (hS : i = z ∨ S w')
  (h : Disk.wpAnyZ P md ops (Disk.Ends R) z S fuel (listed.setIfInBounds i true) a w') : Disk.wpAnyZ P md ops (Disk.Ends R) z S (fuel + 1) listed a w :=
 Disk.z_all hr (by
  refine Disk.wpOp_of hi hw ?_
  unfold Oper.wp
  rw [hy]
  refine ⟨hS, ?_⟩
  rw [hd]
  exact h)
theorem exec_clearQ {o : Oper} {T : Array Value} {D : List Deferred} {W W' : World} {d : Operand} {v a : Value} (ho : o.op = .call { callee := .builtin .clear, args := #[d], argTypes := #[24] }) (hd : Act.eval ⟨T, D⟩ d = a) (hrun : (Builtin.clear_ #[24] o.type #[a]).run Tryz.prog W = .ok v W') :
  (execOp (Act.eval ⟨T, D⟩) o).run Tryz.prog W = .ok (.value v) W' := by
 simp [execOp, ho, resolve, invoke, builtin, hd, hrun]
theorem exec_copyQ {o : Oper} {T : Array Value} {D : List Deferred} {W W' : World} {d s : Operand} {v a u : Value} (ho : o.op = .call { callee := .builtin .copy, args := #[d, s], argTypes := #[24, 24] }) (hd : Act.eval ⟨T, D⟩ d = a) (hs : Act.eval ⟨T, D⟩ s = u) (hrun : (Builtin.copy_ #[24, 24] o.type #[a, u]).run Tryz.prog W = .ok v W') :
  (execOp (Act.eval ⟨T, D⟩) o).run Tryz.prog W = .ok (.value v) W' := by
 simp [execOp, ho, resolve, invoke, builtin, hd, hs, hrun]
set_option maxRecDepth 1000000 in
set_option maxHeartbeats 12800000 in
theorem done_loop (w : World) (B C g1 g2 gr cr M : Nat) (v1 v8 : Value) (h : Hp) (hk : okC h = true) (hfit : szS h.words (rchL h) <= 2000) (hv1 : ∃ oa no oc, v1 = .slice oa no oc) (n : DN B w.heap.size C g1 g2 gr M) (K0 : DJ h w B w.heap.size C g1 g2 gr cr M v1 v8 0 (w.alloc (.cells #[.slice none 0 0, .slice none 0 0, .int .i64 0, .int .i64 0, .int .i64 0, .bool false, .int .i64 0, .slice none 0 0] 26))) (hB : B <= w.heap.size) :
  Calls Tryz.prog 32 #[.pointer (some ⟨C, 0, none⟩)] w fun e w' => DoOut h g1 e w' /\ Below B w w' := by
 obtain ⟨oa, no, oc, rfl⟩ := hv1
 have OBS := rch_obs hk
 have hmx : Tryz.prog.follows .mixedOrders = true := by kernel_rfl
 have b9 := K0.box.cell (i := 9) (by omega)
 go_enter Tryz.func32, Tryz.ntmps32
 go_wp2
 go_loopw [11] (fun kv wr => ∃ i : Nat, i <= (rchL h).length /\ kv = .int .i64 i /\ DJ h w B w.heap.size C g1 g2 gr cr M (.slice oa no oc) v8 i wr) (fun kv _ => (rchL h).length - (intOf kv).toNat)
 case atStart => exact ⟨0, Nat.zero_le _, rfl, K0⟩
 case round =>
  clear K0 b9
  obtain ⟨i, hi, rfl, K⟩ := hrel
  have sB : B <= wr.heap.size := Nat.le_trans hB K.bel.size
  by_cases hlt : i < (rchL h).length
  ·obtain ⟨V, RV, DV⟩ := K.words
   have cl := K.rch.cell (i := i) (by rw [ints_length]; exact hlt)
   have eI : (ints (rchL h)).getD i 0 = (((rchL h).getD i 0 : Nat) : Int) := by simp [ints, List.getD_eq_getElem?_getD, hlt]
   rw [eI] at cl
   obtain ⟨o1, o2⟩ := OBS.2 _ (lget_mem _ _ hlt)
   obtain ⟨m, hm⟩ := Int.eq_ofNat_of_zero_le o2.1
   have m60 : m <= 60 := by omega
   have nxo := ((c_right hk).1.obj (List.mem_filter.1 (lget_mem (rchL h) i hlt)).1).2.1
   have hmt : (gw h.words ((rchL h).getD i 0)).toNat = m := by rw [hm]; rfl
   unfold nx at nxo
   rw [hmt] at nxo
   have hmV : gw V ((rchL h).getD i 0) = (m : Int) := by rw [<- hm]; exact dw_obj hk DV hlt _ (Nat.le_refl _)
   have fV := dw_flds hk DV hlt
   have WN := dw_win hk DV hlt
   have DN' := dw_step hk DV hlt
   have pll := rl_place hk (plF h.words (rchL h) (rchL h).length) i hlt
   have psz := pl_size hk i
   have pat := pl_at hk hlt
   rw [hmt] at WN
   have ffit := right_fields (c_right hk) (List.mem_filter.1 (lget_mem (rchL h) i hlt)).1
   have pr := pl_range hk hfit
   have LV := DV.len
   have lt1 : (i : Int) < ((rchL h).length : Int) := by omega
   have k1 : i + 1 <= (rchL h).length := hlt
   have ol : (owd h.words (plF h.words (rchL h) (rchL h).length) ((rchL h).getD i 0)).length = 4 + m := by rw [owd_len, hmt]
   have fll : (flds h.words ((rchL h).getD i 0)).length = m := by unfold flds; rw [List.length_map, List.length_range, hmt]
   have mpK := K.mp
   have b0 := K.box.cell (i := 0) (by omega)
   have b10 := K.box.cell (i := 10) (by omega)
   generalize hpp : (outW h.words (plF h.words (rchL h) (rchL h).length) ((rchL h).take i)).length = p at *
   generalize (rchL h).getD i 0 = a at *
   generalize owd h.words (plF h.words (rchL h) (rchL h).length) a = OW at *
   rw [<- psz] at pat
   generalize hff : (plF h.words (rchL h) (rchL h).length) = f at *
   generalize hnn : (rchL h).length = nn at *
   have HFE : Hid (f = plF h.words (rchL h) nn) := hff.symm
   have HNN : Hid (nn = (rchL h).length) := hnn.symm
   clear hff hnn
   have WS0 : WS wr g1 0 V := fun j hj => by rw [Nat.zero_add]; exact RV.cell (i := j) hj
   have FA := fieldsAt_q g1 3200 V a m wr WS0 LV (Nat.le_refl _) o1 hmV m60 (by unfold nx; rw [hmV]; simp; omega)
   have p1 : p <= a := pll
   have a64 : In64 (a : Int) := ⟨by omega, by omega⟩
   go_wp2_with fail
   refine FA.mono ?_
   rintro e w4 ⟨⟨q, c, rfl, mc, mq, q0⟩, hw4⟩
   obtain rfl := hw4.symm
   clear hw4 FA WS0
   have IF := fld_ir RV LV (by omega) hmV mc mq
   rw [fV] at IF
   have RN := renamed_any _ (flds h.words a) M nn f wr IF mpK (by omega) (fun x _ _ => pr (x / 2))
   have lL : ((flds h.words a).map (rnM f)).length = m := by rw [List.length_map]; exact fll
   rw [show (flds h.words a).length = ((flds h.words a).map (rnM f)).length from by rw [List.length_map]] at RN
   generalize (flds h.words a).map (rnM f) = L at *
   have lH : Hid (L.length = m) := lL
   have fH : Hid ((flds h.words a).length = m) := fll
   have oH : Hid (OW.length = 4 + m) := ol
   have vH : Hid (V.length = 3200) := LV
   clear lL fll ol LV hmt psz hpp
   go_wp2_with fail
   refine RN.mono ?_
   rintro e w5 ⟨⟨v', rfl, ho⟩, hb5⟩
   have K5 := K.later sB hb5
   have RV5 := RV.later hb5
   have mp5 := mpK.later hb5
   have I5 := IR_of_owns ho
   have s5 : B <= w5.heap.size := Nat.le_trans sB hb5.size
   obtain ⟨pv, cv, rfl⟩ := own_shape ho
   have eV : splice V q L = splice V (a + 4) L := by
    rcases mq with z | z
    ·have : L = [] := List.eq_nil_of_length_eq_zero (by have := lH.out; omega)
     subst this
     simp [splice]
    ·rw [z]
   clear RN IF ho cl
   go_wp2_with (refine copy_ints _ rfl _ _ rfl g1 q m c rfl V 3200 RV5 (by have := vH.out; rcases q0 with z | z <;> omega) L pv cv rfl I5 (by have := lH.out; omega) ?_; intro w6 Rw6 G6)
   rw [eV] at Rw6
   clear eV I5 RV5
   have lL := lH.out
   have LV := vH.out
   have L1 : (splice V (a + 4) L).length = 3200 := by
    unfold splice
    simp only [List.length_append, List.length_take, List.length_drop, lL, LV]
    omega
   have gV1 : gw (splice V (a + 4) L) a = (m : Int) := by
    have q0' := WN 0 (by omega)
    rw [Nat.add_zero] at q0'
    show (splice V (a + 4) L).getD a 0 = _
    rw [splice_get _ _ _ _ (by omega), if_pos (by omega)]
    exact hmV
   have box6 := K5.box.of_block (G6.block _ K5.box.lt (fun e => n.nC (Option.some.inj e).symm))
   have mp6 := (Grew.grown G6).mp mp5 (fun e => n.nM (Option.some.inj e))
   have LK : ∀ W', MP W' M nn f -> (Instr.lookup 50 (.map (some M)) (.int .i64 (a : Int)) false).run Tryz.prog W' = .ok (.int .i64 (p : Int)) W' := fun W' q => by
    have lk := q.look (a : Int) a64
    rw [pat] at lk
    exact lk
   have dr : Below w6.heap.size w6 w6.drew := (Below.refl _ _).drew
   have Rwd := Rw6.later dr
   have WSV : WS w6.drew g1 0 (splice V (a + 4) L) := fun j hj => by rw [Nat.zero_add]; exact Rwd.cell (i := j) hj
   have BH := behind_any g1 0 3200 (splice V (a + 4) L) a w6.drew WSV L1 o1 (by rw [gV1]; omega)
   have hnx : nx (splice V (a + 4) L) a = a + 4 + m := by unfold nx; rw [gV1]; rfl
   rw [hnx] at BH
   have p2 : ¬ 3200 = p := by omega
   have p3 : (p : Int) <= 3200 := by omega
   have a3 : ¬ 3200 = a := by omega
   have e5 : ((a : Int) + 4 + (m : Int)).toNat - a = 4 + m := by omega
   have e6 : a <= ((a : Int) + 4 + (m : Int)).toNat := by omega
   have e7 : 0 <= (a : Int) + 4 + (m : Int) := by omega
   have e8 : (a : Int) + 4 + (m : Int) <= 3200 := by omega
   have G6d : w5.grownBy w6.drew (some g1) := ⟨G6.os, G6.tape, G6.output, G6.size, G6.block⟩
   have hs0 : (fun W' => W'.cell? ⟨C, 0, none⟩ = some (.slice (some ⟨g1, 0, none⟩) 3200 3200) /\ W'.cell? ⟨C, 10, none⟩ = some (.map (some M)) /\ MP W' M nn f) w6.drew := ⟨cell_later dr (box6.cell (i := 0) (by omega)), cell_later dr (box6.cell (i := 10) (by omega)), mp6.later dr⟩
   have l1H : Hid ((splice V (a + 4) L).length = 3200) := L1
   clear lL LV L1 gV1
   clear b0 b10 box6 mp6 mp5 mpK pat WSV hnx dr Rw6 G6
   go_wp2_with fail
   refine Disk.z_plain 99 (fun W' => W'.cell? ⟨C, 0, none⟩ = some (.slice (some ⟨g1, 0, none⟩) 3200 3200) /\ W'.cell? ⟨C, 10, none⟩ = some (.map (some M)) /\ MP W' M nn f) hmx hs0 (fun hs => ?_)
   clear hs0
   generalize w6.drew = wd at hs Rwd BH G6d ⊢
   refine Disk.zt0 0 31 (v := .pointer (some ⟨C, 0, none⟩)) rfl rfl hs ?_
   simp only [zA, zB, zC]
   refine Disk.zt0 1 32 (v := .pointer (some ⟨C, 0, none⟩)) rfl rfl hs ?_
   simp only [zA, zB, zC]
   refine Disk.zt0 2 33 (v := .pointer (some ⟨C, 0, none⟩)) rfl rfl hs ?_
   simp only [zA, zB, zC]
   refine Disk.zt0 3 34 (v := .pointer (some ⟨C, 0, none⟩)) rfl rfl hs ?_
   simp only [zA, zB, zC]
   refine Disk.zt0 4 35 (v := .pointer (some ⟨C, 0, none⟩)) rfl rfl hs ?_
   simp only [zA, zB, zC]
   refine Disk.zt 5 36 (v := .slice (some ⟨g1, 0, none⟩) 3200 3200) rfl rfl hs (fun W' hSw => (by
    have b0 := hSw.1
    go_simp; first | done | with_reducible rfl)) ?_
   simp only [zA, zB, zC]
   refine Disk.zt0 6 37 (v := .pointer (some ⟨C, 0, none⟩)) rfl rfl hs ?_
   simp only [zA, zB, zC]
   refine Disk.zt0 7 38 (v := .pointer (some ⟨C, 0, none⟩)) rfl rfl hs ?_
   simp only [zA, zB, zC]
   refine Disk.zt0 8 39 (v := .pointer (some ⟨C, 10, none⟩)) rfl rfl hs ?_
   simp only [zA, zB, zC]
   refine Disk.zt 9 40 (v := .map (some M)) rfl rfl hs (fun W' hSw => (by
    have b10 := hSw.2.1
    go_simp; first | done | with_reducible rfl)) ?_
   simp only [zA, zB, zC]
   refine Disk.zt0 10 41 (v := .int .i64 (a : Int)) rfl rfl hs ?_
   simp only [zA, zB, zC]
   refine Disk.zt 11 42 (v := .int .i64 (p : Int)) rfl rfl hs (fun W' hSw => (by
    have lk := LK _ hSw.2.2
    go_simp; first | done | with_reducible rfl)) ?_
   simp only [zA, zB, zC]
   refine Disk.zt0 12 43 (v := .slice (some ⟨g1, p, none⟩) (3200 - p) (3200 - p)) rfl rfl hs ?_
   simp only [zA, zB, zC]
   refine Disk.zt0 13 44 (v := .pointer (some ⟨C, 0, none⟩)) rfl rfl hs ?_
   simp only [zA, zB, zC]
   refine Disk.zt0 14 45 (v := .pointer (some ⟨C, 0, none⟩)) rfl rfl hs ?_
   simp only [zA, zB, zC]
   refine Disk.zt0 15 46 (v := .pointer (some ⟨C, 0, none⟩)) rfl rfl hs ?_
   simp only [zA, zB, zC]
   refine Disk.zt0 16 47 (v := .pointer (some ⟨C, 0, none⟩)) rfl rfl hs ?_
   simp only [zA, zB, zC]
   refine Disk.zt0 17 48 (v := .pointer (some ⟨C, 0, none⟩)) rfl rfl hs ?_
   simp only [zA, zB, zC]
   refine Disk.zt 18 49 (v := .slice (some ⟨g1, 0, none⟩) 3200 3200) rfl rfl hs (fun W' hSw => (by
    have b0 := hSw.1
    go_simp; first | done | with_reducible rfl)) ?_
   simp only [zA, zB, zC]
   refine Disk.zt0 19 50 (v := .int .i64 (a : Int)) rfl rfl hs ?_
   simp only [zA, zB, zC]
   refine Disk.zt0 20 51 (v := .pointer (some ⟨C, 0, none⟩)) rfl rfl hs ?_
   simp only [zA, zB, zC]
   refine Disk.zt0 21 52 (v := .pointer (some ⟨C, 0, none⟩)) rfl rfl hs ?_
   simp only [zA, zB, zC]
   refine Disk.zt0 22 53 (v := .pointer (some ⟨C, 0, none⟩)) rfl rfl hs ?_
   simp only [zA, zB, zC]
   refine Disk.zt0 23 54 (v := .pointer (some ⟨C, 0, none⟩)) rfl rfl hs ?_
   simp only [zA, zB, zC]
   refine Disk.zt0 24 55 (v := .pointer (some ⟨C, 0, none⟩)) rfl rfl hs ?_
   simp only [zA, zB, zC]
   refine Disk.zt 25 56 (v := .slice (some ⟨g1, 0, none⟩) 3200 3200) rfl rfl hs (fun W' hSw => (by
    have b0 := hSw.1
    go_simp; first | done | with_reducible rfl)) ?_
   simp only [zA, zB, zC]
   refine Disk.zt0 26 57 (v := .int .i64 (a : Int)) rfl rfl hs ?_
   simp only [zA, zB, zC]
   refine Disk.zc 27 58 rfl rfl (f := 61) (args := #[.slice (some ⟨g1, 0, none⟩) 3200 3200, .int .i64 (a : Int)]) (w0 := wd) ?_
   refine BH.mono ?_
   rintro e wq ⟨rfl, eq⟩
   obtain rfl := eq.symm
   clear eq
   refine ⟨_, rfl, .inr hs, ?_⟩
   simp only [zA, zB, zC]
   refine Disk.zr 28 59 (v := .slice (some ⟨g1, a, none⟩) (4 + m) (3200 - a)) rfl rfl (w' := wd) (.inr hs) ?_
   simp only [zA, zB, zC]
   have L1 := l1H.out
   have ol := oH.out
   have ISRC : IR wd (.slice (some ⟨g1, a, none⟩) OW.length (3200 - a)) OW := ⟨_, 3200 - a, rfl, by omega, fun j hj => ⟨g1, a, rfl, by
    rw [Rwd.cell (i := a + j) (by omega), WN j (by omega)]⟩⟩
   obtain ⟨w8, run8, R8, G8⟩ := run_copy_ints wd 3 g1 p (3200 - p) (3200 - p) (splice V (a + 4) L) 3200 Rwd (by omega) OW (some ⟨g1, a, none⟩) (3200 - a) ISRC (by omega)
   rw [ol] at run8
   have hs8 : w8.cell? ⟨C, 0, none⟩ = some (.slice (some ⟨g1, 0, none⟩) 3200 3200) /\ w8.cell? ⟨C, 10, none⟩ = some (.map (some M)) /\ MP w8 M nn f := ⟨G8.cell hs.1 (fun e => n.nC (Option.some.inj e).symm), G8.cell hs.2.1 (fun e => n.nC (Option.some.inj e).symm), (Grew.grown G8).mp hs.2.2 (fun e => n.nM (Option.some.inj e))⟩
   refine Disk.z_run 29 60 rfl rfl (by kernel_rfl) (by rfl) (exec_copyQ rfl rfl rfl run8) (.inr hs8) ?_
   simp only [zA, zB, zC]
   refine Disk.z_done (by kernel_rfl) ?_ _
   rw [HFE.out, HNN.out] at DN'
   have KN := K5.put n s5 (gtransq G6d G8) R8 DN'
   clear run8 hs hs8 ISRC Rwd BH G6d G8 R8 LK K5 K
   go_wp2
   exact ⟨⟨i + 1, k1, by go_num, KN⟩, by simp [intOf]; omega⟩
  ·obtain rfl : i = (rchL h).length := by omega
   obtain ⟨V, RV, DV⟩ := K.words
   obtain ⟨fR, FR⟩ := K.res
   have EE := pl_size hk (rchL h).length
   rw [List.take_length] at EE
   obtain ⟨nn0, -⟩ := szS_le (W := h.words) (l := rchL h) fun a ha => (OBS.2 a ha).2
   have DE := dw_end DV (by omega)
   have LV := DV.len
   have pr := pl_range hk hfit
   have BX := K.box
   have MPk := K.mp
   have RT := K.rts
   have BL := K.bel
   have rl20 : h.roots.length <= 20 := (c_right hk).2.2.2.2.2.1
   have TGT : Hid (∀ W' g, RI W' g (V.take (outW h.words (plF h.words (rchL h) (rchL h).length) (rchL h)).length ++ List.replicate (3200 - (outW h.words (plF h.words (rchL h) (rchL h).length) (rchL h)).length) 0) 3200 -> RI W' g (outW h.words (plF h.words (rchL h) (rchL h).length) (rchL h) ++ List.replicate (3200 - (outW h.words (plF h.words (rchL h) (rchL h).length) (rchL h)).length) 0) 3200) := fun W' g q => by rw [<- DE]; exact q
   generalize hE : (outW h.words (plF h.words (rchL h) (rchL h).length) (rchL h)).length = E at *
   have E2 : E <= 2000 := by omega
   have b0 := BX.cell (i := 0) (by omega)
   have b11 := BX.cell (i := 11) (by omega)
   have FE : Hid (szS h.words (rchL h) = (E : Int)) := EE.symm
   have b11' : wr.cell? ⟨C, 11, none⟩ = some (.int .i64 (E : Int)) := by rw [b11, EE]; rfl
   have hs0 : (fun W' => W'.cell? ⟨C, 0, none⟩ = some (.slice (some ⟨g1, 0, none⟩) 3200 3200) /\ W'.cell? ⟨C, 11, none⟩ = some (.int .i64 (E : Int))) wr.drew := ⟨b0, b11'⟩
   have Rd := RV.later (Below.refl wr.heap.size wr).drew
   have e1 : ¬ 3200 = E := by omega
   have e2 : (E : Int) <= 3200 := by omega
   have vH : Hid (V.length = 3200) := LV
   have Gd : wr.grownBy wr.drew (some g1) := ⟨rfl, rfl, rfl, Nat.le_refl _, fun _ _ _ => rfl⟩
   have HE : Hid (E = (outW h.words (plF h.words (rchL h) (rchL h).length) (rchL h)).length) := hE.symm
   clear b0 b11 b11' DE LV DV RV EE hE K hfit
   go_wp2_with fail
   refine Disk.z_plain 99 (fun W' => W'.cell? ⟨C, 0, none⟩ = some (.slice (some ⟨g1, 0, none⟩) 3200 3200) /\ W'.cell? ⟨C, 11, none⟩ = some (.int .i64 (E : Int))) hmx hs0 (fun hs => ?_)
   clear hs0
   generalize wr.drew = wd at hs Rd Gd ⊢
   refine Disk.zt0 0 62 (v := .pointer (some ⟨C, 0, none⟩)) rfl rfl hs ?_
   simp only [zA, zB, zC]
   refine Disk.zt0 1 63 (v := .pointer (some ⟨C, 0, none⟩)) rfl rfl hs ?_
   simp only [zA, zB, zC]
   refine Disk.zt0 2 64 (v := .pointer (some ⟨C, 0, none⟩)) rfl rfl hs ?_
   simp only [zA, zB, zC]
   refine Disk.zt0 3 65 (v := .pointer (some ⟨C, 0, none⟩)) rfl rfl hs ?_
   simp only [zA, zB, zC]
   refine Disk.zt0 4 66 (v := .pointer (some ⟨C, 0, none⟩)) rfl rfl hs ?_
   simp only [zA, zB, zC]
   refine Disk.zt 5 67 (v := .slice (some ⟨g1, 0, none⟩) 3200 3200) rfl rfl hs (fun W' hSw => (by
    have b0 := hSw.1
    go_simp; first | done | with_reducible rfl)) ?_
   simp only [zA, zB, zC]
   refine Disk.zt0 6 68 (v := .pointer (some ⟨C, 0, none⟩)) rfl rfl hs ?_
   simp only [zA, zB, zC]
   refine Disk.zt0 7 69 (v := .pointer (some ⟨C, 0, none⟩)) rfl rfl hs ?_
   simp only [zA, zB, zC]
   refine Disk.zt0 8 70 (v := .pointer (some ⟨C, 11, none⟩)) rfl rfl hs ?_
   simp only [zA, zB, zC]
   refine Disk.zt 9 71 (v := .int .i64 (E : Int)) rfl rfl hs (fun W' hSw => (by
    have b11 := hSw.2
    go_simp; first | done | with_reducible rfl)) ?_
   simp only [zA, zB, zC]
   refine Disk.zt0 10 72 (v := .slice (some ⟨g1, E, none⟩) (3200 - E) (3200 - E)) rfl rfl hs ?_
   simp only [zA, zB, zC]
   obtain ⟨w8, run8, R8, G8⟩ := run_clear_ints wd 0 g1 E (3200 - E) V 3200 Rd (by have := vH.out; omega)
   rw [vH.out] at run8 R8
   have hs8 : w8.cell? ⟨C, 0, none⟩ = some (.slice (some ⟨g1, 0, none⟩) 3200 3200) /\ w8.cell? ⟨C, 11, none⟩ = some (.int .i64 (E : Int)) := ⟨G8.cell hs.1 (fun e => n.nC (Option.some.inj e).symm), G8.cell hs.2 (fun e => n.nC (Option.some.inj e).symm)⟩
   refine z_drop 11 rfl rfl (by kernel_rfl) (by rfl) (exec_clearQ rfl rfl run8) (.inr hs8) ?_
   refine Disk.z_done (by kernel_rfl) ?_ _
   have G := gtransq Gd G8
   have TW := TGT.out _ _ R8
   have BX8 := BX.of_block (G.block _ BX.lt (fun e => n.nC (Option.some.inj e).symm))
   have MP8 := (Grew.grown G).mp MPk (fun e => n.nM (Option.some.inj e))
   have RT8 := RT.grown G (fun e => n.n2 (Option.some.inj e).symm)
   have FR8 := FR.of_block (G.block _ FR.lt (fun e => n.nR (Option.some.inj e).symm))
   have BL8 := Below.grown BL G sB (fun q e => by cases e; exact n.b1)
   clear run8 hs hs8 Rd Gd G8 G R8 TGT BX MPk RT FR BL
   have b2 := BX8.cell (i := 2) (by omega)
   have b10 := BX8.cell (i := 10) (by omega)
   have dr : Below w8.heap.size w8 w8.drew := (Below.refl _ _).drew
   have TWd := TW.later dr
   have RTd := (RT8.later dr).ir (cap := h.roots.length) (Nat.le_refl _)
   have MPd := MP8.later dr
   have BXd := BX8.of_block (w' := w8.drew) rfl
   have FRd := FR8.of_block (w' := w8.drew) rfl
   have BLd := BL8.drew
   have hs0 : (fun W' => W'.cell? ⟨C, 10, none⟩ = some (.map (some M))) w8.drew := b10
   have b2d : w8.drew.cell? ⟨C, 2, none⟩ = some (.slice (some ⟨g2, 0, none⟩) h.roots.length h.roots.length) := b2
   clear TW RT8 MP8 BX8 FR8 BL8 b2 b10 dr
   go_wp2_with fail
   refine Disk.z_plain 99 (fun W' => W'.cell? ⟨C, 10, none⟩ = some (.map (some M))) hmx hs0 (fun hs => ?_)
   clear hs0
   generalize w8.drew = wd at hs TWd RTd MPd BXd FRd BLd b2d ⊢
   refine Disk.zt0 0 73 (v := .pointer (some ⟨C, 0, none⟩)) rfl rfl hs ?_
   simp only [zA, zB, zC]
   refine Disk.zt0 1 74 (v := .pointer (some ⟨C, 0, none⟩)) rfl rfl hs ?_
   simp only [zA, zB, zC]
   refine Disk.zt0 2 75 (v := .pointer (some ⟨C, 0, none⟩)) rfl rfl hs ?_
   simp only [zA, zB, zC]
   refine Disk.zt0 3 76 (v := .pointer (some ⟨C, 0, none⟩)) rfl rfl hs ?_
   simp only [zA, zB, zC]
   refine Disk.zt0 4 77 (v := .pointer (some ⟨C, 0, none⟩)) rfl rfl hs ?_
   simp only [zA, zB, zC]
   refine Disk.zt0 5 78 (v := .pointer (some ⟨C, 2, none⟩)) rfl rfl hs ?_
   simp only [zA, zB, zC]
   refine Disk.zt0 7 80 (v := .pointer (some ⟨C, 0, none⟩)) rfl rfl hs ?_
   simp only [zA, zB, zC]
   refine Disk.zt0 8 81 (v := .pointer (some ⟨C, 0, none⟩)) rfl rfl hs ?_
   simp only [zA, zB, zC]
   refine Disk.zt0 9 82 (v := .pointer (some ⟨C, 10, none⟩)) rfl rfl hs ?_
   simp only [zA, zB, zC]
   refine Disk.zt 10 83 (v := .map (some M)) rfl rfl hs (fun W' hSw => (by
    have b10 := hSw
    go_simp; first | done | with_reducible rfl)) ?_
   simp only [zA, zB, zC]
   refine Disk.zr 6 79 (v := .slice (some ⟨g2, 0, none⟩) h.roots.length h.roots.length) rfl rfl (w' := wd) (.inr hs) ?_
   simp only [zA, zB, zC]
   refine Disk.zc 11 84 rfl rfl (f := 43) (args := #[.slice (some ⟨g2, 0, none⟩) h.roots.length h.roots.length, .map (some M)]) (w0 := wd) ?_
   refine (renamed_any _ h.roots M _ _ wd RTd MPd (by omega) (fun x _ _ => pr (x / 2))).mono ?_
   rintro e w9 ⟨⟨v', rfl, ho⟩, hb9⟩
   obtain ⟨pv, cv, rfl⟩ := own_shape ho
   have hs9 := cell_later hb9 hs
   have BX9 := BXd.of_block (hb9.block _ BXd.lt)
   have FR9 := FRd.of_block (hb9.block _ FRd.lt)
   have TW9 := TWd.later hb9
   have BL9 := BLd.trans (hb9.mono (Nat.le_trans hB BLd.size))
   have ltC := BXd.lt
   have ltg := TWd.lt
   have ltR := FRd.lt
   have fz := fun i => BX9.frozen i
   have c2 := BX9.cell (i := 2) (by omega)
   have c8 := BX9.cell (i := 8) (by omega)
   refine ⟨_, rfl, .inr hs9, ?_⟩
   simp only [zA, zB, zC]
   clear hs b2d RTd MPd BXd FRd TWd
   refine Disk.zr 12 85 (v := .pointer (some ⟨C, 0, none⟩)) rfl rfl (w' := w9) (.inr hs9) ?_
   simp only [zA, zB, zC]
   refine Disk.zr 13 86 (v := .pointer (some ⟨C, 0, none⟩)) rfl rfl (w' := w9) (.inr hs9) ?_
   simp only [zA, zB, zC]
   refine Disk.zr 14 87 (v := .pointer (some ⟨C, 2, none⟩)) rfl rfl (w' := w9) (.inr hs9) ?_
   simp only [zA, zB, zC]
   have BXa := BX9.set 2 (.slice pv h.roots.length cv)
   have hsa : (w9.setCell ⟨C, 2, none⟩ (.slice pv h.roots.length cv)).cell? ⟨C, 10, none⟩ = some (.map (some M)) := BXa.cell (i := 10) (by omega)
   refine Disk.zk 15 (w' := w9.setCell ⟨C, 2, none⟩ (.slice pv h.roots.length cv)) rfl rfl (.inr hsa) ?_
   have ca8 := BXa.cell (i := 8) (by omega)
   have fza := fun i => BXa.frozen i
   have Ga := gset1q w9 C 2 (.slice pv h.roots.length cv)
   generalize w9.setCell ⟨C, 2, none⟩ (.slice pv h.roots.length cv) = wa at *
   refine Disk.zr 16 88 (v := .pointer (some ⟨C, 0, none⟩)) rfl rfl (w' := wa) (.inr hsa) ?_
   simp only [zA, zB, zC]
   refine Disk.zr 17 89 (v := .pointer (some ⟨C, 0, none⟩)) rfl rfl (w' := wa) (.inr hsa) ?_
   simp only [zA, zB, zC]
   refine Disk.zr 18 90 (v := .pointer (some ⟨C, 8, none⟩)) rfl rfl (w' := wa) (.inr hsa) ?_
   simp only [zA, zB, zC]
   have BXb := BXa.set 8 (.slice none 0 0)
   have hsb : (wa.setCell ⟨C, 8, none⟩ (.slice none 0 0)).cell? ⟨C, 10, none⟩ = some (.map (some M)) := BXb.cell (i := 10) (by omega)
   refine Disk.zk 19 (w' := wa.setCell ⟨C, 8, none⟩ (.slice none 0 0)) rfl rfl (.inr hsb) ?_
   refine Disk.z_done (by kernel_rfl) ?_ _
   have Gb := gtransq Ga (gset1q wa C 8 (.slice none 0 0))
   have BXc : (wa.setCell ⟨C, 8, none⟩ (.slice none 0 0)).rowIs C 52 12 (fun j => (#[.slice (some ⟨g1, 0, none⟩) 3200 3200, .slice oa no oc, .slice pv h.roots.length cv, .int .i64 h.old, .int .i64 h.eden, .int .i64 h.surv, .bool h.flip, .int .i64 h.hash, .slice none 0 0, .slice (some ⟨gr, 0, none⟩) (rchL h).length cr, .map (some M), .int .i64 (szS h.words (rchL h))] : Array Value)[j]?.getD undef) := BXb.congr (fun j hj => by rcases j with _ | _ | _ | _ | _ | _ | _ | _ | _ | _ | _ | _ | j <;> first | rfl | omega)
   generalize wa.setCell ⟨C, 8, none⟩ (.slice none 0 0) = wb at *
   have BLb := Below.grown BL9 Gb (Nat.le_trans hB BL9.size) (fun q e => by cases e; exact n.bC)
   have FRb := FR9.of_block (Gb.block _ FR9.lt (fun e => n.nCR (Option.some.inj e).symm))
   have TWb := TW9.grown Gb (fun e => n.nC (Option.some.inj e))
   have OWb := (Grew.grown Gb).own ho (fun b e z => by have := (ho.lt b e).1; have := Option.some.inj z; omega)
   have wdl : g1 < wd.heap.size := ltg
   clear BXa BXb hsa hsb hs9 BX9 fz c2 c8 ca8 fza Ga Gb ho FR9 TW9 BL9 hb9
   obtain ⟨r0, r1, r2, r3, r4, r5, r6, r7⟩ := zrc8 BXc; have r8 := BXc.cell (i := 8) (by omega); have r11 := BXc.cell (i := 11) (by omega)
   have fz := fun i => BXc.frozen i
   have DH := fun W => draftHeap_any (some ⟨g1, 0, none⟩) pv none oa 3200 h.roots.length 0 no 3200 cv 0 oc (szS h.words (rchL h)) 2000 2600 h.hash false W
   go_wp2_with fail
   refine (DH ((((wb.setCell ⟨C, 3, none⟩ (.int .i64 (szS h.words (rchL h)))).setCell ⟨C, 4, none⟩ (.int .i64 2000)).setCell ⟨C, 5, none⟩ (.int .i64 2600)).setCell ⟨C, 6, none⟩ (.bool false))).mono ?_
   rintro e wc ⟨rfl, hbc⟩
   have G11 : wb.grownBy ((((wb.setCell ⟨C, 3, none⟩ (.int .i64 (szS h.words (rchL h)))).setCell ⟨C, 4, none⟩ (.int .i64 2000)).setCell ⟨C, 5, none⟩ (.int .i64 2600)).setCell ⟨C, 6, none⟩ (.bool false)) (some C) := gtransq (gtransq (gtransq (gset1q _ _ _ _) (gset1q _ _ _ _)) (gset1q _ _ _ _)) (gset1q _ _ _ _)
   generalize ((((wb.setCell ⟨C, 3, none⟩ (.int .i64 (szS h.words (rchL h)))).setCell ⟨C, 4, none⟩ (.int .i64 2000)).setCell ⟨C, 5, none⟩ (.int .i64 2600)).setCell ⟨C, 6, none⟩ (.bool false)) = wz at hbc G11
   have FRc := (FRb.of_block (G11.block _ FRb.lt (fun e => n.nCR (Option.some.inj e).symm)))
   have FRc2 := FRc.of_block (hbc.block _ FRc.lt)
   have TWc := (TWb.grown G11 (fun e => n.nC (Option.some.inj e))).later hbc
   have OWz := (Grew.grown G11).own OWb (fun b e z => by have := (OWb.lt b e).1; have := Option.some.inj z; omega)
   have OWc := own_later OWz hbc
   have BLz := Below.grown BLb G11 (Nat.le_trans hB BLb.size) (fun q e => by cases e; exact n.bC)
   have BLc := BLz.trans (hbc.mono (Nat.le_trans hB BLz.size))
   have OKC : (#[.slice (some ⟨g1, 0, none⟩) 3200 3200, .slice pv h.roots.length cv, .int .i64 (szS h.words (rchL h)), .int .i64 2000, .int .i64 2600, .bool false, .int .i64 h.hash, .slice none 0 0] : Array Value).all (·.oneCell') = true := by simp [Value.oneCell']
   clear r0 r1 r2 r3 r4 r5 r6 r7 r8 r11 fz BXc FRb TWb OWb BLb G11 hbc FRc BLz OWz DH
   go_wp2_with ((with_reducible refine store_box _ ?_ (.tmp 2) (.tmp 115) 26 ?_ 26 w.heap.size 8 #[.slice (some ⟨g1, 0, none⟩) 3200 3200, .slice pv h.roots.length cv, .int .i64 (szS h.words (rchL h)), .int .i64 2000, .int .i64 2600, .bool false, .int .i64 h.hash, .slice none 0 0] _ ?_ ?_ FRc2 ?_ ?_ OKC ?_); rfl; rfl; rfl; rfl; rfl; kernel_rfl; intro w13 F9 G13)
   obtain ⟨r0, r1, r2, r3, r4, r5, r6, r7⟩ := zrc8 F9
   have TWf := TWc.grown G13 (fun e => n.nR (Option.some.inj e))
   rw [HE.out] at TWf
   have OWf := (Grew.grown G13).own OWc (fun b e z => by have := (OWc.lt b e).1; have := Option.some.inj z; omega)
   have BLf := Below.grown BLc G13 (Nat.le_trans hB BLc.size) (fun q e => by cases e; exact n.bR)
   exact bodyPost_ret (v := .agg #[.slice (some ⟨g1, 0, none⟩) 3200 3200, .slice pv h.roots.length cv, .int .i64 (szS h.words (rchL h)), .int .i64 2000, .int .i64 2600, .bool false, .int .i64 h.hash, .slice none 0 0]) (by simp [results, Tryz.results32, go_sem, r0, r1, r2, r3, r4, r5, r6, r7]) rfl ⟨⟨_, rfl, TWf, wd.heap.size, wdl, OWf⟩, BLf⟩
end Go.Proofs.YthdffigckohpoaaGreat
