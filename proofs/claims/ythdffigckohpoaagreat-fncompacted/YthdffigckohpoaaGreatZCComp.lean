/- compactionOf of the program: where all that is reached goes. -/
import Derived.Test.YthdffigckohpoaaGreatZCReg4
import Derived.Test.YthdffigckohpoaaGreatZV16
import Derived.Test.YthdffigckohpoaaGreatZMDraft
namespace Go.Proofs.YthdffigckohpoaaGreat
open Go.RowKit
/-- What compactionOf answers. -/
def CoO (h : Hp) (B : Nat) (e : Ending) (w' : World) : Prop :=
 (okC h = true /\ ∃ g1 g2 g3 oa oc gr cr M, e = .returned (.tuple #[.agg #[.slice (some ⟨g1, 0, none⟩) 3200 3200, .slice oa (obC h).length oc, .slice (some ⟨g2, 0, none⟩) h.roots.length h.roots.length, .int .i64 h.old, .int .i64 h.eden, .int .i64 h.surv, .bool h.flip, .int .i64 h.hash, .slice (some ⟨g3, 0, none⟩) h.kept.length h.kept.length, .slice (some ⟨gr, 0, none⟩) (rchL h).length cr, .map (some M), .int .i64 (szS h.words (rchL h))], .bool (decide (szS h.words (rchL h) <= 2000))]) ∧
  (RI w' g1 h.words 3200 /\ RI w' g2 h.roots h.roots.length /\ RI w' g3 h.kept h.kept.length) /\ IR w' (.slice oa (obC h).length oc) (ints (obC h)) /\ RI w' gr (ints (rchL h)) cr /\ MP w' M (rchL h).length (plF h.words (rchL h) (rchL h).length) /\ (B <= g1 /\ g1 < g2 /\ g2 < g3 /\ g3 < gr /\ g3 < M /\ M ≠ gr)) ∨
 (okC h = false /\ e = .returned (.tuple #[.agg #[.slice none 0 0, .slice none 0 0, .slice none 0 0, .int .i64 0, .int .i64 0, .int .i64 0, .bool false, .int .i64 0, .slice none 0 0, .slice none 0 0, .map none, .int .i64 0], .bool false]))
def CoO' (h : Hp) (B : Nat) (_s : Int) (g1 g2 g3 : Nat) (oa : Option Addr) (oc gr cr M : Nat) (w' : World) : Prop :=
 (RI w' g1 h.words 3200 /\ RI w' g2 h.roots h.roots.length /\ RI w' g3 h.kept h.kept.length) /\ IR w' (.slice oa (obC h).length oc) (ints (obC h)) /\ RI w' gr (ints (rchL h)) cr /\ MP w' M (rchL h).length (plF h.words (rchL h) (rchL h).length) /\ (B <= g1 /\ g1 < g2 /\ g2 < g3 /\ g3 < gr /\ g3 < M /\ M ≠ gr)
theorem gset1q (w : World) (b i : Nat) (v : Value) : w.grownBy (w.setCell ⟨b, i, none⟩ v) (some b) :=
 ⟨rfl, rfl, rfl, by simp [World.setCell], fun k _ hr => Below.heap_setCell _ _ _ _ (fun e => hr (by rw [e]))⟩
/-- On the way: i of the reached have their places. -/
structure CW (h : Hp) (w2 : World) (M gr cr C : Nat) (v1 v2 v3 v4 : Value) (i : Nat) (W : World) : Prop where
 bel : Below w2.heap.size w2 W
 mp : MP W M i (plF h.words (rchL h) i)
 ri : RI W gr (ints (rchL h)) cr
 box : W.rowIs C 52 12 (fun j => (#[v1, v2, v3, .int .i64 h.old, .int .i64 h.eden, .int .i64 h.surv, .bool h.flip, .int .i64 h.hash, v4, .slice (some ⟨gr, 0, none⟩) (rchL h).length cr, .map (some M), .int .i64 (szS h.words ((rchL h).take i))] : Array Value)[j]?.getD undef)
set_option maxRecDepth 1000000 in
set_option maxHeartbeats 12800000 in
theorem compactionOf_c (v : Value) (h : Hp) (w : World) (hv : HR w v h) (hwo : h.words.length <= 1000000000000) (hro : h.roots.length <= 1000000000000) (hke : h.kept.length <= 1000000000000) :
  Calls Tryz.prog 31 #[v] w fun e w' => CoO h w.heap.size e w' /\ Below w.heap.size w w' := by
 obtain ⟨v1, v2, v3, rfl, i1, i2, i3⟩ := id hv
 obtain ⟨a1, c1, rfl, -⟩ := IRs i1
 obtain ⟨a2, c2, rfl, -⟩ := IRs i2
 obtain ⟨a3, c3, rfl, -⟩ := IRs i3
 have hb0 : Below w.heap.size w ((w.alloc (.cells #[.slice a1 h.words.length c1, .slice a2 h.roots.length c2, .int .i64 h.old, .int .i64 h.eden, .int .i64 h.surv, .bool h.flip, .int .i64 h.hash, .slice a3 h.kept.length c3] 26)).alloc (.cells #[.slice none 0 0, .slice none 0 0, .slice none 0 0, .int .i64 0, .int .i64 0, .int .i64 0, .bool false, .int .i64 0, .slice none 0 0, .slice none 0 0, .map none, .int .i64 0] 52)) := bel_after (bel_one _ _) (bel_one _ _)
 have X0 := (Bx.new w (.slice a1 h.words.length c1) (.slice a2 h.roots.length c2) (.slice a3 h.kept.length c3) h 26).later (bel_one _ (.cells #[.slice none 0 0, .slice none 0 0, .slice none 0 0, .int .i64 0, .int .i64 0, .int .i64 0, .bool false, .int .i64 0, .slice none 0 0, .slice none 0 0, .map none, .int .i64 0] 52))
 have RR0 := row_any (w.alloc (.cells #[.slice a1 h.words.length c1, .slice a2 h.roots.length c2, .int .i64 h.old, .int .i64 h.eden, .int .i64 h.surv, .bool h.flip, .int .i64 h.hash, .slice a3 h.kept.length c3] 26)) #[.slice none 0 0, .slice none 0 0, .slice none 0 0, .int .i64 0, .int .i64 0, .int .i64 0, .bool false, .int .i64 0, .slice none 0 0, .slice none 0 0, .map none, .int .i64 0] 52
 rw [World.size_alloc] at RR0
 have C0 := draftOf_c2 _ h _ (hv.later hb0) hwo hro hke
 have z0 : ((w.alloc (.cells #[.slice a1 h.words.length c1, .slice a2 h.roots.length c2, .int .i64 h.old, .int .i64 h.eden, .int .i64 h.surv, .bool h.flip, .int .i64 h.hash, .slice a3 h.kept.length c3] 26)).alloc (.cells #[.slice none 0 0, .slice none 0 0, .slice none 0 0, .int .i64 0, .int .i64 0, .int .i64 0, .bool false, .int .i64 0, .slice none 0 0, .slice none 0 0, .map none, .int .i64 0] 52)).heap.size = w.heap.size + 2 := by simp
 obtain ⟨x0, x1, x2, x3, x4, x5, x6, x7⟩ := id X0
 have hmx : Tryz.prog.follows .mixedOrders = true := by kernel_rfl
 clear i1 i2 i3
 go_enter Tryz.func31, Tryz.ntmps31
 go_wp2_with fail
 refine C0.mono ?_
 rintro x w1 ⟨D, hb1⟩
 have RR1 := RR0.of_block (hb1.block _ RR0.lt)
 have hbw1 := bel_after hb0 hb1
 have X1 := X0.later hb1
 have s1 := hb1.size
 rw [z0] at s1
 clear x0 x1 x2 x3 x4 x5 x6 x7 RR0 X0 C0
 rcases D with ⟨hk, g1, g2, g3, oa, oc, rfl, ⟨Q1, Q2, Q3⟩, ⟨q1, q2, q3⟩, io, -, low⟩ | ⟨hk, rfl⟩
 ·have R := c_right hk
  have hl : h.words.length = 3200 := R.1.1
  rw [hl] at Q1 X1 hv
  rw [hl]
  rw [z0] at q1 low
  have al := bel_one w1 (.cells #[.slice (some ⟨g1, 0, none⟩) 3200 3200, .slice oa (obC h).length oc, .slice (some ⟨g2, 0, none⟩) h.roots.length h.roots.length, .int .i64 h.old, .int .i64 h.eden, .int .i64 h.surv, .bool h.flip, .int .i64 h.hash, .slice (some ⟨g3, 0, none⟩) h.kept.length h.kept.length] 49)
  have X2 := X1.later al
  have hbw2 := bel_after hbw1 al
  have RR2 := RR1.of_block (al.block _ RR1.lt)
  have HL : Hid (h.words.length = 3200) := hl
  have hv2 := hv.later hbw2
  have D2 := row_any w1 #[.slice (some ⟨g1, 0, none⟩) 3200 3200, .slice oa (obC h).length oc, .slice (some ⟨g2, 0, none⟩) h.roots.length h.roots.length, .int .i64 h.old, .int .i64 h.eden, .int .i64 h.surv, .bool h.flip, .int .i64 h.hash, .slice (some ⟨g3, 0, none⟩) h.kept.length h.kept.length] 49
  have R1' := Q1.later al
  have R2' := Q2.later al
  have R3' := Q3.later al
  have io' := io.later al
  have l3 := Q3.lt
  have s2 : (w1.alloc (.cells #[.slice (some ⟨g1, 0, none⟩) 3200 3200, .slice oa (obC h).length oc, .slice (some ⟨g2, 0, none⟩) h.roots.length h.roots.length, .int .i64 h.old, .int .i64 h.eden, .int .i64 h.surv, .bool h.flip, .int .i64 h.hash, .slice (some ⟨g3, 0, none⟩) h.kept.length h.kept.length] 49)).heap.size = w1.heap.size + 1 := by simp
  have OBS := rch_obs hk
  have ND : Hid ((rchL h).Nodup) := (rch_sorted hk).imp (fun q => by omega)
  have HK : Hid (okC h = true) := hk
  clear Q1 Q2 Q3 io al hv X1 RR1 hbw1 hb0 hb1 hl
  have XX : ∀ W, Below (w1.alloc (.cells #[.slice (some ⟨g1, 0, none⟩) 3200 3200, .slice oa (obC h).length oc, .slice (some ⟨g2, 0, none⟩) h.roots.length h.roots.length, .int .i64 h.old, .int .i64 h.eden, .int .i64 h.surv, .bool h.flip, .int .i64 h.hash, .slice (some ⟨g3, 0, none⟩) h.kept.length h.kept.length] 49)).heap.size (w1.alloc (.cells #[.slice (some ⟨g1, 0, none⟩) 3200 3200, .slice oa (obC h).length oc, .slice (some ⟨g2, 0, none⟩) h.roots.length h.roots.length, .int .i64 h.old, .int .i64 h.eden, .int .i64 h.surv, .bool h.flip, .int .i64 h.hash, .slice (some ⟨g3, 0, none⟩) h.kept.length h.kept.length] 49)) W -> W.cell? ⟨w.heap.size, 0, none⟩ = some (.slice a1 3200 c1) /\ W.cell? ⟨w.heap.size, 1, none⟩ = some (.slice a2 h.roots.length c2) /\ W.cell? ⟨w.heap.size, 2, none⟩ = some (.int .i64 h.old) /\ W.cell? ⟨w.heap.size, 3, none⟩ = some (.int .i64 h.eden) /\ W.cell? ⟨w.heap.size, 4, none⟩ = some (.int .i64 h.surv) /\ W.cell? ⟨w.heap.size, 5, none⟩ = some (.bool h.flip) /\ W.cell? ⟨w.heap.size, 6, none⟩ = some (.int .i64 h.hash) /\ W.cell? ⟨w.heap.size, 7, none⟩ = some (.slice a3 h.kept.length c3) := fun W q => by
   obtain ⟨x0, x1, x2, x3, x4, x5, x6, x7⟩ := X2.later q
   exact ⟨x0, x1, x2, x3, x4, x5, x6, x7⟩
  have DD : ∀ W, Below (w1.alloc (.cells #[.slice (some ⟨g1, 0, none⟩) 3200 3200, .slice oa (obC h).length oc, .slice (some ⟨g2, 0, none⟩) h.roots.length h.roots.length, .int .i64 h.old, .int .i64 h.eden, .int .i64 h.surv, .bool h.flip, .int .i64 h.hash, .slice (some ⟨g3, 0, none⟩) h.kept.length h.kept.length] 49)).heap.size (w1.alloc (.cells #[.slice (some ⟨g1, 0, none⟩) 3200 3200, .slice oa (obC h).length oc, .slice (some ⟨g2, 0, none⟩) h.roots.length h.roots.length, .int .i64 h.old, .int .i64 h.eden, .int .i64 h.surv, .bool h.flip, .int .i64 h.hash, .slice (some ⟨g3, 0, none⟩) h.kept.length h.kept.length] 49)) W -> W.cell? ⟨w1.heap.size, 0, none⟩ = some (.slice (some ⟨g1, 0, none⟩) 3200 3200) /\ W.cell? ⟨w1.heap.size, 1, none⟩ = some (.slice oa (obC h).length oc) /\ W.cell? ⟨w1.heap.size, 2, none⟩ = some (.slice (some ⟨g2, 0, none⟩) h.roots.length h.roots.length) /\ W.cell? ⟨w1.heap.size, 3, none⟩ = some (.int .i64 h.old) /\ W.cell? ⟨w1.heap.size, 4, none⟩ = some (.int .i64 h.eden) /\ W.cell? ⟨w1.heap.size, 5, none⟩ = some (.int .i64 h.surv) /\ W.cell? ⟨w1.heap.size, 6, none⟩ = some (.bool h.flip) /\ W.cell? ⟨w1.heap.size, 7, none⟩ = some (.int .i64 h.hash) /\ W.cell? ⟨w1.heap.size, 8, none⟩ = some (.slice (some ⟨g3, 0, none⟩) h.kept.length h.kept.length) := fun W q =>
   ⟨cell_later q (D2.cell (i := 0) (by simp)), cell_later q (D2.cell (i := 1) (by simp)), cell_later q (D2.cell (i := 2) (by simp)), cell_later q (D2.cell (i := 3) (by simp)), cell_later q (D2.cell (i := 4) (by simp)), cell_later q (D2.cell (i := 5) (by simp)), cell_later q (D2.cell (i := 6) (by simp)), cell_later q (D2.cell (i := 7) (by simp)), cell_later q (D2.cell (i := 8) (by simp))⟩
  have TF := fun W (q : Below (w1.alloc (.cells #[.slice (some ⟨g1, 0, none⟩) 3200 3200, .slice oa (obC h).length oc, .slice (some ⟨g2, 0, none⟩) h.roots.length h.roots.length, .int .i64 h.old, .int .i64 h.eden, .int .i64 h.surv, .bool h.flip, .int .i64 h.hash, .slice (some ⟨g3, 0, none⟩) h.kept.length h.kept.length] 49)).heap.size (w1.alloc (.cells #[.slice (some ⟨g1, 0, none⟩) 3200 3200, .slice oa (obC h).length oc, .slice (some ⟨g2, 0, none⟩) h.roots.length h.roots.length, .int .i64 h.old, .int .i64 h.eden, .int .i64 h.surv, .bool h.flip, .int .i64 h.hash, .slice (some ⟨g3, 0, none⟩) h.kept.length h.kept.length] 49)) W) => tourOf_any _ h (obC h) W (hv2.later q) R
  go_wp2_with fail
  refine creg4 hk XX DD TF _ _ _ _ _ _ _ _ _ _ _ _ _ _ _ _ _ _ _ _ _ _ _ _ _ _ _ _ _ _ _ _ _ _ _ _ _ _ _ _ _ _ _ _ _ _ _ _ _ _ _ ?_
  intro W M gr cr C a17 a18 a19 a20 a21 a22 a23 hbW MPm Rm RC lM lgr lC nMg nMC ngC
  have MP0 : MP W M 0 (plF h.words (rchL h) 0) := by rw [plF_zero]; exact MPm
  have K0 : CW h (w1.alloc (.cells #[.slice (some ⟨g1, 0, none⟩) 3200 3200, .slice oa (obC h).length oc, .slice (some ⟨g2, 0, none⟩) h.roots.length h.roots.length, .int .i64 h.old, .int .i64 h.eden, .int .i64 h.surv, .bool h.flip, .int .i64 h.hash, .slice (some ⟨g3, 0, none⟩) h.kept.length h.kept.length] 49)) M gr cr C (.slice (some ⟨g1, 0, none⟩) 3200 3200) (.slice oa (obC h).length oc) (.slice (some ⟨g2, 0, none⟩) h.roots.length h.roots.length) (.slice (some ⟨g3, 0, none⟩) h.kept.length h.kept.length) 0 W := ⟨hbW, MP0, Rm, RC⟩
  rw [s2] at lM lgr lC
  clear MPm MP0 RC hbW XX DD TF D2 hv2 X2 hk
  generalize hw2 : w1.alloc (.cells #[.slice (some ⟨g1, 0, none⟩) 3200 3200, .slice oa (obC h).length oc, .slice (some ⟨g2, 0, none⟩) h.roots.length h.roots.length, .int .i64 h.old, .int .i64 h.eden, .int .i64 h.surv, .bool h.flip, .int .i64 h.hash, .slice (some ⟨g3, 0, none⟩) h.kept.length h.kept.length] 49) = w2 at *
  clear hw2
  have b9 := K0.box.cell (i := 9) (by omega)
  go_wp2
  go_loopw [27] (fun kv wr => ∃ i : Nat, i <= (rchL h).length /\ kv = .int .i64 i /\ CW h w2 M gr cr C (.slice (some ⟨g1, 0, none⟩) 3200 3200) (.slice oa (obC h).length oc) (.slice (some ⟨g2, 0, none⟩) h.roots.length h.roots.length) (.slice (some ⟨g3, 0, none⟩) h.kept.length h.kept.length) i wr) (fun kv _ => (rchL h).length - (intOf kv).toNat)
  case atStart => exact ⟨0, Nat.zero_le _, rfl, K0⟩
  case round =>
   clear K0 b9 Rm
   obtain ⟨i, hi, rfl, K⟩ := hrel
   by_cases hlt : i < (rchL h).length
   ·have cl := K.ri.cell (i := i) (by rw [ints_length]; exact hlt)
    obtain ⟨o1, o2⟩ := OBS.2 _ (lget_mem _ _ hlt)
    have eI : (ints (rchL h)).getD i 0 = (((rchL h).getD i 0 : Nat) : Int) := by simp [ints, List.getD_eq_getElem?_getD, hlt]
    rw [eI] at cl
    have PS := plF_succ h.words ND.out hlt
    obtain ⟨e1, e2⟩ := szS_le (W := h.words) (l := (rchL h).take i) fun a ha => (OBS.2 a (List.mem_of_mem_take ha)).2
    rw [List.length_take] at e2
    have HS := szS_snoc h.words (rchL h) i hlt
    obtain ⟨m, hm⟩ := Int.eq_ofNat_of_zero_le o2.1
    have hx : nx h.words ((rchL h).getD i 0) = (rchL h).getD i 0 + 4 + m := by unfold nx; rw [hm]; rfl
    have e3 : szS h.words ((rchL h).take i) <= 204800 := by have := OBS.1; omega
    have m60 : m <= 60 := by omega
    have lt1 : (i : Int) < ((rchL h).length : Int) := by omega
    obtain ⟨w3, hrun, m3, g3'⟩ := K.mp.update (by have := OBS.1; omega) (((rchL h).getD i 0 : Nat) : Int) (szS h.words ((rchL h).take i)) ⟨by omega, by omega⟩ ⟨by omega, by omega⟩
    rw [PS] at m3
    have box3 := K.box.of_block (g3'.block _ K.box.lt (fun e => nMC (Option.some.inj e).symm))
    have ri3 := K.ri.grown g3' (fun e => nMg (Option.some.inj e).symm)
    have bel3 : Below w2.heap.size w2 w3 := Below.grown K.bel g3' K.bel.size (fun k e => by cases e; omega)
    have WS3 : WS w3 g1 0 h.words := fun j hj => by
     have q := (R1'.later bel3).cell (i := j) hj
     rw [Nat.zero_add]
     exact q
    have BH := fun W3 (q : Below w3.heap.size w3 W3) => behind_any g1 0 3200 h.words ((rchL h).getD i 0) W3 (WS3.later q) HL.out o1 o2
    rw [hx] at BH
    have HS' : Hid (szS h.words ((rchL h).take (i + 1)) = szS h.words ((rchL h).take i) + (4 + m)) := (by rw [HS, hm]; omega : szS h.words ((rchL h).take (i + 1)) = szS h.words ((rchL h).take i) + (4 + m))
    have b10 := K.box.cell (i := 10) (by omega)
    have b11 := K.box.cell (i := 11) (by omega)
    have M3 : Hid (MP w3 M (i + 1) (plF h.words (rchL h) (i + 1))) := m3
    have k1 : i + 1 <= (rchL h).length := hlt
    clear hm hx HS PS o2 eI e2 WS3 m3 K
    generalize (rchL h).getD i 0 = a at *
    generalize szS h.words ((rchL h).take i) = s at *
    have hs0 : Below w3.heap.size w3 w3.drew := (Below.refl _ _).drew
    have B11 : ∀ W', Below w3.heap.size w3 W' -> W'.cell? ⟨C, 11, none⟩ = some (.int .i64 s) /\ W'.cell? ⟨C, 0, none⟩ = some (.slice (some ⟨g1, 0, none⟩) 3200 3200) := fun W' q => ⟨cell_later q (box3.cell (i := 11) (by omega)), cell_later q (box3.cell (i := 0) (by omega))⟩
    go_wp2_with fail
    refine Disk.z_plain 12 (fun W' => Below w3.heap.size w3 W') hmx hs0 (fun hs => ?_)
    clear hs0
    generalize w3.drew = wd at hs ⊢
    refine Disk.zt0 0 36 (v := .pointer (some ⟨C, 11, none⟩)) rfl rfl hs ?_
    simp only [zA, zB, zC]
    refine Disk.zt 1 37 (v := .int .i64 s) rfl rfl hs (fun W' hSw => (by
     obtain ⟨c, -⟩ := B11 _ hSw
     go_simp; first | done | with_reducible rfl)) ?_
    simp only [zA, zB, zC]
    refine Disk.zt0 2 38 (v := .pointer (some ⟨C, 0, none⟩)) rfl rfl hs ?_
    simp only [zA, zB, zC]
    refine Disk.zt0 3 39 (v := .pointer (some ⟨C, 0, none⟩)) rfl rfl hs ?_
    simp only [zA, zB, zC]
    refine Disk.zt0 4 40 (v := .pointer (some ⟨C, 0, none⟩)) rfl rfl hs ?_
    simp only [zA, zB, zC]
    refine Disk.zt 5 41 (v := .slice (some ⟨g1, 0, none⟩) 3200 3200) rfl rfl hs (fun W' hSw => (by
     obtain ⟨-, c⟩ := B11 _ hSw
     go_simp; first | done | with_reducible rfl)) ?_
    simp only [zA, zB, zC]
    refine Disk.zt0 6 42 (v := .int .i64 (a : Int)) rfl rfl hs ?_
    simp only [zA, zB, zC]
    refine Disk.zt0 8 44 (v := .int .i64 (a : Int)) rfl rfl hs ?_
    simp only [zA, zB, zC]
    refine Disk.zc 7 43 rfl rfl (f := 61) (args := #[.slice (some ⟨g1, 0, none⟩) 3200 3200, .int .i64 (a : Int)]) (w0 := wd) ?_
    refine (BH wd hs).mono ?_
    rintro e wq ⟨rfl, eq⟩
    obtain rfl := eq.symm
    clear eq
    refine ⟨_, rfl, .inr hs, ?_⟩
    simp only [zA, zB, zC]
    have sw1 : IntKind.i64.wrap (((a + 4 + m : Nat) : Int) - (a : Int)) = 4 + (m : Int) := by
     simp [IntKind.wrap, IntKind.bits, IntKind.signed]
     omega
    have sw1' : IntKind.i64.wrap ((a : Int) + 4 + (m : Int) - (a : Int)) = 4 + (m : Int) := by
     simp [IntKind.wrap, IntKind.bits, IntKind.signed]
     omega
    have sw2 : IntKind.i64.wrap (s + (4 + (m : Int))) = s + (4 + (m : Int)) := by
     simp [IntKind.wrap, IntKind.bits, IntKind.signed]
     omega
    refine Disk.zr 9 45 (v := .int .i64 (4 + (m : Int))) rfl rfl (w' := wd) (.inr hs) ?_
    simp only [zA, zB, zC]
    refine Disk.zr 10 46 (v := .int .i64 (s + (4 + (m : Int)))) rfl rfl (w' := wd) (.inr hs) ?_
    simp only [zA, zB, zC]
    refine Disk.zr 11 47 (v := .pointer (some ⟨C, 11, none⟩)) rfl rfl (w' := wd) (.inr hs) ?_
    simp only [zA, zB, zC]
    have box4 := box3.of_block (hs.block _ box3.lt)
    have ri4 := ri3.later hs
    have mp4 := M3.out.later hs
    have fz := box4.frozen 11
    have c11 := box4.cell (i := 11) (by omega)
    have bel4 := bel_after bel3 hs
    refine Disk.zk 12 (w' := wd.setCell ⟨C, 11, none⟩ (.int .i64 (s + (4 + (m : Int))))) rfl rfl (.inl rfl) ?_
    refine Disk.z_done (by kernel_rfl) ?_ _
    have g5 := gset1q wd C 11 (.int .i64 (s + (4 + (m : Int))))
    have KN : CW h w2 M gr cr C (.slice (some ⟨g1, 0, none⟩) 3200 3200) (.slice oa (obC h).length oc) (.slice (some ⟨g2, 0, none⟩) h.roots.length h.roots.length) (.slice (some ⟨g3, 0, none⟩) h.kept.length h.kept.length) (i + 1) (wd.setCell ⟨C, 11, none⟩ (.int .i64 (s + (4 + (m : Int))))) := by
     refine ⟨Below.grown bel4 g5 bel4.size (fun k e => by cases e; omega), (Grew.grown g5).mp mp4 (fun e => nMC (Option.some.inj e).symm), ri4.grown g5 (fun e => ngC (Option.some.inj e)), ?_⟩
     rw [HS'.out]
     exact (box4.set 11 _).congr (fun j hj => by rcases j with _ | _ | _ | _ | _ | _ | _ | _ | _ | _ | _ | _ | j <;> first | rfl | omega)
    clear hs box3 box4 ri3 ri4 mp4 fz c11 bel3 bel4 g5 B11 b10 b11 BH M3 HS' cl hrun sw1 sw1' sw2
    go_wp2
    exact ⟨⟨i + 1, k1, by go_num, KN⟩, by simp [intOf]; omega⟩
   ·obtain rfl : i = (rchL h).length := by omega
    have KB := K.box
    have KM := K.mp
    have KR := K.ri
    have KL := K.bel
    rw [List.take_length] at KB
    clear K
    obtain ⟨e1, e2⟩ := szS_le (W := h.words) (l := rchL h) fun a ha => (OBS.2 a ha).2
    have RRk := RR2.of_block (KL.block _ RR2.lt)
    have hs0 : wr.drew.rowIs C 52 12 (fun j => (#[.slice (some ⟨g1, 0, none⟩) 3200 3200, .slice oa (obC h).length oc, .slice (some ⟨g2, 0, none⟩) h.roots.length h.roots.length, .int .i64 h.old, .int .i64 h.eden, .int .i64 h.surv, .bool h.flip, .int .i64 h.hash, .slice (some ⟨g3, 0, none⟩) h.kept.length h.kept.length, .slice (some ⟨gr, 0, none⟩) (rchL h).length cr, .map (some M), .int .i64 (szS h.words (rchL h))] : Array Value)[j]?.getD undef) := KB.of_block rfl
    have KL' : Below w2.heap.size w2 wr.drew := KL.drew
    have KM' := KM.later ((Below.refl wr.heap.size wr).drew)
    have KR' := KR.later ((Below.refl wr.heap.size wr).drew)
    have RRd := RRk.of_block (w' := wr.drew) rfl
    generalize hsz : szS h.words (rchL h) = s at *
    have FZ : Hid (szS h.words (rchL h) = s) := hsz
    clear hsz
    go_wp2_with fail
    refine Disk.z_plain 99 (fun W' => W'.rowIs C 52 12 (fun j => (#[.slice (some ⟨g1, 0, none⟩) 3200 3200, .slice oa (obC h).length oc, .slice (some ⟨g2, 0, none⟩) h.roots.length h.roots.length, .int .i64 h.old, .int .i64 h.eden, .int .i64 h.surv, .bool h.flip, .int .i64 h.hash, .slice (some ⟨g3, 0, none⟩) h.kept.length h.kept.length, .slice (some ⟨gr, 0, none⟩) (rchL h).length cr, .map (some M), .int .i64 (s)] : Array Value)[j]?.getD undef)) hmx hs0 (fun hs => ?_)
    clear hs0 KB KM KR KL RRk
    generalize wr.drew = wd at hs KL' KM' KR' RRd ⊢
    refine Disk.zt 0 49 (v := .agg #[.slice (some ⟨g1, 0, none⟩) 3200 3200, .slice oa (obC h).length oc, .slice (some ⟨g2, 0, none⟩) h.roots.length h.roots.length, .int .i64 h.old, .int .i64 h.eden, .int .i64 h.surv, .bool h.flip, .int .i64 h.hash, .slice (some ⟨g3, 0, none⟩) h.kept.length h.kept.length, .slice (some ⟨gr, 0, none⟩) (rchL h).length cr, .map (some M), .int .i64 (s)]) rfl rfl hs (fun W' hSw => (by
     obtain ⟨r0, r1, r2, r3, r4, r5, r6, r7⟩ := zrc8 hSw; have r8 := hSw.cell (i := 8) (by omega); have r9 := hSw.cell (i := 9) (by omega); have r10 := hSw.cell (i := 10) (by omega); have r11 := hSw.cell (i := 11) (by omega)
     go_simp; first | done | with_reducible rfl)) ?_
    simp only [zA, zB, zC]
    refine Disk.zt0 1 50 (v := .pointer (some ⟨C, 11, none⟩)) rfl rfl hs ?_
    simp only [zA, zB, zC]
    refine Disk.zt 2 51 (v := .int .i64 s) rfl rfl hs (fun W' hSw => (by
     have r11 := hSw.cell (i := 11) (by omega)
     go_simp; first | done | with_reducible rfl)) ?_
    simp only [zA, zB, zC]
    refine Disk.zt0 3 52 (v := .bool (decide (s <= 2000))) rfl rfl hs ?_
    simp only [zA, zB, zC]
    have run9 := run_store_box wd 52 52 (w.heap.size + 1) 12 #[.slice (some ⟨g1, 0, none⟩) 3200 3200, .slice oa (obC h).length oc, .slice (some ⟨g2, 0, none⟩) h.roots.length h.roots.length, .int .i64 h.old, .int .i64 h.eden, .int .i64 h.surv, .bool h.flip, .int .i64 h.hash, .slice (some ⟨g3, 0, none⟩) h.kept.length h.kept.length, .slice (some ⟨gr, 0, none⟩) (rchL h).length cr, .map (some M), .int .i64 (s)] _ RRd rfl (by kernel_rfl) (by simp [Value.oneCell'])
    have F9 := row_set wd (w.heap.size + 1) 52 12 #[.slice (some ⟨g1, 0, none⟩) 3200 3200, .slice oa (obC h).length oc, .slice (some ⟨g2, 0, none⟩) h.roots.length h.roots.length, .int .i64 h.old, .int .i64 h.eden, .int .i64 h.surv, .bool h.flip, .int .i64 h.hash, .slice (some ⟨g3, 0, none⟩) h.kept.length h.kept.length, .slice (some ⟨gr, 0, none⟩) (rchL h).length cr, .map (some M), .int .i64 (s)] _ RRd rfl
    have G9 := grown_setRow wd (w.heap.size + 1) #[.slice (some ⟨g1, 0, none⟩) 3200 3200, .slice oa (obC h).length oc, .slice (some ⟨g2, 0, none⟩) h.roots.length h.roots.length, .int .i64 h.old, .int .i64 h.eden, .int .i64 h.surv, .bool h.flip, .int .i64 h.hash, .slice (some ⟨g3, 0, none⟩) h.kept.length h.kept.length, .slice (some ⟨gr, 0, none⟩) (rchL h).length cr, .map (some M), .int .i64 (s)]
    have hs9 : (wd.setRow (w.heap.size + 1) #[.slice (some ⟨g1, 0, none⟩) 3200 3200, .slice oa (obC h).length oc, .slice (some ⟨g2, 0, none⟩) h.roots.length h.roots.length, .int .i64 h.old, .int .i64 h.eden, .int .i64 h.surv, .bool h.flip, .int .i64 h.hash, .slice (some ⟨g3, 0, none⟩) h.kept.length h.kept.length, .slice (some ⟨gr, 0, none⟩) (rchL h).length cr, .map (some M), .int .i64 (s)]).rowIs C 52 12 (fun j => (#[.slice (some ⟨g1, 0, none⟩) 3200 3200, .slice oa (obC h).length oc, .slice (some ⟨g2, 0, none⟩) h.roots.length h.roots.length, .int .i64 h.old, .int .i64 h.eden, .int .i64 h.surv, .bool h.flip, .int .i64 h.hash, .slice (some ⟨g3, 0, none⟩) h.kept.length h.kept.length, .slice (some ⟨gr, 0, none⟩) (rchL h).length cr, .map (some M), .int .i64 (s)] : Array Value)[j]?.getD undef) := hs.of_block (G9.block _ hs.lt (fun e => by have := Option.some.inj e; omega))
    generalize wd.setRow (w.heap.size + 1) #[.slice (some ⟨g1, 0, none⟩) 3200 3200, .slice oa (obC h).length oc, .slice (some ⟨g2, 0, none⟩) h.roots.length h.roots.length, .int .i64 h.old, .int .i64 h.eden, .int .i64 h.surv, .bool h.flip, .int .i64 h.hash, .slice (some ⟨g3, 0, none⟩) h.kept.length h.kept.length, .slice (some ⟨gr, 0, none⟩) (rchL h).length cr, .map (some M), .int .i64 (s)] = w9 at *
    refine Disk.z_skip 4 (w' := w9) rfl rfl (by kernel_rfl) (by rfl) (exec_storeQ rfl rfl rfl run9) (.inr hs9) ?_
    refine Disk.zr 5 3 (v := .bool (decide (s <= 2000))) rfl rfl (w' := w9) (.inr hs9) ?_
    simp only [zA, zB, zC]
    refine Disk.z_done (by kernel_rfl) ?_ _
    obtain ⟨r0, r1, r2, r3, r4, r5, r6, r7⟩ := zrc8 F9; have r8 := F9.cell (i := 8) (by omega); have r9 := F9.cell (i := 9) (by omega); have r10 := F9.cell (i := 10) (by omega); have r11 := F9.cell (i := 11) (by omega)
    have bw := hbw2.size
    have GG := Grew.grown G9
    have FIN : CoO' h w.heap.size s g1 g2 g3 oa oc gr cr M w9 := by
     have n : ∀ g, w.heap.size + 2 <= g -> some g ≠ some (w.heap.size + 1) := fun g q e => by have := Option.some.inj e; omega
     have ioL := io'.later KL'
     refine ⟨⟨(R1'.later KL').grown G9 (n g1 (by omega)), (R2'.later KL').grown G9 (n g2 (by omega)), (R3'.later KL').grown G9 (n g3 (by omega))⟩, ?_, KR'.grown G9 (n gr (by omega)), GG.mp KM' (fun e => by have := Option.some.inj e; omega), ⟨by omega, by omega, by omega, by omega, by omega, nMg⟩⟩
     exact GG.ir ioL (fun b q e => by
      obtain ⟨o', n', c', e', hn'⟩ := q
      have l2 : w.heap.size + 2 <= b := low ⟨b, o', none⟩ n' c' e' hn'
      have l4 := Option.some.inj e
      omega)
    have BF : Below w.heap.size w w9 := Below.grown (hbw2.trans (KL'.mono hbw2.size)) G9 (Nat.le_trans hbw2.size KL'.size) (fun k e => by cases e; omega)
    clear run9 G9 GG hs9 hs RRd KM' KR' KL'
    go_wp2_with fail
    exact bodyPost_ret (v := .tuple #[.agg #[.slice (some ⟨g1, 0, none⟩) 3200 3200, .slice oa (obC h).length oc, .slice (some ⟨g2, 0, none⟩) h.roots.length h.roots.length, .int .i64 h.old, .int .i64 h.eden, .int .i64 h.surv, .bool h.flip, .int .i64 h.hash, .slice (some ⟨g3, 0, none⟩) h.kept.length h.kept.length, .slice (some ⟨gr, 0, none⟩) (rchL h).length cr, .map (some M), .int .i64 (s)], .bool (decide (s <= 2000))]) (by simp [results, Tryz.results31, go_sem, r0, r1, r2, r3, r4, r5, r6, r7, r8, r9, r10, r11]) rfl ⟨.inl ⟨HK.out, g1, g2, g3, oa, oc, gr, cr, M, by rw [FZ.out], FIN.1, FIN.2.1, FIN.2.2.1, FIN.2.2.2.1, FIN.2.2.2.2⟩, BF⟩
 ·have al := bel_one w1 (.cells #[.slice none 0 0, .slice none 0 0, .slice none 0 0, .int .i64 0, .int .i64 0, .int .i64 0, .bool false, .int .i64 0, .slice none 0 0] 49)
  have hbw2 := bel_after hbw1 al
  have RR2 := RR1.of_block (al.block _ RR1.lt)
  have OKC : (#[.slice none 0 0, .slice none 0 0, .slice none 0 0, .int .i64 0, .int .i64 0, .int .i64 0, .bool false, .int .i64 0, .slice none 0 0, .slice none 0 0, .map none, .int .i64 0] : Array Value).all (·.oneCell') = true := by simp [Value.oneCell']
  have HK : Hid (okC h = false) := hk
  clear hk X1 hv
  go_wp2_with ((with_reducible refine store_box _ ?_ (.tmp 2) (.tmp 16) 52 ?_ 52 (w.heap.size + 1) 12 #[.slice none 0 0, .slice none 0 0, .slice none 0 0, .int .i64 0, .int .i64 0, .int .i64 0, .bool false, .int .i64 0, .slice none 0 0, .slice none 0 0, .map none, .int .i64 0] _ ?_ ?_ RR2 ?_ ?_ OKC ?_); rfl; rfl; rfl; rfl; rfl; kernel_rfl; intro w9 F9 G9)
  obtain ⟨r0, r1, r2, r3, r4, r5, r6, r7⟩ := zrc8 F9; have r8 := F9.cell (i := 8) (by omega); have r9 := F9.cell (i := 9) (by omega); have r10 := F9.cell (i := 10) (by omega); have r11 := F9.cell (i := 11) (by omega)
  have BF : Below w.heap.size w w9 := Below.grown hbw2 G9 hbw2.size (fun k e => by cases e; omega)
  exact bodyPost_ret (v := .tuple #[.agg #[.slice none 0 0, .slice none 0 0, .slice none 0 0, .int .i64 0, .int .i64 0, .int .i64 0, .bool false, .int .i64 0, .slice none 0 0, .slice none 0 0, .map none, .int .i64 0], .bool false]) (by simp [results, Tryz.results31, go_sem, r0, r1, r2, r3, r4, r5, r6, r7, r8, r9, r10, r11]) rfl ⟨.inr ⟨HK.out, rfl⟩, BF⟩
end Go.Proofs.YthdffigckohpoaaGreat
