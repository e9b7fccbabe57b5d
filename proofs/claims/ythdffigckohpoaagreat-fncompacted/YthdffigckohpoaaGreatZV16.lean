
import Derived.Test.YthdffigckohpoaaGreatZV13
import Derived.Test.YthdffigckohpoaaGreatZGTourO
import Derived.Test.YthdffigckohpoaaGreatZV6
import Derived.BigQuiet
/- wordsTaken of the program: the words that these objects take. -/
namespace Go.Proofs.YthdffigckohpoaaGreat
open Go.RowKit
theorem szS_le {W : List Int} : ∀ {l : List Nat}, (∀ a, a ∈ l -> 0 <= gw W a /\ gw W a <= 60) -> 0 <= szS W l /\ szS W l <= 64 * l.length
 | [], _ => by simp [szS]
 | a :: l, h => by
  have ih := szS_le (l := l) fun b hb => h b (by simp [hb])
  have := h a (by simp)
  simp only [szS, List.length_cons]
  omega
/-- Objects of a right heap. -/
def Obs (W : List Int) (l : List Nat) : Prop := l.length <= 3200 /\ ∀ a, a ∈ l -> a + 4 <= 3200 /\ 0 <= gw W a /\ gw W a <= 60
theorem Obs.all {h : Hp} {l : List Nat} (r : RightAt h l) : Obs h.words l := ⟨r.1.short, fun a ha => by have q := r.1.obj ha; exact ⟨q.1, size_of q.2.2⟩⟩
theorem Obs.ord {h : Hp} {l : List Nat} (r : RightAt h l) : Obs h.words (ordF h.words h.roots) := ⟨ord_len r, fun a ha => (Obs.all r).2 a (ord_sub r ha)⟩
set_option maxRecDepth 100000 in
set_option maxHeartbeats 1600000 in
theorem wordsTaken_any (b o cap : Nat) (W : List Int) (lv : Value) (l : List Nat) (w : World) (hW : WS w b o W) (hl : W.length = 3200) (il : IR w lv (ints l)) (hob : Obs W l) :
  Calls Tryz.prog 38 #[.slice (some ⟨b, o, none⟩) 3200 cap, lv] w fun x w' => x = .returned (.int .i64 (szS W l)) /\ w' = w := by
 obtain ⟨oa, oc, rfl, hoc⟩ := intsI il
 have HLN : Hid (W.length = 3200) := hl
 have ls := hob.1
 clear hl il
 go_enter Tryz.func38, Tryz.ntmps38
 go_wp2
 go_loopw [5, 10] (fun yv kv wr => ∃ k : Nat, k <= l.length /\ kv = .int .i64 k /\ yv = .int .i64 (szS W (l.take k)) /\ wr = w) (fun _ kv _ => l.length - (intOf kv).toNat)
 case atStart => exact ⟨0, Nat.zero_le _, rfl, rfl, rfl⟩
 case round =>
  obtain ⟨k, hk, rfl, rfl, hwr⟩ := hrel
  obtain rfl := hwr.symm
  clear hwr
  by_cases hkl : k < l.length
  ·obtain ⟨ob, oo, rfl, ci⟩ := hoc k hkl
   obtain ⟨q1, q2⟩ := hob.2 _ (lget_mem _ _ hkl)
   obtain ⟨m, hm⟩ := Int.eq_ofNat_of_zero_le q2.1
   have m60 : m <= 60 := by omega
   have hx : nx W (l.getD k 0) = l.getD k 0 + 4 + m := by unfold nx; rw [hm]; rfl
   have HS : Hid (szS W (l.take (k + 1)) = szS W (l.take k) + (4 + m)) := (by rw [szS_snoc _ _ _ hkl, hm]; omega : szS W (l.take (k + 1)) = szS W (l.take k) + (4 + m))
   obtain ⟨r1, r2⟩ := szS_le (W := W) (l := l.take k) fun a ha => (hob.2 a (List.mem_of_mem_take ha)).2
   rw [List.length_take] at r2
   have r3 : szS W (l.take k) <= 204800 := by omega
   have BH := behind_any b o cap W (l.getD k 0) w hW HLN.out q1 q2
   rw [hx] at BH
   clear hm hx hoc q2 r2
   generalize l.getD k 0 = a at *
   generalize szS W (l.take k) = s at *
   have hki : (k : Int) < l.length := by omega
   go_wp2_with (go_at_call 61; refine BH.mono ?_; rintro e wq ⟨rfl, hq⟩; obtain rfl := hq.symm)
   exact ⟨⟨k + 1, by omega, by go_num, by rw [HS.out]; congr 1; omega, trivial⟩, by simp [intOf]; omega⟩
  ·obtain rfl : k = l.length := by omega
   rw [List.take_length]
   go_wp2
   go_ret
   exact ⟨rfl, rfl⟩
end Go.Proofs.YthdffigckohpoaaGreat
/- Garbage of the model. -/
namespace Go.Proofs.YthdffigckohpoaaGreat
open Go.RowKit
theorem ga_snoc (W : List Int) (p : Nat -> Bool) (l : List Nat) (k : Nat) (hk : k < l.length) : szS W ((l.take (k + 1)).filter p) = szS W ((l.take k).filter p) + (if p (l.getD k 0) = true then 4 + gw W (l.getD k 0) else 0) := by
 rw [ltake_snoc l k hk, List.filter_append, szS_app]
 generalize l.getD k 0 = a
 cases e : p a <;> simp [e, szS]
set_option maxRecDepth 100000 in
set_option maxHeartbeats 3200000 in
theorem specGarbage_c (v : Value) (h : Hp) (w : World) (hv : HR w v h) (hro : h.roots.length <= 1000000000000) (hke : h.kept.length <= 1000000000000) :
  Calls Tryz.prog 13 #[v] w fun x w' => x = .returned (.int .i64 (gaC h)) /\ Below w.heap.size w w' := by
 obtain ⟨v1, v2, v3, rfl, i1, i2, i3⟩ := id hv
 cases hk : okC h
 ·have hb0 := bel_one w (.cells #[v1, v2, .int .i64 h.old, .int .i64 h.eden, .int .i64 h.surv, .bool h.flip, .int .i64 h.hash, v3] 26)
  have C := specHeapOk_c _ h _ (hv.later hb0) hro hke
  rw [hk] at C
  have E : Hid (gaC h = -1) := (by unfold gaC; rw [hk]; rfl : gaC h = -1)
  obtain ⟨c0, c1, c2, c3, c4, c5, c6, c7⟩ := Bx.new w v1 v2 v3 h 26
  go_enter Tryz.func13, Tryz.ntmps13
  go_wp2_with fail
  refine C.mono ?_
  rintro x w1 ⟨rfl, hb1⟩
  go_wp2
  go_ret
  exact ⟨wret_int E.out.symm, bel_after hb0 hb1⟩
 ·have R := c_right hk
  have HL : Hid (h.words.length = 3200) := R.1.1
  obtain ⟨b, o, c1, rfl, hc1, hW⟩ := i1.ws (by have := R.1.1; omega)
  rw [R.1.1] at hc1 hv ⊢
  have hb0 := bel_one w (.cells #[.slice (some ⟨b, o, none⟩) 3200 c1, v2, .int .i64 h.old, .int .i64 h.eden, .int .i64 h.surv, .bool h.flip, .int .i64 h.hash, v3] 26)
  have X0 := Bx.new w (.slice (some ⟨b, o, none⟩) 3200 c1) v2 v3 h 26
  have C0 := specHeapOk_c _ h _ (hv.later hb0) hro hke
  rw [hk] at C0
  have C := fun W (hb : Below w.heap.size w W) => l10Reached_any _ h (obC h) R W (hv.later hb)
  have A := fun W (hb : Below w.heap.size w W) => all_c _ h W (hv.later hb) hk
  have OB := (Obs.all R)
  have ls := OB.1
  have GE : Hid (∀ i, i = (rcS h i).1.length -> szS h.words ((obC h).filter fun a => !(rcS h i).2.getD a false) = gaC h) := fun i e => ga_spec hk e
  generalize obC h = l at *
  clear i1 i2 i3 hv hk
  obtain ⟨k0, k1, k2, k3, k4, k5, k6, k7⟩ := id X0
  go_enter Tryz.func13, Tryz.ntmps13
  go_wp2_with fail
  refine C0.mono ?_
  rintro e w0 ⟨rfl, hbA⟩
  have hbw0 := bel_after hb0 hbA
  have XA := X0.later hbA
  clear k0 k1 k2 k3 k4 k5 k6 k7 X0 C0
  obtain ⟨k0, k1, k2, k3, k4, k5, k6, k7⟩ := id XA
  go_wp2_with fail
  refine (C _ hbw0).mono ?_
  rintro e w1 ⟨⟨gS, ix, rfl, gS0, ei, sl, SN⟩, hb1⟩
  have GE' : Hid (szS h.words (l.filter fun a => !(rcS h ix).2.getD a false) = gaC h) := GE.out ix ei
  clear ei C GE
  generalize (rcS h ix).2 = sn at *
  have hbw1 := bel_after hbw0 hb1
  clear k0 k1 k2 k3 k4 k5 k6 k7
  obtain ⟨k0, k1, k2, k3, k4, k5, k6, k7⟩ := XA.later hb1
  go_wp2_with fail
  refine (A w1 hbw1).mono ?_
  rintro e w2 ⟨⟨lv, rfl, IL0⟩, hb2⟩
  clear A
  have hbw2 := bel_after hbw1 hb2
  have y0 := cell_later hb2 k0
  have SN2 := SN.of_block (hb2.block _ SN.lt)
  have hW2 := hW.later hbw2
  obtain ⟨la, lc, rfl, hlc⟩ := intsI IL0
  clear k0 k1 k2 k3 k4 k5 k6 k7 XA SN hb1 hb2 IL0 hW hbw1 hb0 hbA hbw0
  go_wp2
  go_loopw [5, 6] (fun av iv wr => ∃ k : Nat, k <= l.length /\ iv = .int .i64 k /\ av = .int .i64 (szS h.words ((l.take k).filter fun a => !sn.getD a false)) /\ ∃ n, wr = w2.drewN n) (fun _ iv _ => l.length - (intOf iv).toNat)
  case atStart => exact ⟨0, Nat.zero_le _, rfl, rfl, 0, rfl⟩
  case round =>
   obtain ⟨k, hk, rfl, rfl, n, rfl⟩ := hrel
   by_cases hlt : k < l.length
   ·have E := ga_snoc h.words (fun a => !sn.getD a false) l k hlt
    obtain ⟨r1, r2⟩ := szS_le (W := h.words) (l := (l.take k).filter fun a => !sn.getD a false) fun a ha => (OB.2 a (List.mem_of_mem_take (List.mem_filter.1 ha).1)).2
    have r3 : szS h.words ((l.take k).filter fun a => !sn.getD a false) <= 204800 := by
     have q1 := List.length_filter_le (fun a => !sn.getD a false) (l.take k)
     rw [List.length_take] at q1
     omega
    obtain ⟨lb, lo, rfl, cl⟩ := hlc k hlt
    obtain ⟨o1, o2⟩ := OB.2 _ (lget_mem _ _ hlt)
    generalize l.getD k 0 = a at *
    generalize szS h.words ((l.take k).filter fun a => !sn.getD a false) = s at *
    have cs := SN2.cell (i := a) (by omega)
    obtain ⟨m, hm⟩ := Int.eq_ofNat_of_zero_le o2.1
    have m60 : m <= 60 := by omega
    have ca := hW2 a (by rw [HL.out]; omega)
    rw [hm] at ca E
    have lta : (a : Int) < 3200 := by omega
    have ltk : (k : Int) < (l.length : Int) := by omega
    cases hs : sn.getD a false
    ·rw [if_pos (by rw [hs]; rfl)] at E
     rw [hs] at cs
     have E' : Hid (szS h.words ((l.take (k + 1)).filter fun a => !sn.getD a false) = s + (4 + m)) := E
     clear E hm o2 hlc SN2 hW2 sl hs r2 OB R
     go_wp2
     go_quiet (fail)
     go_wp2
     exact ⟨⟨k + 1, by omega, by go_num, by rw [E'.out]; go_num, _, rfl⟩, by simp [intOf]; omega⟩
    ·rw [if_neg (by rw [hs]; simp)] at E
     rw [hs] at cs
     have E' : Hid (szS h.words ((l.take (k + 1)).filter fun a => !sn.getD a false) = s) := (by rw [E]; omega : szS h.words ((l.take (k + 1)).filter fun a => !sn.getD a false) = s)
     clear E hm o2 hlc SN2 hW2 sl hs r2 OB R
     go_wp2
     exact ⟨⟨k + 1, by omega, by go_num, by rw [E'.out], _, rfl⟩, by simp [intOf]; omega⟩
   ·obtain rfl : k = l.length := by omega
    rw [List.take_length, GE'.out]
    go_wp2
    go_ret
    exact ⟨rfl, below_drewN hbw2 _⟩
end Go.Proofs.YthdffigckohpoaaGreat
