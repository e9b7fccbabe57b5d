/- l11Change of the model. -/
import Derived.Test.YthdffigckohpoaaGreatZFSSet
import Derived.Test.YthdffigckohpoaaGreatZBImpA
import Derived.Test.YthdffigckohpoaaGreatZU8
import Derived.Test.YthdffigckohpoaaGreatZU7
import Derived.BigQuiet
import Derived.Deep.QuietTactic
namespace Go.Proofs.YthdffigckohpoaaGreat
open Go.RowKit

def chg (a x b y z : Int) : Int := if z = a then x else if z = b then y else z
theorem cW_r {f : Int → Int} {V : List Int} {j : Nat} (h : j < V.length) : (cW f V (rngB 0 j)).set j (f (gw V j)) = cW f V (rngB 0 (j + 1)) := by
  have q := cW_step (f := f) (V := V) (q := 0) (j := j) (by omega)
  simpa using q
theorem cW_rk {f : Int → Int} {V : List Int} {j : Nat} (h : f (gw V j) = gw V j) : cW f V (rngB 0 j) = cW f V (rngB 0 (j + 1)) := by
  rw [cW_keep (j := j) h]
  exact cW_congr fun i _ => by have := rng_succ 0 j i; simpa using this
theorem cW_ra {f : Int → Int} {V : List Int} {j : Nat} (h : j < V.length) : (cW f V (rngB 0 j)).getD j 0 = gw V j := by
  have q := cW_at (f := f) (V := V) (q := 0) (j := j) (by omega)
  simpa using q
/-- The fields of some objects, and the first m of one more. -/
def pP (W : List Int) (l : List Nat) (a m j : Nat) : Bool := fldI W l j || rngB (a + 4) m j
theorem pP_zero (f : Int → Int) (W : List Int) (l : List Nat) (a : Nat) : cW f W (pP W l a 0) = cW f W (fldI W l) := cW_congr fun j _ => by
  unfold pP rngB
  rw [decide_eq_false (by omega), Bool.or_false]
theorem pP_end (f : Int → Int) (W : List Int) (l : List Nat) (k n : Nat) (h : k < l.length) (hn : gw W (l.getD k 0) = (n : Int)) : cW f W (pP W (l.take k) (l.getD k 0) n) = cW f W (fldI W (l.take (k + 1))) := cW_congr fun j _ => by
  rw [fldI_snoc W l k h, hn]
  rfl
theorem pP_succ (W : List Int) (l : List Nat) (a m j : Nat) : (pP W l a m j || decide (j = a + 4 + m)) = pP W l a (m + 1) j := by
  unfold pP
  rw [Bool.or_assoc, rng_succ]
theorem pP_set {f : Int → Int} {W : List Int} {l : List Nat} {a m : Nat} (h : a + 4 + m < W.length) : (cW f W (pP W l a m)).set (a + 4 + m) (f (gw W (a + 4 + m))) = cW f W (pP W l a (m + 1)) := by
  rw [cW_set h rfl]
  exact cW_congr fun j _ => pP_succ W l a m j
theorem pP_keep {f : Int → Int} {W : List Int} {l : List Nat} {a m : Nat} (h : f (gw W (a + 4 + m)) = gw W (a + 4 + m)) : cW f W (pP W l a m) = cW f W (pP W l a (m + 1)) := by
  rw [cW_keep (j := a + 4 + m) h]
  exact cW_congr fun j _ => pP_succ W l a m j
theorem take_notin {l : List Nat} (hs : l.Pairwise (· < ·)) {k : Nat} (hk : k < l.length) : l.getD k 0 ∉ l.take k := by
  intro z
  have hp := hs
  rw [← List.take_append_drop k l, List.pairwise_append] at hp
  have z2 : l.getD k 0 ∈ l.drop k := by
    rw [show l.getD k 0 = (l.drop k)[0]'(by simp; omega) from by simp [hk]]
    exact List.getElem_mem _
  have := hp.2.2 _ z _ z2
  omega
theorem pP_at {h : Hp} {l : List Nat} (R : PartsAt h l) (hs : l.Pairwise (· < ·)) (f : Int → Int) {k n m : Nat} (hk : k < l.length) (hn : gw h.words (l.getD k 0) = (n : Int)) (hm : m < n) :
    (cW f h.words (pP h.words (l.take k) (l.getD k 0) m)).getD (l.getD k 0 + 4 + m) 0 = gw h.words (l.getD k 0 + 4 + m) := by
  have ha := lget_mem l k hk
  have q := (R.obj ha).2.1
  have nxe : nx h.words (l.getD k 0) = l.getD k 0 + 4 + n := by unfold nx; rw [hn]; rfl
  show gw _ _ = _
  rw [cW_gw _ _ _ (by rw [R.1]; omega), pP, fld_apart R (fun b hb => List.mem_of_mem_take hb) ha (take_notin hs hk) (by omega) (by omega), rngB, decide_eq_false (by omega)]
  rfl

set_option maxRecDepth 100000 in
set_option maxHeartbeats 6400000 in
theorem l11Change_c (v : Value) (h : Hp) (a x b y : Int) (w : World) (hv : HR w v h) (hk : okC h = true) (hfit : ∀ z, fitB (obC h) z = true → fitB (obC h) (chg a x b y z) = true) :
    Calls Tryz.prog 50 #[v, .int .i64 a, .int .i64 x, .int .i64 b, .int .i64 y] w fun e w' => (∃ u, e = .returned u ∧ HM w.heap.size w' u (beH (chg a x b y) h)) ∧ Below w.heap.size w w' := by
  obtain ⟨v1, v2, v3, rfl, i1, i2, i3⟩ := id hv
  have RG := c_right hk
  have hl := RG.1.1
  have RL : h.roots.length ≤ 20 := RG.2.2.2.2.2.1
  have KL := kept_short RG
  obtain ⟨b0, o0, c1, rfl, hc1, hW⟩ := i1.ws (by omega)
  obtain ⟨a2, c2, rfl, -⟩ := IRs i2
  obtain ⟨a3, c3, rfl, -⟩ := IRs i3
  have HLN : Hid (h.words.length = 3200) := hl
  rw [hl] at hc1 hv ⊢
  have S0 := CS.new w (.slice (some ⟨b0, o0, none⟩) 3200 c1) (.slice a2 h.roots.length c2) (.int .i64 h.old) (.int .i64 h.eden) (.int .i64 h.surv) (.bool h.flip) (.int .i64 h.hash) (.slice a3 h.kept.length c3)
  have CP := l5Copy_any _ h _ (hv.later S0.bel) (by omega) (by omega) (by omega)
  rw [hl] at CP
  have AL := fun W (hb : Below w.heap.size w W) => l5All_any _ h W (hv.later hb)
  have PP := RG.1
  have SO := ok_sorted hk
  have OL := ob_short h
  have ltb : b0 < w.heap.size := World.block_lt_of_cell? _ _ (hW 0 (by omega))
  obtain ⟨s0, s1, s2, s3, s4, s5, s6, s7⟩ : _ ∧ _ ∧ _ ∧ _ ∧ _ ∧ _ ∧ _ ∧ _ := ⟨S0.c0, S0.c1, S0.c2, S0.c3, S0.c4, S0.c5, S0.c6, S0.c7⟩
  clear i1 i2 i3 hl
  go_enter Tryz.func50, Tryz.ntmps50
  go_wp2_with fail
  refine CP.mono ?_
  rintro e w1 ⟨⟨g1, d1, g2, d2, g3, d3, rfl, ⟨q1, q2, q3⟩, ⟨l0, l1, l2⟩, ⟨m1, m2, m3⟩⟩, hb1⟩
  have l0' : w.heap.size + 1 + 1 ≤ g1 := by simpa using l0
  have S1 := S0.later hb1
  have al := bel_one w1 (.cells #[.slice (some ⟨g1, 0, none⟩) 3200 d1, .slice (some ⟨g2, 0, none⟩) h.roots.length d2, .int .i64 h.old, .int .i64 h.eden, .int .i64 h.surv, .bool h.flip, .int .i64 h.hash, .slice (some ⟨g3, 0, none⟩) h.kept.length d3] 26)
  have X2 := HX.new w1 (.slice (some ⟨g1, 0, none⟩) 3200 d1) (.slice (some ⟨g2, 0, none⟩) h.roots.length d2) (.int .i64 h.old) (.int .i64 h.eden) (.int .i64 h.surv) (.bool h.flip) (.int .i64 h.hash) (.slice (some ⟨g3, 0, none⟩) h.kept.length d3)
  have S2 := S1.later al
  have ltg1 := q1.lt
  have ltg2 := q2.lt
  have ltg3 := q3.lt
  clear CP s0 s1 s2 s3 s4 s5 s6 s7 S0 l0 hb1
  obtain ⟨s0, s1, s2, s3, s4, s5, s6, s7⟩ : _ ∧ _ ∧ _ ∧ _ ∧ _ ∧ _ ∧ _ ∧ _ := ⟨S2.c0, S2.c1, S2.c2, S2.c3, S2.c4, S2.c5, S2.c6, S2.c7⟩
  go_wp2_with fail
  refine (AL _ S2.bel).mono ?_
  rintro e w3 ⟨⟨l', lv, -, rfl, ho, hP⟩, hb3⟩
  obtain rfl : l' = obC h := (hP _ PP).eq PP
  have S3 := S2.later hb3
  have X3 := X2.later hb3
  have b13 := bel_after al hb3
  have Q1 := q1.later b13
  have Q2 := q2.later b13
  have Q3 := q3.later b13
  have il := IR_of_owns' ho
  have lowL := own_low2 ho
  have hW3 := hW.later S3.bel
  obtain ⟨ua, uc, rfl, hc⟩ := intsI il
  have sz13 := b13.size
  have szX := X3.lt
  have LOW : ∀ (b' o' : Nat), ua = some ⟨b', o', none⟩ → 0 < (obC h).length → w1.heap.size < b' := fun b' o' e q => by
    subst e
    have := lowL _ _ _ rfl q
    simp at this
    exact this
  have BL3 := S3.bel
  have sz3 := BL3.size
  clear AL ho hP lowL PP S1 S2 X2 al b13 hb3 s0 s1 s2 s3 s4 s5 s6 s7 q1 q2 q3 hv hW
  obtain ⟨x0, x1, x2, x3, x4, x5, x6, x7, -⟩ := id X3
  go_wp2
  go_loopw [13] (fun iv wr => ∃ i : Nat, iv = .int .i64 i ∧ i ≤ h.roots.length ∧ RI wr g2 (cW (chg a x b y) h.roots (rngB 0 i)) d2 ∧ Grew w3 wr (fun z => z = g2)) (fun iv _ => h.roots.length - (intOf iv).toNat)
  case atStart => exact ⟨0, rfl, Nat.zero_le _, by rw [cW_zero]; exact Q2, Grew.refl _ _⟩
  case round =>
    clear x0 x1 x2 x3 x4 x5 x6 x7
    obtain ⟨i, rfl, hi, RT, GW⟩ := hrel
    have XW := X3.block (GW.block _ X3.lt (by omega))
    have x1 := XW.c1
    by_cases hlt : i < h.roots.length
    · have cr := RT.cell (i := i) (by rw [cW_length]; exact hlt)
      rw [cW_ra hlt] at cr
      have fz := fun j => RT.frozen j
      have lti : (i : Int) < (h.roots.length : Int) := by omega
      have ST := RT.set i (chg a x b y (gw h.roots i))
      rw [cW_r hlt] at ST
      have GS := GW.trans' (Grew.set wr g2 i (.int .i64 (chg a x b y (gw h.roots i)))) (fun z e => .inl e)
      by_cases e1 : gw h.roots i = a
      · have D1 : (gw h.roots i == a) = true := by simp [e1]
        have E : chg a x b y (gw h.roots i) = x := by unfold chg; rw [if_pos e1]
        rw [E] at ST GS
        generalize gw h.roots i = z at *
        clear E e1
        go_wp2
        exact ⟨⟨i + 1, by go_num, by omega, ST, GS⟩, by simp [intOf]; omega⟩
      · have D1 : (gw h.roots i == a) = false := by simp [e1]
        by_cases e2 : gw h.roots i = b
        · have D2 : (gw h.roots i == b) = true := by simp [e2]
          have E : chg a x b y (gw h.roots i) = y := by unfold chg; rw [if_neg e1, if_pos e2]
          rw [E] at ST GS
          generalize gw h.roots i = z at *
          clear E e1 e2
          go_wp2
          exact ⟨⟨i + 1, by go_num, by omega, ST, GS⟩, by simp [intOf]; omega⟩
        · have D2 : (gw h.roots i == b) = false := by simp [e2]
          have E : chg a x b y (gw h.roots i) = gw h.roots i := by unfold chg; rw [if_neg e1, if_neg e2]
          have RK := RT
          rw [cW_rk E] at RK
          clear ST GS
          generalize gw h.roots i = z at *
          clear E e1 e2
          go_wp2
          exact ⟨⟨i + 1, by go_num, by omega, RK, GW⟩, by simp [intOf]; omega⟩
    · obtain rfl : i = h.roots.length := by omega
      rw [cW_all] at RT
      have Q1w := Q1.block (GW.block _ Q1.lt (by omega))
      have GW2 : Grew w3 wr (fun z => z = g1 ∨ z = g2) := GW.mono (fun z _ e => .inr e)
      have GW2' := GW2
      clear hi hlt GW XW Q1 Q2
      go_wp2
      go_loopw [14, 15] (fun iv kv wr => ∃ i : Nat, iv = .int .i64 i ∧ i ≤ (obC h).length ∧ RI wr g1 (cW (chg a x b y) h.words (fldI h.words ((obC h).take i))) d1 ∧ RI wr g2 (h.roots.map (chg a x b y)) d2 ∧ Grew w3 wr (fun z => z = g1 ∨ z = g2)) (fun iv _ _ => (obC h).length - (intOf iv).toNat)
      case atStart => exact ⟨0, rfl, Nat.zero_le _, by rw [List.take_zero, cW_id (fun j _ e => by simp [fldI] at e)]; exact Q1w, RT, GW2⟩
      case round =>
        clear x1 RT GW2 GW2' Q1w
        obtain ⟨k, rfl, hkl, RW, RT, GW⟩ := hrel
        have XW := X3.block (GW.block _ X3.lt (by omega))
        have x0 := XW.c0
        have s0 := GW.cell S3.c0 (by omega)
        by_cases hlt : k < (obC h).length
        · obtain ⟨b', o', e', hci⟩ := hc k hlt
          have nb := LOW b' o' e' (by omega)
          subst e'
          have ci := GW.cell hci (by omega)
          have hm := lget_mem (obC h) k hlt
          obtain ⟨o1, o2, o3⟩ := RG.1.obj hm
          have sz := size_of o3
          obtain ⟨n, hn⟩ := Int.eq_ofNat_of_zero_le sz.1
          have n60 : n ≤ 60 := by omega
          have hq2 : (obC h).getD k 0 + 4 + n ≤ 3200 := by unfold nx at o2; rw [hn] at o2; exact o2
          have ca3 := hW3 ((obC h).getD k 0) (by rw [HLN.out]; omega)
          rw [hn] at ca3
          have ca := GW.cell ca3 (by omega)
          have AT := fun m (hmn : m < n) => pP_at RG.1 SO (chg a x b y) hlt hn hmn
          have PE := pP_end (chg a x b y) h.words (obC h) k n hlt hn
          have PZ := pP_zero (chg a x b y) h.words ((obC h).take k) ((obC h).getD k 0)
          rw [← PZ] at RW
          have HA : Hid (∀ m, m < n → (cW (chg a x b y) h.words (pP h.words ((obC h).take k) ((obC h).getD k 0) m)).getD ((obC h).getD k 0 + 4 + m) 0 = gw h.words ((obC h).getD k 0 + 4 + m)) := AT
          have HE : Hid (cW (chg a x b y) h.words (pP h.words ((obC h).take k) ((obC h).getD k 0) n) = cW (chg a x b y) h.words (fldI h.words ((obC h).take (k + 1)))) := PE
          clear o1 o2 o3 sz hn AT PE PZ
          generalize (obC h).getD k 0 = at5 at *
          have lta : (at5 : Int) < 3200 := by omega
          have ltk : (k : Int) < ((obC h).length : Int) := by omega
          go_wp2
          go_loopw [15] (fun kv wr => ∃ m : Nat, kv = .int .i64 ((at5 : Int) + 4 + m) ∧ m ≤ n ∧ RI wr g1 (cW (chg a x b y) h.words (pP h.words ((obC h).take k) at5 m)) d1 ∧ RI wr g2 (h.roots.map (chg a x b y)) d2 ∧ Grew w3 wr (fun z => z = g1 ∨ z = g2)) (fun kv _ => (at5 + 4 + n) - (intOf kv).toNat)
          case atStart => exact ⟨0, by simp, Nat.zero_le _, RW, RT, GW⟩
          case round =>
            clear RW RT GW XW x0 s0 ci ca
            obtain ⟨m, rfl, hmn, RW, RT, GW⟩ := hrel
            have XW := X3.block (GW.block _ X3.lt (by omega))
            have x0 := XW.c0
            have s0 := GW.cell S3.c0 (by omega)
            have ci := GW.cell hci (by omega)
            have ca := GW.cell ca3 (by omega)
            by_cases hmn2 : m < n
            · have cw := RW.cell (i := at5 + 4 + m) (by rw [cW_length, HLN.out]; omega)
              rw [HA.out m hmn2] at cw
              have fz := fun j => RW.frozen j
              have ltw : (at5 : Int) + 4 + m < 3200 := by omega
              have D0 : decide ((at5 : Int) + 4 + m < (at5 : Int) + 4 + n) = true := decide_eq_true (by omega)
              have ST : ∀ d : Nat, RI ((wr.drewN d).setCell ⟨g1, at5 + 4 + m, none⟩ (.int .i64 (chg a x b y (gw h.words (at5 + 4 + m))))) g1 (cW (chg a x b y) h.words (pP h.words ((obC h).take k) at5 (m + 1))) d1 := fun d => by
                have q := (RW.later (below_drewN (Below.refl _ _) d)).set (at5 + 4 + m) (chg a x b y (gw h.words (at5 + 4 + m)))
                rw [pP_set (by rw [HLN.out]; omega)] at q
                exact q
              have RTS : ∀ d : Nat, RI ((wr.drewN d).setCell ⟨g1, at5 + 4 + m, none⟩ (.int .i64 (chg a x b y (gw h.words (at5 + 4 + m))))) g2 (h.roots.map (chg a x b y)) d2 := fun d => (RT.later (below_drewN (Below.refl _ _) d)).setOther (by omega) _
              have GS : ∀ d : Nat, Grew w3 ((wr.drewN d).setCell ⟨g1, at5 + 4 + m, none⟩ (.int .i64 (chg a x b y (gw h.words (at5 + 4 + m))))) (fun z => z = g1 ∨ z = g2) := fun d => (GW.trans (Grew.new (below_drewN (Below.refl _ _) d) _)).trans' (Grew.set _ _ _ _) (fun z e => .inl (.inl e))
              have PK : chg a x b y (gw h.words (at5 + 4 + m)) = gw h.words (at5 + 4 + m) → cW (chg a x b y) h.words (pP h.words ((obC h).take k) at5 m) = cW (chg a x b y) h.words (pP h.words ((obC h).take k) at5 (m + 1)) := fun e => pP_keep e
              generalize gw h.words (at5 + 4 + m) = z0 at *
              by_cases e1 : z0 = a
              · have D1 : (z0 == a) = true := by simp [e1]
                clear PK
                have E : chg a x b y z0 = x := by unfold chg; rw [if_pos e1]
                rw [E] at ST GS RTS
                clear E e1 HA HE
                go_wp2
                go_quiet (fail)
                go_wp2
                exact ⟨⟨m + 1, by go_num, by omega, ST _, RTS _, GS _⟩, by simp [intOf]; omega⟩
              · have D1 : (z0 == a) = false := by simp [e1]
                by_cases e2 : z0 = b
                · have D2 : (z0 == b) = true := by simp [e2]
                  clear PK
                  have E : chg a x b y z0 = y := by unfold chg; rw [if_neg e1, if_pos e2]
                  rw [E] at ST GS RTS
                  clear E e1 e2 HA HE
                  go_wp2
                  go_quiet (fail)
                  go_wp2
                  exact ⟨⟨m + 1, by go_num, by omega, ST _, RTS _, GS _⟩, by simp [intOf]; omega⟩
                · have D2 : (z0 == b) = false := by simp [e2]
                  have E : chg a x b y z0 = z0 := by unfold chg; rw [if_neg e1, if_neg e2]
                  have RK := RW
                  rw [PK E] at RK
                  clear ST GS RTS E e1 e2 HA HE PK
                  go_wp2
                  go_quiet (fail)
                  go_wp2
                  exact ⟨⟨m + 1, by go_num, by omega, RK.later (below_drewN (Below.refl _ _) _), RT.later (below_drewN (Below.refl _ _) _), GW.trans (Grew.new (below_drewN (Below.refl _ _) _) _)⟩, by simp [intOf]; omega⟩
            · obtain rfl : m = n := by omega
              rw [HE.out] at RW
              have D0 : decide ((at5 : Int) + 4 + m < (at5 : Int) + 4 + m) = false := decide_eq_false (by omega)
              clear HA HE
              go_wp2
              go_quiet (fail)
              go_wp2
              exact ⟨⟨k + 1, by go_num, by omega, RW.later (below_drewN (Below.refl _ _) _), RT.later (below_drewN (Below.refl _ _) _), GW.trans (Grew.new (below_drewN (Below.refl _ _) _) _)⟩, by simp [intOf]; omega⟩
        · obtain rfl : k = (obC h).length := by omega
          rw [List.take_length] at RW
          have RB := be_right hk (chg a x b y) hfit
          have LB : (beW (chg a x b y) h).length = 3200 := by rw [beW_length, HLN.out]
          have Q3w := Q3.block (GW.block _ Q3.lt (by omega))
          have szw := GW.size
          obtain ⟨fk, K3⟩ := S3.res
          have K4 := K3.of_block (GW.block _ K3.lt (by omega))
          have BLw : Below w.heap.size w wr := BL3.trans (GW.below (by omega) (fun z _ e => by omega))
          have H5 : HR wr (.agg #[.slice (some ⟨g1, 0, none⟩) 3200 d1, .slice (some ⟨g2, 0, none⟩) h.roots.length d2, .int .i64 h.old, .int .i64 h.eden, .int .i64 h.surv, .bool h.flip, .int .i64 h.hash, .slice (some ⟨g3, 0, none⟩) h.kept.length d3]) { h with words := beW (chg a x b y) h, roots := h.roots.map (chg a x b y) } := by
            refine ⟨_, _, _, rfl, ?_, ?_, Q3w.ir Q3w.le⟩
            · have q := RW.ir RW.le
              rw [show (cW (chg a x b y) h.words (fldI h.words (obC h))).length = 3200 from LB] at q
              exact q
            · have q := RT.ir RT.le
              rw [List.length_map] at q
              exact q
          have IO : IR wr (.slice ua (obC h).length uc) (ints (obC h)) := by
            refine il.keep' (fun ad n c e hp => GW.block _ ?_ ?_)
            · simp only [Value.slice.injEq] at e
              obtain ⟨e1, e2, -⟩ := e
              subst e2
              obtain ⟨b', o', e', hcell⟩ := hc 0 hp
              have := World.block_lt_of_cell? _ _ hcell
              rw [e1] at e'
              cases e'
              exact this
            · simp only [Value.slice.injEq] at e
              obtain ⟨e1, e2, -⟩ := e
              subst e2
              obtain ⟨b', o', e', hcell⟩ := hc 0 hp
              have := LOW b' o' e' hp
              rw [e1] at e'
              cases e'
              show ¬ (b' = g1 ∨ b' = g2)
              omega
          have KO := l5Kept_own _ _ { h with words := beW (chg a x b y) h, roots := h.roots.map (chg a x b y) } (obC h) wr H5 IO LB OL (fun z hz => RB.1.obj hz) (fun z hz t ht => half_le (fit_kind ((fld_mem (p := fitB (obC h))).2 (RB.2.2.2.2.2.2.2.1 z hz) t ht)))
          have ke : ints (keptS (beW (chg a x b y) h) (obC h)) = (beH (chg a x b y) h).kept := kept_eq (fun z hz => RB.2.2.2.2.2.2.2.1 z hz)
          obtain ⟨x0, x1, x2, x3, x4, x5, x6, x7, -⟩ := id XW
          clear hc LOW
          go_wp2_with fail
          refine KO.mono ?_
          rintro e w5 ⟨⟨kv, rfl, o7⟩, hb5⟩
          have ok : w5.ownsRow (wr.heap.size + 1) 2 1 kv (beH (chg a x b y) h).kept.length (icells (beH (chg a x b y) h).kept) := by
            have q : w5.ownsRow (wr.heap.size + 1) 2 1 kv (keptS (beW (chg a x b y) h) (obC h)).length (icells (ints (keptS (beW (chg a x b y) h) (obC h)))) := o7
            rw [← ints_length, ke] at q
            exact q
          obtain ⟨ao3, cc3, e3, -⟩ := IRs (IR_of_owns ok)
          subst e3
          generalize hks : (beH (chg a x b y) h).kept = ks at *
          replace hks : Hid ((beH (chg a x b y) h).kept = ks) := hks
          have X6 := XW.later hb5
          have fz8 := fun j => X6.frozen j
          have X7 := X6.set7 (.slice ao3 ks.length cc3)
          have K7 := (K4.of_block (hb5.block _ K4.lt)).setOther (a := ⟨w1.heap.size, 7, none⟩) (by show w.heap.size + 1 ≠ w1.heap.size; omega) (.slice ao3 ks.length cc3)
          have W7 := (RW.later hb5).setOther (b := w1.heap.size) (i := 7) (by omega) (.slice ao3 ks.length cc3)
          have T7 := (RT.later hb5).setOther (b := w1.heap.size) (i := 7) (by omega) (.slice ao3 ks.length cc3)
          have O7 : (w5.setCell ⟨w1.heap.size, 7, none⟩ (.slice ao3 ks.length cc3)).ownsRow (wr.heap.size + 1) 2 1 (.slice ao3 ks.length cc3) ks.length (icells ks) := own_block ok (fun b hb => Below.heap_setCell _ _ _ _ (by show b ≠ w1.heap.size; omega))
          have B7 := (bel_after BLw hb5).setCell (p := ⟨w1.heap.size, 7, none⟩) (by show w.heap.size ≤ w1.heap.size; omega) (.slice ao3 ks.length cc3)
          have OKC : (#[.slice (some ⟨g1, 0, none⟩) 3200 d1, .slice (some ⟨g2, 0, none⟩) h.roots.length d2, .int .i64 h.old, .int .i64 h.eden, .int .i64 h.surv, .bool h.flip, .int .i64 h.hash, .slice ao3 ks.length cc3] : Array Value).all (·.oneCell') = true := by simp [Value.oneCell']
          clear x0 x1 x2 x3 x4 x5 x6 x7 KO ke o7 IO H5 Q3w RB s0 XW K3
          obtain ⟨x0, x1, x2, x3, x4, x5, x6, x7, -⟩ := id X7
          obtain ⟨k0, k1, k2, k3, k4, k5, k6, k7, -⟩ := id X6
          clear X6
          go_wp2_with ((with_reducible refine store_box _ ?_ (.tmp 10) (.tmp 102) 26 ?_ 26 (w.heap.size + 1) 8 #[.slice (some ⟨g1, 0, none⟩) 3200 d1, .slice (some ⟨g2, 0, none⟩) h.roots.length d2, .int .i64 h.old, .int .i64 h.eden, .int .i64 h.surv, .bool h.flip, .int .i64 h.hash, .slice ao3 ks.length cc3] _ ?_ ?_ K7 ?_ ?_ OKC ?_); rfl; rfl; rfl; rfl; rfl; kernel_rfl; intro wA KA GA; have r0 : wA.cell? ⟨w.heap.size + 1, 0, none⟩ = some (.slice (some ⟨g1, 0, none⟩) 3200 d1) := KA.cell (i := 0) (by omega); have r1 : wA.cell? ⟨w.heap.size + 1, 1, none⟩ = some (.slice (some ⟨g2, 0, none⟩) h.roots.length d2) := KA.cell (i := 1) (by omega); have r2 : wA.cell? ⟨w.heap.size + 1, 2, none⟩ = some (.int .i64 h.old) := KA.cell (i := 2) (by omega); have r3 : wA.cell? ⟨w.heap.size + 1, 3, none⟩ = some (.int .i64 h.eden) := KA.cell (i := 3) (by omega); have r4 : wA.cell? ⟨w.heap.size + 1, 4, none⟩ = some (.int .i64 h.surv) := KA.cell (i := 4) (by omega); have r5 : wA.cell? ⟨w.heap.size + 1, 5, none⟩ = some (.bool h.flip) := KA.cell (i := 5) (by omega); have r6 : wA.cell? ⟨w.heap.size + 1, 6, none⟩ = some (.int .i64 h.hash) := KA.cell (i := 6) (by omega); have r7 : wA.cell? ⟨w.heap.size + 1, 7, none⟩ = some (.slice ao3 ks.length cc3) := KA.cell (i := 7) (by omega))
          have BA : Below w.heap.size w wA := Below.grown B7 GA B7.size (fun q hq => by cases hq; omega)
          have HF : HM w.heap.size wA (.agg #[.slice (some ⟨g1, 0, none⟩) 3200 d1, .slice (some ⟨g2, 0, none⟩) h.roots.length d2, .int .i64 h.old, .int .i64 h.eden, .int .i64 h.surv, .bool h.flip, .int .i64 h.hash, .slice ao3 ks.length cc3]) (beH (chg a x b y) h) := by
            have oA : wA.ownsRow (wr.heap.size + 1) 2 1 (.slice ao3 ks.length cc3) (beH (chg a x b y) h).kept.length (icells (beH (chg a x b y) h).kept) := by
              rw [hks.out]
              exact (Grew.grown GA).own O7 (fun z e1 e2 => by have := (O7.lt z e1).1; have := Option.some.inj e2; omega)
            have q := HM.of_own3 (h := beH (chg a x b y) h) (B := w.heap.size) (W7.grown GA (by intro e; cases e; omega)) (T7.grown GA (by intro e; cases e; omega)) m1 m2 oA (by omega) (by omega) (by omega) (by omega) (by omega) (by omega)
            rw [show (beH (chg a x b y) h).words.length = 3200 from LB, show (beH (chg a x b y) h).roots.length = h.roots.length from List.length_map ..] at q
            exact q
          exact bodyPost_ret (v := .agg #[.slice (some ⟨g1, 0, none⟩) 3200 d1, .slice (some ⟨g2, 0, none⟩) h.roots.length d2, .int .i64 h.old, .int .i64 h.eden, .int .i64 h.surv, .bool h.flip, .int .i64 h.hash, .slice ao3 ks.length cc3]) (by simp [results, Tryz.results50, go_sem, r0, r1, r2, r3, r4, r5, r6, r7]) rfl ⟨⟨_, rfl, HF⟩, BA⟩

end Go.Proofs.YthdffigckohpoaaGreat
