import Derived.Test.YtjclpbaiiklhcaaGreatDoorZDCrash
import Derived.Test.YtjclpbaiiklhcaaGreatDoorZV21
import Derived.Test.YtjclpbaiiklhcaaGreatDoorZV22
/- toBoolS, eqBoolS: slices of flags copied and held against each other. -/
namespace Go.Proofs.YtjclpbaiiklhcaaGreatDoor.Disk
open Go.RowKit

theorem Tryz.info4 : (Tryz.prog.info? 4).map (fun i => (i.zero, i.size, i.bytes)) = some (some (.bool false), 1, 1) := by kernel_rfl
theorem Tryz.under43 : Tryz.prog.underlying 41 = some (.slice 4) := by kernel_rfl

theorem make43 (n : Nat) (hn : n ≤ 200000000000000) (w : World) : (Instr.makeSlice 41 (.int .i64 (n : Int)) (.int .i64 (n : Int))).run Tryz.prog w = .ok (.slice (some ⟨w.heap.size, 0, none⟩) n n) (w.alloc (.cells (madeCells #[.bool false] n) 4)) :=
  run_make_row' (P := Tryz.prog) 41 4 (.bool false) 1 Tryz.under43 Tryz.info4 rfl .i64 .i64 n (by omega) (by omega) w

theorem made_rowB (w : World) (n : Nat) : ∃ f : Nat → Value, (w.alloc (.cells (madeCells #[.bool false] n) 4)).rowIs w.heap.size 4 n f := by
  have h := row_any w (madeCells #[.bool false] n) 4
  rw [size_madeCells] at h
  exact ⟨_, h⟩

def bcell1 (bs : List Bool) (i : Nat) : Value := .bool (bs.getD i false)

/-- A new slice of flags with a row of its own from block B on. -/
def NB (B : Nat) (w' : World) (v : Value) (bs : List Bool) : Prop :=
  OS w' 4 1 v bs.length ∧ LR w' v bs ∧ ∀ b, rowOf v bs.length = some b → B ≤ b
theorem NB.later {B : Nat} {w w' : World} {v : Value} {bs : List Bool} (h : NB B w v bs) (hb : Below w.heap.size w w') : NB B w' v bs := ⟨h.1.later hb, h.2.1.later hb, h.2.2⟩

theorem nb_row {B : Nat} {w : World} {b N cap : Nat} {bs : List Bool} {f : Nat → Value} (h : w.rowIs b 4 N (fun i => if i < bs.length then bcell1 bs i else f i)) (hN : bs.length ≤ N) (hB : B ≤ b) :
    NB B w (.slice (some ⟨b, 0, none⟩) bs.length cap) bs := by
  refine ⟨⟨_, _, rfl, .inr ⟨b, N, _, rfl, by omega, h⟩⟩, ⟨_, _, rfl, fun i hi => ⟨b, 0, rfl, ?_⟩⟩, fun b' e => ?_⟩
  · rw [Nat.zero_add, h.cell (by omega), if_pos hi]
    rfl
  · unfold rowOf at e
    by_cases hn : bs.length = 0
    · simp [hn] at e
    · simp [hn, Value.ownBlock] at e
      omega


end Go.Proofs.YtjclpbaiiklhcaaGreatDoor.Disk

/- DrawCrash of the model. -/
namespace Go.Proofs.YtjclpbaiiklhcaaGreatDoor
open Go.RowKit

def bcells (l : List Bool) : List Value := l.map fun x => .bool x
theorem app_bool {ops : Array Oper} {rest : List Oper} {o : Oper} {a : Act} {Q : Exit → Act → World → Prop} (w : World) (hgd : o.guard = none) (s x : Operand)
    (ho : o.op = .call { callee := .builtin .append, args := #[s, x], argTypes := #[41, 41] }) (B : Nat) (v : Value) (n : Nat) (xs : List Value) (hs : a.eval s = v) (hown : w.ownsRow B 4 1 v n xs)
    (g c : Nat) (z : Bool) (hx : a.eval x = .slice (some ⟨g, 0, none⟩) 1 c) (hc : w.cell? ⟨g, 0, none⟩ = some (.bool z)) (hn : n ≤ 1000000000000) (hB : B ≤ w.heap.size)
    (h : ∀ v' w', w'.ownsRow B 4 1 v' (n + 1) (xs ++ [.bool z]) → w.grownBy w' v.ownBlock → wpList Tryz.prog ops Q rest (a.put o.dst v') w') : wpList Tryz.prog ops Q (o :: rest) a w := by
  obtain ⟨i, hi, hzz⟩ := Option.map_eq_some_iff.1 Disk.Tryz.info4
  simp only [Prod.mk.injEq] at hzz
  obtain ⟨hz, hsz, hby⟩ := hzz
  refine wpList_append_own w hgd s x 41 ho B 4 i _ 1 1 Disk.Tryz.under43 hi hz hsz hby rfl (by omega) v n xs hs hown ⟨g, 0, none⟩ 1 c [.bool z] hx rfl (fun j u hj => ?_) (fun u hu => ?_) (by unfold maxLen; omega) (by omega) hB (fun v' w' h1 h2 _ => h v' w' h1 h2)
  · match j, hj with
    | 0, hj => simp at hj; subst hj; simpa [Addr.add] using hc
  · simp at hu; subst hu; rfl
theorem lr_own {w : World} {B : Nat} {v : Value} {l : List Bool} (h : w.ownsRow B 4 1 v l.length (bcells l)) : Disk.LR w v l := by
  obtain ⟨hl, h⟩ := h
  rcases h with ⟨rfl, h0⟩ | ⟨g, cap, cur, rfl, hB, hh, h1, h2, h3, h4⟩
  · have : l = [] := List.eq_nil_of_length_eq_zero h0
    subst this
    exact ⟨none, 0, rfl, fun i hi => absurd hi (by simp)⟩
  · refine ⟨some ⟨g, 0, none⟩, cap, rfl, fun i hi => ⟨g, 0, rfl, ?_⟩⟩
    have hc : w.cell? ⟨g, i, none⟩ = (bcells l)[i]? := by
      rw [← h4, List.getElem?_take_of_lt (by omega)]
      simp [World.cell?, hh]
    rw [Nat.zero_add, hc]
    simp [bcells, hi]

theorem Dw.from {N : Nat} {cv : Value} {cs : List UInt8} {w : World} (h : Dw N cv cs w) (lo hi : Int) (h0 : 0 < hi - lo + 1) (h1 : hi - lo + 1 ≤ 256) (l0 : -100000 ≤ lo) (l1 : lo ≤ 100000) :
    Calls Tryz.prog 36 #[.pointer (some ⟨N, 0, none⟩), .int .i64 lo, .int .i64 hi] w fun x w' => (∃ z : Int, x = .returned (.int .i64 z)) ∧ w.grownBy w' (some N) ∧ Dw N cv cs w' := by
  have B := h.below (hi - lo + 1) h0 h1
  go_enter Tryz.func36, Tryz.ntmps36
  go_wp2_with fail
  refine B.mono ?_
  rintro x w1 ⟨⟨z, rfl, z0, z1⟩, g1, d1⟩
  go_wp2
  go_ret
  exact ⟨⟨_, rfl⟩, g1, d1⟩

set_option maxRecDepth 100000 in
set_option maxHeartbeats 3200000 in
theorem Dw.lands {N : Nat} {cv : Value} {cs : List UInt8} {w : World} (h : Dw N cv cs w) (hN : N < w.heap.size) :
    Calls Tryz.prog 35 #[.pointer (some ⟨N, 0, none⟩)] w fun x w' => (∃ (v : Value) (l : List Bool), x = .returned v ∧ w'.ownsRow w.heap.size 4 1 v l.length (bcells l) ∧ l.length ≤ 10) ∧ w.grownBy w' (some N) ∧ Dw N cv cs w' := by
  have g0 : w.grownBy (w.alloc (.cells #[] 4)) (some N) := galloc _ _ _
  have own0 := own_none w w.heap.size 4 1 (Nat.le_refl _)
  have D0 : Dw N cv cs (w.alloc (.cells #[] 4)) := h.grown g0 h (galloc _ _ none) (by simp) hN
  have B0 := D0.below 10 (by omega) (by omega)
  go_enter Tryz.func35, Tryz.ntmps35
  go_wp2_with fail
  refine B0.mono ?_
  rintro x w1 ⟨⟨z, rfl, z0, z1⟩, g1, d1⟩
  clear B0
  have gw1 : w.grownBy w1 (some N) := gtrans g0 g1
  have own1 := own_off own0 g1 hN
  obtain ⟨zn, rfl⟩ := Int.eq_ofNat_of_zero_le z0
  go_wp2
  go_loopw [3, 4] (fun bv iv wr => ∃ (l : List Bool) (j : Nat) (v0 : Value), iv = .int .i64 j ∧ j + l.length ≤ 10 ∧ v0 = bv ∧ wr.ownsRow w.heap.size 4 1 v0 l.length (bcells l) ∧ Dw N cv cs wr ∧ w.grownBy wr (some N)) (fun _ iv _ => (intOf iv).toNat)
  case atStart => exact ⟨[], zn, _, rfl, by simp; omega, rfl, own1, d1, gw1⟩
  case round =>
    obtain ⟨l, j, bv, rfl, hj, rfl, hown, hd, hg⟩ := hrel
    have szr := hg.size
    by_cases hlt : 0 < j
    · have hlt' : decide ((0 : Int) < (j : Int)) = true := by simp; omega
      have BY := hd.once 2 (by omega) (by omega)
      go_wp2_with fail
      refine BY.mono ?_
      rintro x w2 ⟨⟨y, rfl⟩, g2, d2⟩
      have own2 := own_off hown g2 hN
      have gw2 : w.grownBy w2 (some N) := gtrans hg g2
      have sz2 := gw2.size
      have own3 := own_off (N := N) own2 (galloc w2 (.cells #[.bool y] 4) _) hN
      have gw3 : w.grownBy (w2.alloc (.cells #[.bool y] 4)) (some N) := gtrans gw2 (galloc _ _ _)
      have d3 : Dw N cv cs (w2.alloc (.cells #[.bool y] 4)) := h.grown gw3 d2 (galloc _ _ none) (by simp) (by omega)
      have hc : ∀ W : World, (W.alloc (.cells #[.bool y] 4)).cell? ⟨W.heap.size, 0, none⟩ = some (.bool y) := fun W => by simp
      have HB : Hid (bcells (l ++ [y]) = bcells l ++ [.bool y]) := (by simp [bcells] : bcells (l ++ [y]) = bcells l ++ [.bool y])
      have HL : Hid ((l ++ [y]).length = l.length + 1) := (by simp : (l ++ [y]).length = l.length + 1)
      clear BY
      go_wp2_with (at_builtin; refine app_bool _ rfl _ _ rfl w.heap.size _ l.length _ rfl own3 _ 1 y rfl (hc _) (by omega) (by simp; omega) ?_; intro v5 w5 own5 g5; have gw5 := gmix gw3 g5 (own_row own3); have d5 := h.grown gw5 d3 g5 (fun e => by have := own_row own3 N e.symm; omega) (by simp; omega))
      exact ⟨⟨l ++ [y], j - 1, _, by go_num, by rw [HL.out]; omega, rfl, by rw [HB.out, HL.out]; exact own5, d5, gw5⟩, by simp [intOf]; omega⟩
    · have hlt' : decide ((0 : Int) < (j : Int)) = false := by simp; omega
      go_wp2
      go_ret
      exact ⟨⟨_, l, rfl, hown, by omega⟩, hg, hd⟩


end Go.Proofs.YtjclpbaiiklhcaaGreatDoor

/- DrawCut of the model. -/
namespace Go.Proofs.YtjclpbaiiklhcaaGreatDoor
open Go.RowKit

theorem three_int (x0 x1 x2 : Int) (z : Nat) (hz : z < 3) : ∃ m : Int, (#[.int .i64 x0, .int .i64 x1, .int .i64 x2] : Array Value)[z]? = some (.int .i64 m) := by
  match z, hz with
  | 0, _ => exact ⟨x0, rfl⟩
  | 1, _ => exact ⟨x1, rfl⟩
  | 2, _ => exact ⟨x2, rfl⟩

set_option maxRecDepth 100000 in
set_option maxHeartbeats 3200000 in
theorem drawCut_any (cv : Value) (cs : List UInt8) (w : World) (hc : BR w cv cs) (hn : cs.length ≤ 4096) :
    Calls Tryz.prog 16 #[cv] w fun x w' => (∃ (u1 u2 bv vl : Value) (ss : List ByteArray) (ws : List Disk.Wr) (bs : List ByteArray) (ls : List Bool) (dn tn : Int), x = .returned (.tuple #[.agg #[u1, u2], bv, .int .i64 dn, vl, .int .i64 tn]) ∧ Disk.SR w' u1 ss ∧ Disk.WR w' u2 ws ∧ Disk.SR w' bv bs ∧ Disk.LR w' vl ls ∧ ss.length ≤ 64 ∧ ws.length ≤ 300 ∧ bs.length ≤ 31 ∧ ls.length ≤ 10 ∧ Disk.CapS u1 ∧ (ss.length = 64 → ∀ i, i < 2 → DPt (textAt ss i))) ∧ Below w.heap.size w w' := by
  have h0 := Disk.bel_one w (.cells #[.slice none 0 0, .slice none 0 0] 27)
  have NW := l1New_any cv cs (w.alloc (.cells #[.slice none 0 0, .slice none 0 0] 27)) (hc.later h0) hn
  have R0 := Bx.new w (.slice none 0 0) (.slice none 0 0)
  have z0 : (w.alloc (.cells #[.slice none 0 0, .slice none 0 0] 27)).heap.size = w.heap.size + 1 := by simp
  go_enter Tryz.func16, Tryz.ntmps16
  go_wp2_with fail
  refine NW.mono ?_
  rintro x w1 ⟨N, rfl, hN, hN1, hb1, d1⟩
  clear NW
  rw [z0] at hN
  go_wp2_with fail
  refine (drawCommit_any cv cs w1 ((hc.later h0).later hb1) hn).mono ?_
  rintro x w2 ⟨⟨u1, u2, bv, ss, ws, bs, rfl, s1, s2, s3, l1, l2, l3, cp, o1, o2, o3, dp⟩, hb2⟩
  have g2 : w1.grownBy w2 (some N) := grown_of hb2
  have d2 := d1.later hb2 hN1
  have hN2 : N < w2.heap.size := Nat.lt_of_lt_of_le hN1 g2.size
  obtain ⟨a1, k1, e1, _⟩ := id s1
  obtain ⟨a2, k2, e2, _⟩ := id s2
  obtain ⟨p3, k3, e3, _⟩ := id s3
  subst e1
  subst e2
  subst e3
  have hw1 : w.heap.size < w1.heap.size := by omega
  have hw2 : w.heap.size < w2.heap.size := Nat.lt_of_lt_of_le hw1 g2.size
  have S1 : Hid (∀ W : World, w2.grownBy W (some N) → Disk.SR ((W.setCell ⟨w.heap.size, 0, none⟩ (.slice a1 ss.length k1)).setCell ⟨w.heap.size, 1, none⟩ (.slice a2 ws.length k2)) (.slice a1 ss.length k1) ss) := fun W g => sr_off (sr_keep s1 o1 hN1 g) o1 hw1
  have S2 : Hid (∀ W : World, w2.grownBy W (some N) → Disk.WR ((W.setCell ⟨w.heap.size, 0, none⟩ (.slice a1 ss.length k1)).setCell ⟨w.heap.size, 1, none⟩ (.slice a2 ws.length k2)) (.slice a2 ws.length k2) ws) := fun W g => wr_off (wr_keep s2 o2 hN1 g) o2 hw1
  have S3 : Hid (∀ W : World, w2.grownBy W (some N) → Disk.SR ((W.setCell ⟨w.heap.size, 0, none⟩ (.slice a1 ss.length k1)).setCell ⟨w.heap.size, 1, none⟩ (.slice a2 ws.length k2)) (.slice p3 bs.length k3) bs) := fun W g => sr_off (sr_keep s3 o3 hN1 g) o3 hw1
  have BW : Hid (∀ W : World, w2.grownBy W (some N) → Below w.heap.size w ((W.setCell ⟨w.heap.size, 0, none⟩ (.slice a1 ss.length k1)).setCell ⟨w.heap.size, 1, none⟩ (.slice a2 ws.length k2))) := fun W g => gbel (gbel (bel_after h0 hb1) (gtrans g2 g) (by have := hb1.size; omega) (by omega)) (gset (gset1 W w.heap.size 0 (.slice a1 ss.length k1)) 1 (.slice a2 ws.length k2)) (by have := (gtrans g2 g).size; omega) (Nat.le_refl _)
  have RB : Hid (∀ W : World, w2.grownBy W (some N) → Bx W w.heap.size (.slice none 0 0) (.slice none 0 0)) := fun W g => (R0.later hb1).grown (gtrans g2 g) (fun e => by have := Option.some.inj e; omega)
  have gA : w2.grownBy (w2.alloc (.cells #[.slice a1 ss.length k1, .slice a2 ws.length k2] 27)) (some N) := galloc _ _ _
  have dA := d2.grown gA d2 (galloc _ _ none) (by simp) hN2
  have DB : Hid (∀ W : World, (w2.alloc (.cells #[.slice a1 ss.length k1, .slice a2 ws.length k2] 27)).grownBy W (some N) → Bx W w2.heap.size (.slice a1 ss.length k1) (.slice a2 ws.length k2)) := fun W g => (Bx.new w2 _ _).grown g (fun e => by have := Option.some.inj e; omega)
  have FX : Hid (ss.length ≤ 64 ∧ ws.length ≤ 300 ∧ bs.length ≤ 31 ∧ Disk.CapS (.slice a1 ss.length k1) ∧ (ss.length = 64 → ∀ i, i < 2 → DPt (textAt ss i))) := ⟨l1, l2, l3, cp, dp⟩
  have hNA : N < (w2.alloc (.cells #[.slice a1 ss.length k1, .slice a2 ws.length k2] 27)).heap.size := Nat.lt_of_lt_of_le hN2 gA.size
  have hRA : w.heap.size < (w2.alloc (.cells #[.slice a1 ss.length k1, .slice a2 ws.length k2] 27)).heap.size := Nat.lt_of_lt_of_le hw2 gA.size
  have hne : w2.heap.size ≠ w.heap.size := by omega
  have BL := dA.below ((bs.length : Int) + 3) (by omega) (by omega)
  clear s1 s2 s3 o1 o2 o3 d1 R0 cp l1 l2 hb2 dp g2 d2
  go_wp2_with fail
  refine BL.mono ?_
  rintro x w3 ⟨⟨z, rfl, z0', z1⟩, g3, d3⟩
  clear BL
  go_wp2_with fail
  refine (d3.once 14 (by omega) (by omega)).mono ?_
  rintro x w4 ⟨⟨b14, rfl⟩, g4, d4⟩
  have gw4 := gtrans g3 g4
  have sz4 := gw4.size
  clear g3 g4 d3 l3
  cases b14
  · have hNt : N < w4.heap.size := Nat.lt_of_lt_of_le hNA sz4
    have hRt : w.heap.size < w4.heap.size := Nat.lt_of_lt_of_le hRA sz4
    have LD := d4.lands hNt
    go_wp2_with fail
    refine LD.mono ?_
    rintro x wl ⟨⟨vl, ls, rfl, lo, ln⟩, gl, dl⟩
    clear LD
    have gwl : (w2.alloc (.cells #[.slice a1 ss.length k1, .slice a2 ws.length k2] 27)).grownBy wl (some N) := gtrans gw4 gl
    have LO : Hid (∀ W : World, wl.grownBy W (some N) → Disk.LR ((W.setCell ⟨w.heap.size, 0, none⟩ (.slice a1 ss.length k1)).setCell ⟨w.heap.size, 1, none⟩ (.slice a2 ws.length k2)) vl ls) := fun W gg => lr_own (own_off (own_off lo gg hNt) (gset (gset1 W w.heap.size 0 _) 1 _) hRt)
    clear lo
    have TX := dl.drew.from (-2) 4 (by omega) (by omega) (by omega) (by omega)
    have g4d := gdrew gwl
    have g44 : wl.grownBy wl.drew (some N) := ⟨rfl, rfl, rfl, Nat.le_refl _, fun _ _ _ => rfl⟩
    have m0 := (DB.out _ gwl).c0
    have m1 := (DB.out _ gwl).c1
    go_wp2_with fail
    go_region_held3 (fun w' => w'.cell? ⟨w2.heap.size, 0, none⟩ = some (.slice a1 ss.length k1) ∧ w'.cell? ⟨w2.heap.size, 1, none⟩ = some (.slice a2 ws.length k2))
      (first | assumption | (exact ⟨m0, m1⟩) | (exact ⟨(DB.out _ gw5).c0, (DB.out _ gw5).c1⟩) | (exact ⟨(bx_off (DB.out _ gw5) hne _ _).c0, (bx_off (DB.out _ gw5) hne _ _).c1⟩))
      (first | (go_at_call 36; refine TX.mono ?_; rintro x w5 ⟨⟨tn, rfl⟩, g5, d5⟩; have gw5 := gtrans g4d g5; have q5 := RB.out _ (gtrans gA gw5); have o0 := q5.c0; have o1 := q5.c1; have of0 := q5.f (o := 0); have of1 := q5.f (o := 1)))
    all_goals go_wp2
    have p0 := (q5.set (.slice a1 ss.length k1) (.slice a2 ws.length k2)).c0
    have p1 := (q5.set (.slice a1 ss.length k1) (.slice a2 ws.length k2)).c1
    exact bodyPost_ret (v := .tuple #[.agg #[.slice a1 ss.length k1, .slice a2 ws.length k2], .slice p3 bs.length k3, .int .i64 z, vl, .int .i64 tn]) (by simp [results, Tryz.results16, go_sem, p0, p1]) rfl ⟨⟨_, _, _, vl, ss, ws, bs, ls, z, tn, rfl, S1.out _ (gtrans gA gw5), S2.out _ (gtrans gA gw5), S3.out _ (gtrans gA gw5), LO.out _ (gtrans g44 g5), FX.out.1, FX.out.2.1, FX.out.2.2.1, ln, FX.out.2.2.2.1, FX.out.2.2.2.2⟩, BW.out _ (gtrans gA gw5)⟩
  · have hN4 : N < w4.heap.size := Nat.lt_of_lt_of_le hNA sz4
    have G6 := gtrans gw4 (galloc w4 (.cells #[.int .i64 (-1), .int .i64 0, .int .i64 4611686018427387904] 2) (some N))
    have D6 := dA.grown G6 d4 (galloc _ _ none) (by simp) hN4
    go_wp2_with fail
    refine (D6.below 3 (by omega) (by omega)).mono ?_
    rintro x w6 ⟨⟨y, rfl, y0', y1'⟩, g6, d6⟩
    obtain ⟨kn, rfl⟩ := Int.eq_ofNat_of_zero_le y0'
    obtain ⟨m, hm⟩ := three_int (-1) 0 4611686018427387904 kn (by omega)
    have hcm := comp_cell g6 hN4 hm
    have gw6 := gtrans G6 g6
    have j1 : decide ((kn : Int) < 3) = true := by simp; omega
    have hNt : N < w6.heap.size := Nat.lt_of_lt_of_le hNA gw6.size
    have hRt : w.heap.size < w6.heap.size := Nat.lt_of_lt_of_le hRA gw6.size
    clear hm
    have LD := d6.lands hNt
    go_wp2_with fail
    refine LD.mono ?_
    rintro x wl ⟨⟨vl, ls, rfl, lo, ln⟩, gl, dl⟩
    clear LD
    have gwl : (w2.alloc (.cells #[.slice a1 ss.length k1, .slice a2 ws.length k2] 27)).grownBy wl (some N) := gtrans gw6 gl
    have LO : Hid (∀ W : World, wl.grownBy W (some N) → Disk.LR ((W.setCell ⟨w.heap.size, 0, none⟩ (.slice a1 ss.length k1)).setCell ⟨w.heap.size, 1, none⟩ (.slice a2 ws.length k2)) vl ls) := fun W gg => lr_own (own_off (own_off lo gg hNt) (gset (gset1 W w.heap.size 0 _) 1 _) hRt)
    clear lo
    have TX := dl.drew.from (-2) 4 (by omega) (by omega) (by omega) (by omega)
    have g4d := gdrew gwl
    have g44 : wl.grownBy wl.drew (some N) := ⟨rfl, rfl, rfl, Nat.le_refl _, fun _ _ _ => rfl⟩
    have m0 := (DB.out _ gwl).c0
    have m1 := (DB.out _ gwl).c1
    go_wp2_with fail
    go_region_held3 (fun w' => w'.cell? ⟨w2.heap.size, 0, none⟩ = some (.slice a1 ss.length k1) ∧ w'.cell? ⟨w2.heap.size, 1, none⟩ = some (.slice a2 ws.length k2))
      (first | assumption | (exact ⟨m0, m1⟩) | (exact ⟨(DB.out _ gw5).c0, (DB.out _ gw5).c1⟩) | (exact ⟨(bx_off (DB.out _ gw5) hne _ _).c0, (bx_off (DB.out _ gw5) hne _ _).c1⟩))
      (first | (go_at_call 36; refine TX.mono ?_; rintro x w5 ⟨⟨tn, rfl⟩, g5, d5⟩; have gw5 := gtrans g4d g5; have q5 := RB.out _ (gtrans gA gw5); have o0 := q5.c0; have o1 := q5.c1; have of0 := q5.f (o := 0); have of1 := q5.f (o := 1)))
    all_goals go_wp2
    have p0 := (q5.set (.slice a1 ss.length k1) (.slice a2 ws.length k2)).c0
    have p1 := (q5.set (.slice a1 ss.length k1) (.slice a2 ws.length k2)).c1
    exact bodyPost_ret (v := .tuple #[.agg #[.slice a1 ss.length k1, .slice a2 ws.length k2], .slice p3 bs.length k3, .int .i64 m, vl, .int .i64 tn]) (by simp [results, Tryz.results16, go_sem, p0, p1]) rfl ⟨⟨_, _, _, vl, ss, ws, bs, ls, m, tn, rfl, S1.out _ (gtrans gA gw5), S2.out _ (gtrans gA gw5), S3.out _ (gtrans gA gw5), LO.out _ (gtrans g44 g5), FX.out.1, FX.out.2.1, FX.out.2.2.1, ln, FX.out.2.2.2.1, FX.out.2.2.2.2⟩, BW.out _ (gtrans gA gw5)⟩

end Go.Proofs.YtjclpbaiiklhcaaGreatDoor
