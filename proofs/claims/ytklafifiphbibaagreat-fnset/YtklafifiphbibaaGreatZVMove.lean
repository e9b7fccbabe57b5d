/- The model's scavenger: a word is moved. -/
import Derived.BigQuiet
import Derived.Test.YtklafifiphbibaaGreatZV6
import Derived.Test.YtklafifiphbibaaGreatZV8
import Derived.Test.YtklafifiphbibaaGreatZV7
import Derived.Test.YtklafifiphbibaaGreatZHSpecL
import Derived.Test.YtklafifiphbibaaGreatZV11
namespace Go.Proofs.YtklafifiphbibaaGreat
open Go.RowKit

/-- What the work's box holds. -/
def kf (h : Hp) (s : SV) (g1 g2 g3 gt d1 d2 d3 : Nat) (qv : Value) : Nat → Value
  | 0 => .slice (some ⟨g1, 0, none⟩) 3200 d1
  | 1 => .slice (some ⟨g2, 0, none⟩) h.roots.length d2
  | 2 => .int .i64 (s.old : Int)
  | 3 => .int .i64 h.eden
  | 4 => .int .i64 h.surv
  | 5 => .bool h.flip
  | 6 => .int .i64 h.hash
  | 7 => .slice (some ⟨g3, 0, none⟩) h.kept.length d3
  | 8 => .int .i64 (s.to : Int)
  | 9 => .int .i64 ((tb h : Int) + 300)
  | 10 => .slice (some ⟨gt, 0, none⟩) 3200 3200
  | 11 => qv
  | 12 => .bool s.full
  | _ => undef
/-- The work under way lies in the world so. -/
structure KW (h : Hp) (w : World) (K g1 g2 g3 gt d1 d2 d3 : Nat) (qv : Value) (rl : List Int) (s : SV) : Prop where
  row : w.rowIs K 148 13 (kf h s g1 g2 g3 gt d1 d2 d3 qv)
  r1 : RI w g1 s.W d1
  r2 : RI w g2 rl d2
  rt : RI w gt (ints s.went) 3200
  rq : w.ownsRow (K + 1) 2 1 qv s.q.length (icells (ints s.q))
  n1 : g1 < K
  n2 : g2 < K
  nt : gt < K
  d12 : g1 ≠ g2
  d1t : g1 ≠ gt
  d2t : g2 ≠ gt
theorem row_congr {w : World} {b t n : Nat} {f g : Nat → Value} (h : w.rowIs b t n f) (e : ∀ i, i < n → f i = g i) : w.rowIs b t n g := by
  obtain ⟨cur, h1, h2, h3⟩ := h
  exact ⟨cur, h1, h2, fun i hi => by rw [h3 i hi, e i hi]⟩
theorem KW.low {h : Hp} {w w' : World} {K g1 g2 g3 gt d1 d2 d3 : Nat} {qv : Value} {rl : List Int} {s : SV} (k : KW h w K g1 g2 g3 gt d1 d2 d3 qv rl s) (hb : Below w.heap.size w w') : KW h w' K g1 g2 g3 gt d1 d2 d3 qv rl s :=
  ⟨k.row.of_block (hb.block _ k.row.lt), k.r1.later hb, k.r2.later hb, k.rt.later hb, own_later k.rq hb, k.n1, k.n2, k.nt, k.d12, k.d1t, k.d2t⟩
theorem RI.mid {w : World} {g c cap a n : Nat} {l : List Int} (h : RI w g l c) (hn : a + n ≤ l.length) (hc : n ≤ cap) : IR w (.slice (some ⟨g, a, none⟩) n cap) ((l.drop a).take n) := by
  have e : ((l.drop a).take n).length = n := by rw [List.length_take, List.length_drop]; omega
  refine ⟨_, cap, by rw [e], by rw [e]; exact hc, fun j hj => ⟨g, a, rfl, ?_⟩⟩
  rw [e] at hj
  rw [h.cell (i := a + j) (by omega)]
  simp only [List.getD_eq_getElem?_getD]
  rw [List.getElem?_take_of_lt hj, List.getElem?_drop]

theorem exec_copyR {o : Oper} {a : Act} {w w' : World} {u : Value} (s x : Operand) (ho : o.op = .call { callee := .builtin .copy, args := #[s, x], argTypes := #[24, 24] }) (v y : Value) (hs : a.eval s = v) (hx : a.eval x = y)
    (hr : (Builtin.copy_ #[24, 24] o.type #[v, y]).run Tryz.prog w = .ok u w') : (execOp a.eval o).run Tryz.prog w = .ok (.value u) w' := by
  unfold execOp
  simp only [ho, resolve, invoke, builtin, Sem.run_bind, Sem.run_pure, Result.andThen_ok, List.map_toArray, List.map_cons, List.map_nil, hs, hx, hr]

theorem min15_any (z : Int) (w : World) : Calls Tryz.prog 135 #[.int .i64 15, .int .i64 z] w fun e w' => e = .returned (.int .i64 (if z < 15 then z else 15)) ∧ w' = w := by
  by_cases h : 15 < z
  · rw [if_neg (by omega)]
    go_enter Tryz.func135, Tryz.ntmps135
    go_wp2
    go_ret
    exact ⟨rfl, rfl⟩
  · have e : Hid ((if z < 15 then z else 15) = z) := (by split <;> omega : (if z < 15 then z else 15) = z)
    generalize (if z < 15 then z else 15) = r at *
    go_enter Tryz.func135, Tryz.ntmps135
    go_wp2
    go_ret
    exact ⟨wret_int e.out.symm, rfl⟩

set_option maxRecDepth 100000 in
set_option maxHeartbeats 6400000 in
theorem move_any (h : Hp) (l : List Nat) (R : RightAt h l) (K g1 g2 g3 gt d1 d2 d3 : Nat) (qv : Value) (rl : List Int) (s : SV) (x : Int) (w : World) (k : KW h w K g1 g2 g3 gt d1 d2 d3 qv rl s) (S : SI h l s) (hf : fitB l x = true) :
    Calls Tryz.prog 126 #[.pointer (some ⟨K, 0, none⟩), .int .i64 x] w fun e w' => (∃ qv', e = .returned (.int .i64 (mv (tb h + 300) s x).2) ∧ KW h w' K g1 g2 g3 gt d1 d2 d3 qv' rl (mv (tb h + 300) s x).1) ∧ Grew w w' (fun b => b = K ∨ b = g1 ∨ b = gt ∨ K < b) := by
  have Y := fun W => l5Young_any x W (half_le (fit_kind hf))
  have kn : K < w.heap.size := k.row.lt
  have k0 : w.cell? ⟨K, 0, none⟩ = some (.slice (some ⟨g1, 0, none⟩) 3200 d1) := k.row.cell (i := 0) (by omega)
  have k1 : w.cell? ⟨K, 1, none⟩ = some (.slice (some ⟨g2, 0, none⟩) h.roots.length d2) := k.row.cell (i := 1) (by omega)
  have k2 : w.cell? ⟨K, 2, none⟩ = some (.int .i64 (s.old : Int)) := k.row.cell (i := 2) (by omega)
  have k3 : w.cell? ⟨K, 3, none⟩ = some (.int .i64 h.eden) := k.row.cell (i := 3) (by omega)
  have k4 : w.cell? ⟨K, 4, none⟩ = some (.int .i64 h.surv) := k.row.cell (i := 4) (by omega)
  have k5 : w.cell? ⟨K, 5, none⟩ = some (.bool h.flip) := k.row.cell (i := 5) (by omega)
  have k6 : w.cell? ⟨K, 6, none⟩ = some (.int .i64 h.hash) := k.row.cell (i := 6) (by omega)
  have k7 : w.cell? ⟨K, 7, none⟩ = some (.slice (some ⟨g3, 0, none⟩) h.kept.length d3) := k.row.cell (i := 7) (by omega)
  have k8 : w.cell? ⟨K, 8, none⟩ = some (.int .i64 (s.to : Int)) := k.row.cell (i := 8) (by omega)
  have k9 : w.cell? ⟨K, 9, none⟩ = some (.int .i64 ((tb h : Int) + 300)) := k.row.cell (i := 9) (by omega)
  have k10 : w.cell? ⟨K, 10, none⟩ = some (.slice (some ⟨gt, 0, none⟩) 3200 3200) := k.row.cell (i := 10) (by omega)
  have k11 : w.cell? ⟨K, 11, none⟩ = some (qv) := k.row.cell (i := 11) (by omega)
  have k12 : w.cell? ⟨K, 12, none⟩ = some (.bool s.full) := k.row.cell (i := 12) (by omega)
  have fK := fun i => k.row.frozen i
  cases hy : youngS x
  · have MV : Hid (mv (tb h + 300) s x = (s, x)) := (by unfold mv; rw [hy]; rfl : mv (tb h + 300) s x = (s, x))
    rw [hy] at Y
    go_enter Tryz.func126, Tryz.ntmps126
    go_wp2_with (go_at_call 60; refine (Y _).mono ?_; rintro e wq ⟨rfl, hq⟩; obtain rfl := hq.symm)
    go_ret
    rw [MV.out]
    exact ⟨⟨qv, rfl, k⟩, Grew.refl _ _⟩
  rw [hy] at Y
  cases hfl : s.full
  case true =>
    have MV : Hid (mv (tb h + 300) s x = (s, x)) := (by unfold mv; rw [hy, hfl]; rfl : mv (tb h + 300) s x = (s, x))
    rw [hfl] at k12
    go_enter Tryz.func126, Tryz.ntmps126
    go_wp2_with (go_at_call 60; refine (Y _).mono ?_; rintro e wq ⟨rfl, hq⟩; obtain rfl := hq.symm)
    go_ret
    rw [MV.out]
    exact ⟨⟨qv, rfl, k⟩, Grew.refl _ _⟩
  rw [hfl] at k12
  obtain ⟨a, ha, ea, y2, o1, o2, sz, ag⟩ := young_obj R hf hy
  have td : x.tdiv 2 = a := by
    have hp : 1 ≤ x := by omega
    rw [Int.tdiv_eq_ediv_of_nonneg (by omega), ea]
  have nxe : Hid (nx h.words a = a + 4 + (gw h.words a).toNat) := (rfl : _ = _)
  have nxe0 : nx h.words a = a + 4 + (gw h.words a).toNat := rfl
  have sa : ∀ j, a ≤ j → j < nx h.words a → gw s.W j = gw h.words j := fun j h1 h2 => S.same j (young_area R ha y2 h1 h2)
  have s0 : gw s.W a = gw h.words a := sa a (Nat.le_refl _) (by omega)
  have s3 : gw s.W (a + 3) = gw h.words (a + 3) := sa (a + 3) (by omega) (by omega)
  have ct := k.rt.cell (i := a) (by rw [ints_length, S.wlen]; omega)
  have ce : (ints s.went).getD a 0 = ((s.went.getD a 0 : Nat) : Int) := ints_get _ _ (by rw [S.wlen]; omega)
  rw [ce] at ct
  have wb := S.wnt a
  have MV0 : Hid (mv (tb h + 300) s x = (if 0 < s.went.getD a 0 then (s, 2 * ((s.went.getD a 0 : Nat) - 1 : Int) + 1)
    else if 3 ≤ ageOf s.W a ∨ tb h + 300 < s.to + (4 + (gw s.W a).toNat) then
      (if 2000 < s.old + (4 + (gw s.W a).toNat) then ({ s with full := true }, x)
      else (mvTo s a s.old (s.old + (4 + (gw s.W a).toNat)) s.to, 2 * (s.old : Int) + 1))
    else (mvTo s a s.to s.old (s.to + (4 + (gw s.W a).toNat)), 2 * (s.to : Int) + 1))) := (by unfold mv; rw [hy, hfl, ea]; rfl : _ = _)
  have ha3 : a < 3200 := by omega
  have hai : (a : Int) < 3200 := by omega
  by_cases hw : 0 < s.went.getD a 0
  · have MV : Hid (mv (tb h + 300) s x = (s, 2 * ((s.went.getD a 0 : Nat) - 1 : Int) + 1)) := (by rw [MV0.out, if_pos hw] : mv (tb h + 300) s x = (s, 2 * ((s.went.getD a 0 : Nat) - 1 : Int) + 1))
    have hw2 : (0 : Int) < (s.went.getD a 0 : Nat) := by omega
    clear MV0
    generalize s.went.getD a 0 = wv at *
    go_enter Tryz.func126, Tryz.ntmps126
    go_wp2_with (go_at_call 60; refine (Y _).mono ?_; rintro e wq ⟨rfl, hq⟩; obtain rfl := hq.symm)
    go_ret
    rw [MV.out]
    exact ⟨⟨qv, rfl, k⟩, Grew.refl _ _⟩
  have hw2 : ¬ (0 : Int) < (s.went.getD a 0 : Nat) := by omega
  rw [if_neg hw] at MV0
  obtain ⟨n, hn⟩ := Int.eq_ofNat_of_zero_le sz.1
  have hsn : (gw s.W a).toNat = n := by rw [s0, hn]; rfl
  have ca := k.r1.cell (i := a) (by rw [S.len]; omega)
  have ca3 := k.r1.cell (i := a + 3) (by rw [S.len]; omega)
  have ga : s.W.getD a 0 = (n : Int) := s0.trans hn
  rw [ga] at ca
  have MI : ∀ W, Calls Tryz.prog 135 #[.int .i64 15, .int .i64 (gw s.W (a + 3) + 1)] W fun e w' => e = .returned (.int .i64 (ageOf s.W a)) ∧ w' = W := fun W => min15_any _ W
  have agb : 0 ≤ ageOf s.W a ∧ ageOf s.W a ≤ 15 := by unfold ageOf; rw [s3]; split <;> omega
  have g3 : s.W.getD (a + 3) 0 = gw s.W (a + 3) := rfl
  rw [g3] at ca3
  have gb3 : 0 ≤ gw s.W (a + 3) ∧ gw s.W (a + 3) ≤ 15 := by rw [s3]; exact ag
  rw [hsn] at MV0
  have nb : n ≤ 60 := by omega
  have so1 : s.old ≤ 2000 := S.old1
  have st1 : s.to ≤ 3200 := by have := S.to1; have := tb_two h; omega
  have lm1 : tb h + 300 ≤ 3200 := by have := tb_two h; omega
  have anx : a + 4 + n ≤ 3200 := by rw [nxe0, hn] at o2; exact o2
  have HM : Hid (∀ d, mvW s.W d a = (splice s.W d ((s.W.drop a).take (4 + n))).set (d + 3) (ageOf s.W a)) := fun d => by unfold mvW; rw [hsn]
  generalize ageOf s.W a = age at *
  generalize gw s.W (a + 3) = ag0 at *
  have HN : Hid (gw h.words a = n) := hn
  replace hsn : Hid ((gw s.W a).toNat = n) := hsn
  replace ea : Hid (x / 2 = a) := ea
  generalize s.went.getD a 0 = wv at *
  clear s0 s3 sa ga g3 hn sz ag o2 ce nxe0
  by_cases h3 : 3 ≤ age
  · have MV1 : Hid (mv (tb h + 300) s x = (if 2000 < s.old + (4 + n) then ({ s with full := true }, x) else (mvTo s a s.old (s.old + (4 + n)) s.to, 2 * (s.old : Int) + 1))) := (by rw [MV0.out, if_pos (.inl h3)] : _ = _)
    have h3b : decide (3 ≤ age) = true := decide_eq_true h3
    clear MV0
    go_enter Tryz.func126, Tryz.ntmps126
    go_wp2_with (first | (go_at_call 60; refine (Y _).mono ?_; rintro e wq ⟨rfl, hq⟩; obtain rfl := hq.symm) | (go_at_call 135; refine (MI _).mono ?_; rintro e wq ⟨rfl, hq⟩; obtain rfl := hq.symm))
    go_quiet (fail)
    have hbq := below_drewN (Below.refl w.heap.size w) nq
    have kq := k.low hbq
    have Gq := Grew.new hbq (fun b => b = K ∨ b = g1 ∨ b = gt ∨ K < b)
    generalize w.drewN nq = wq at *
    have q0 : wq.cell? ⟨K, 0, none⟩ = some (.slice (some ⟨g1, 0, none⟩) 3200 d1) := kq.row.cell (i := 0) (by omega)
    have q1 : wq.cell? ⟨K, 1, none⟩ = some (.slice (some ⟨g2, 0, none⟩) h.roots.length d2) := kq.row.cell (i := 1) (by omega)
    have q2 : wq.cell? ⟨K, 2, none⟩ = some (.int .i64 (s.old : Int)) := kq.row.cell (i := 2) (by omega)
    have q3 : wq.cell? ⟨K, 3, none⟩ = some (.int .i64 h.eden) := kq.row.cell (i := 3) (by omega)
    have q4 : wq.cell? ⟨K, 4, none⟩ = some (.int .i64 h.surv) := kq.row.cell (i := 4) (by omega)
    have q5 : wq.cell? ⟨K, 5, none⟩ = some (.bool h.flip) := kq.row.cell (i := 5) (by omega)
    have q6 : wq.cell? ⟨K, 6, none⟩ = some (.int .i64 h.hash) := kq.row.cell (i := 6) (by omega)
    have q7 : wq.cell? ⟨K, 7, none⟩ = some (.slice (some ⟨g3, 0, none⟩) h.kept.length d3) := kq.row.cell (i := 7) (by omega)
    have q8 : wq.cell? ⟨K, 8, none⟩ = some (.int .i64 (s.to : Int)) := kq.row.cell (i := 8) (by omega)
    have q9 : wq.cell? ⟨K, 9, none⟩ = some (.int .i64 ((tb h : Int) + 300)) := kq.row.cell (i := 9) (by omega)
    have q10 : wq.cell? ⟨K, 10, none⟩ = some (.slice (some ⟨gt, 0, none⟩) 3200 3200) := kq.row.cell (i := 10) (by omega)
    have q11 : wq.cell? ⟨K, 11, none⟩ = some (qv) := kq.row.cell (i := 11) (by omega)
    have q12 : wq.cell? ⟨K, 12, none⟩ = some (.bool s.full) := kq.row.cell (i := 12) (by omega)
    have fq := fun i => kq.row.frozen i
    clear k0 k1 k2 k3 k4 k5 k6 k7 k8 k9 k10 k11 k12
    by_cases hr : 2000 < s.old + (4 + n)
    · have hri : (2000 : Int) < (s.old : Int) + (4 + (n : Int)) := by omega
      have RK := kq.row.set 12 (.bool true)
      have G1 := Grew.set wq K 12 (.bool true)
      have KF : KW h (wq.setCell ⟨K, 12, none⟩ (.bool true)) K g1 g2 g3 gt d1 d2 d3 qv rl { s with full := true } := ⟨row_congr RK (fun i hi => match i, hi with | 0, _ => rfl | 1, _ => rfl | 2, _ => rfl | 3, _ => rfl | 4, _ => rfl | 5, _ => rfl | 6, _ => rfl | 7, _ => rfl | 8, _ => rfl | 9, _ => rfl | 10, _ => rfl | 11, _ => rfl | 12, _ => rfl), kq.r1.setOther (by have := k.n1; omega) _, kq.r2.setOther (by have := k.n2; omega) _, kq.rt.setOther (by have := k.nt; omega) _, G1.own kq.rq (fun b hb e => by have := own_low kq.rq hb; omega), k.n1, k.n2, k.nt, k.d12, k.d1t, k.d2t⟩
      go_wp2
      go_ret
      rw [MV1.out, if_pos hr]
      exact ⟨⟨qv, rfl, KF⟩, Gq.trans (G1.mono (fun b _ e => .inl e))⟩
    · have hri : ¬ (2000 : Int) < (s.old : Int) + (4 + (n : Int)) := by omega
      have MK := mvTo_keep R S ha y2 s.old (s.old + (4 + n)) s.to (.inl ⟨rfl, by rw [hsn.out], rfl, by omega⟩)
      have dn : s.old + (4 + n) ≤ 3200 := by have := S.old1; have := S.to1; have := tb_two h; omega
      have dfr : ¬ (a < s.old + (4 + n) ∧ s.old < a + (4 + n)) := by
        have f1 := frm_not (young_area R ha y2 (Nat.le_refl a) (by rw [nxe.out]; omega))
        have f2 := frm_not (young_area R ha y2 (j := a + 3 + n) (by omega) (by rw [nxe.out, HN.out]; show a + 3 + n < a + 4 + n; omega))
        have := S.old1; have := S.to1; have := S.to0; have := tb_two h
        omega
      have ld1 : 3200 ≤ d1 := by have := k.r1.le; rw [S.len] at this; exact this
      have R1 := kq.r1.setOther (b := K) (i := 2) (by have := k.n1; omega) (.int .i64 ((s.old : Int) + (4 + (n : Int))))
      have R2 := kq.r2.setOther (b := K) (i := 2) (by have := k.n2; omega) (.int .i64 ((s.old : Int) + (4 + (n : Int))))
      have RT := kq.rt.setOther (b := K) (i := 2) (by have := k.nt; omega) (.int .i64 ((s.old : Int) + (4 + (n : Int))))
      have RK := kq.row.set 2 (.int .i64 ((s.old : Int) + (4 + (n : Int))))
      have G1 := Grew.set wq K 2 (.int .i64 ((s.old : Int) + (4 + (n : Int))))
      have RQ := G1.own kq.rq (fun b hb e => by have := own_low kq.rq hb; omega)
      have IS : IR (wq.setCell ⟨K, 2, none⟩ (.int .i64 ((s.old : Int) + (4 + (n : Int))))) (.slice (some ⟨g1, a, none⟩) (4 + n) (d1 - a)) ((s.W.drop a).take (4 + n)) := R1.mid (by rw [S.len]; omega) (by omega)
      have sl : Hid (4 + n = ((s.W.drop a).take (4 + n)).length) := by show _ = _; rw [List.length_take, List.length_drop, S.len]; omega
      have kc0 : (wq.setCell ⟨K, 2, none⟩ (.int .i64 ((s.old : Int) + (4 + (n : Int))))).cell? ⟨K, 0, none⟩ = some (.slice (some ⟨g1, 0, none⟩) 3200 d1) := RK.cell (i := 0) (by omega)
      have b1 : (s.old : Int) + (4 + (n : Int)) ≤ d1 := by omega
      have b2 : (a : Int) + (4 + (n : Int)) ≤ d1 := by omega
      have b3 : (s.old : Int) ≤ (s.old : Int) + (4 + (n : Int)) := by omega
      have b4 : (a : Int) ≤ (a : Int) + (4 + (n : Int)) := by omega
      have b5 : (0 : Int) ≤ (s.old : Int) + (4 + (n : Int)) := by omega
      have b6 : (0 : Int) ≤ (a : Int) + (4 + (n : Int)) := by omega
      have wr1 : IntKind.i64.wrap ((s.old : Int) + (4 + (n : Int))) = (s.old : Int) + (4 + (n : Int)) := by rw [IntKind.wrap_i64]; omega
      have wr2 : IntKind.i64.wrap ((a : Int) + (4 + (n : Int))) = (a : Int) + (4 + (n : Int)) := by rw [IntKind.wrap_i64]; omega
      have le1 : s.old ≤ s.old + (4 + n) := by omega
      have le2 : a ≤ a + (4 + n) := by omega
      have t1 : ((s.old : Int) + (4 + (n : Int))).toNat = s.old + (4 + n) := by omega
      have t2 : ((a : Int) + (4 + (n : Int))).toNat = a + (4 + n) := by omega
      have t3 : s.old + (4 + n) - s.old = 4 + n := by omega
      have t4 : a + (4 + n) - a = 4 + n := by omega
      have e1 : ¬ d1 = s.old := by omega
      have e2 : ¬ d1 = a := by omega
      have kn' : K < (wq.setCell ⟨K, 2, none⟩ (.int .i64 ((s.old : Int) + (4 + (n : Int))))).heap.size := RK.lt
      have Wl := S.len
      go_wp2_with fail
      obtain ⟨w3, run3, R3, G3⟩ := run_copy_ints (wq.setCell ⟨K, 2, none⟩ (.int .i64 ((s.old : Int) + (4 + (n : Int))))).drew 3 g1 s.old (4 + n) (d1 - s.old) s.W d1 (R1.later (Below.refl _ _).drew) (by rw [Wl]; exact dn) ((s.W.drop a).take (4 + n)) (some ⟨g1, a, none⟩) (d1 - a) (by rw [← sl.out]; exact IS.later (Below.refl _ _).drew) (by rw [← sl.out]; exact Nat.le_refl _)
      rw [← sl.out] at run3
      replace G3 : (wq.setCell ⟨K, 2, none⟩ (.int .i64 ((s.old : Int) + (4 + (n : Int))))).grownBy w3 (some g1) := ⟨G3.os, G3.tape, G3.output, G3.size, G3.block⟩
      have RK3 := RK.of_block (G3.block _ RK.lt (by intro e; cases e; have := k.n1; omega))
      have h0 : w3.cell? ⟨K, 0, none⟩ = some (.slice (some ⟨g1, 0, none⟩) 3200 d1) := RK3.cell (i := 0) (by omega)
      refine Disk.z_plain 99 (fun W' => W'.cell? ⟨K, 0, none⟩ = some (.slice (some ⟨g1, 0, none⟩) 3200 d1)) (by kernel_rfl) kc0 fun hs => ?_
      refine Disk.z_take 0 107 (v := .pointer (some ⟨K, 0, none⟩)) rfl rfl (by kernel_rfl) (by kernel_rfl) (by kernel_rfl) (by kernel_rfl) (by rfl) hs (fun W' hSw => (by go_simp; first | done | with_reducible rfl | simp [b1, b2, b5, b6, le1, le2, t1, t2, t3, t4, e1, e2])) ?_
      simp only [List.setIfInBounds_toArray, List.set_cons_zero, List.set_cons_succ]
      refine Disk.z_take 1 108 (v := .pointer (some ⟨K, 0, none⟩)) rfl rfl (by kernel_rfl) (by kernel_rfl) (by kernel_rfl) (by kernel_rfl) (by rfl) hs (fun W' hSw => (by go_simp; first | done | with_reducible rfl | simp [b1, b2, b5, b6, le1, le2, t1, t2, t3, t4, e1, e2])) ?_
      simp only [List.setIfInBounds_toArray, List.set_cons_zero, List.set_cons_succ]
      refine Disk.z_take 2 109 (v := .pointer (some ⟨K, 0, none⟩)) rfl rfl (by kernel_rfl) (by kernel_rfl) (by kernel_rfl) (by kernel_rfl) (by rfl) hs (fun W' hSw => (by go_simp; first | done | with_reducible rfl | simp [b1, b2, b5, b6, le1, le2, t1, t2, t3, t4, e1, e2])) ?_
      simp only [List.setIfInBounds_toArray, List.set_cons_zero, List.set_cons_succ]
      refine Disk.z_take 3 110 (v := .pointer (some ⟨K, 0, none⟩)) rfl rfl (by kernel_rfl) (by kernel_rfl) (by kernel_rfl) (by kernel_rfl) (by rfl) hs (fun W' hSw => (by go_simp; first | done | with_reducible rfl | simp [b1, b2, b5, b6, le1, le2, t1, t2, t3, t4, e1, e2])) ?_
      simp only [List.setIfInBounds_toArray, List.set_cons_zero, List.set_cons_succ]
      refine Disk.z_take 4 111 (v := .slice (some ⟨g1, 0, none⟩) 3200 d1) rfl rfl (by kernel_rfl) (by kernel_rfl) (by kernel_rfl) (by kernel_rfl) (by rfl) hs (fun W' hSw => (by go_simp; first | done | with_reducible rfl | simp [b1, b2, b5, b6, le1, le2, t1, t2, t3, t4, e1, e2])) ?_
      simp only [List.setIfInBounds_toArray, List.set_cons_zero, List.set_cons_succ]
      refine Disk.z_take 5 112 (v := .int .i64 (s.old : Int)) rfl rfl (by kernel_rfl) (by kernel_rfl) (by kernel_rfl) (by kernel_rfl) (by rfl) hs (fun W' hSw => (by go_simp; first | done | with_reducible rfl | simp [b1, b2, b5, b6, le1, le2, t1, t2, t3, t4, e1, e2])) ?_
      simp only [List.setIfInBounds_toArray, List.set_cons_zero, List.set_cons_succ]
      refine Disk.z_take 6 113 (v := .int .i64 (s.old : Int)) rfl rfl (by kernel_rfl) (by kernel_rfl) (by kernel_rfl) (by kernel_rfl) (by rfl) hs (fun W' hSw => (by go_simp; first | done | with_reducible rfl | simp [b1, b2, b5, b6, le1, le2, t1, t2, t3, t4, e1, e2])) ?_
      simp only [List.setIfInBounds_toArray, List.set_cons_zero, List.set_cons_succ]
      refine Disk.z_take 7 114 (v := .int .i64 (4 + (n : Int))) rfl rfl (by kernel_rfl) (by kernel_rfl) (by kernel_rfl) (by kernel_rfl) (by rfl) hs (fun W' hSw => (by go_simp; first | done | with_reducible rfl | simp [b1, b2, b5, b6, le1, le2, t1, t2, t3, t4, e1, e2])) ?_
      simp only [List.setIfInBounds_toArray, List.set_cons_zero, List.set_cons_succ]
      refine Disk.z_take 8 115 (v := .int .i64 ((s.old : Int) + (4 + (n : Int)))) rfl rfl (by kernel_rfl) (by kernel_rfl) (by kernel_rfl) (by kernel_rfl) (by rfl) hs (fun W' hSw => (by go_simp; first | done | with_reducible rfl | simp [b1, b2, b5, b6, le1, le2, t1, t2, t3, t4, e1, e2])) ?_
      simp only [List.setIfInBounds_toArray, List.set_cons_zero, List.set_cons_succ]
      refine Disk.z_take 9 116 (v := .slice (some ⟨g1, s.old, none⟩) (4 + n) (d1 - s.old)) rfl rfl (by kernel_rfl) (by kernel_rfl) (by kernel_rfl) (by kernel_rfl) (by rfl) hs (fun W' hSw => (by go_simp; first | done | with_reducible rfl | simp [b1, b2, b5, b6, le1, le2, t1, t2, t3, t4, e1, e2])) ?_
      simp only [List.setIfInBounds_toArray, List.set_cons_zero, List.set_cons_succ]
      refine Disk.z_take 10 117 (v := .pointer (some ⟨K, 0, none⟩)) rfl rfl (by kernel_rfl) (by kernel_rfl) (by kernel_rfl) (by kernel_rfl) (by rfl) hs (fun W' hSw => (by go_simp; first | done | with_reducible rfl | simp [b1, b2, b5, b6, le1, le2, t1, t2, t3, t4, e1, e2])) ?_
      simp only [List.setIfInBounds_toArray, List.set_cons_zero, List.set_cons_succ]
      refine Disk.z_take 11 118 (v := .pointer (some ⟨K, 0, none⟩)) rfl rfl (by kernel_rfl) (by kernel_rfl) (by kernel_rfl) (by kernel_rfl) (by rfl) hs (fun W' hSw => (by go_simp; first | done | with_reducible rfl | simp [b1, b2, b5, b6, le1, le2, t1, t2, t3, t4, e1, e2])) ?_
      simp only [List.setIfInBounds_toArray, List.set_cons_zero, List.set_cons_succ]
      refine Disk.z_take 12 119 (v := .pointer (some ⟨K, 0, none⟩)) rfl rfl (by kernel_rfl) (by kernel_rfl) (by kernel_rfl) (by kernel_rfl) (by rfl) hs (fun W' hSw => (by go_simp; first | done | with_reducible rfl | simp [b1, b2, b5, b6, le1, le2, t1, t2, t3, t4, e1, e2])) ?_
      simp only [List.setIfInBounds_toArray, List.set_cons_zero, List.set_cons_succ]
      refine Disk.z_take 13 120 (v := .pointer (some ⟨K, 0, none⟩)) rfl rfl (by kernel_rfl) (by kernel_rfl) (by kernel_rfl) (by kernel_rfl) (by rfl) hs (fun W' hSw => (by go_simp; first | done | with_reducible rfl | simp [b1, b2, b5, b6, le1, le2, t1, t2, t3, t4, e1, e2])) ?_
      simp only [List.setIfInBounds_toArray, List.set_cons_zero, List.set_cons_succ]
      refine Disk.z_take 14 121 (v := .slice (some ⟨g1, 0, none⟩) 3200 d1) rfl rfl (by kernel_rfl) (by kernel_rfl) (by kernel_rfl) (by kernel_rfl) (by rfl) hs (fun W' hSw => (by go_simp; first | done | with_reducible rfl | simp [b1, b2, b5, b6, le1, le2, t1, t2, t3, t4, e1, e2])) ?_
      simp only [List.setIfInBounds_toArray, List.set_cons_zero, List.set_cons_succ]
      refine Disk.z_take 15 122 (v := .int .i64 (a : Int)) rfl rfl (by kernel_rfl) (by kernel_rfl) (by kernel_rfl) (by kernel_rfl) (by rfl) hs (fun W' hSw => (by go_simp; first | done | with_reducible rfl | simp [b1, b2, b5, b6, le1, le2, t1, t2, t3, t4, e1, e2])) ?_
      simp only [List.setIfInBounds_toArray, List.set_cons_zero, List.set_cons_succ]
      refine Disk.z_take 16 123 (v := .int .i64 (a : Int)) rfl rfl (by kernel_rfl) (by kernel_rfl) (by kernel_rfl) (by kernel_rfl) (by rfl) hs (fun W' hSw => (by go_simp; first | done | with_reducible rfl | simp [b1, b2, b5, b6, le1, le2, t1, t2, t3, t4, e1, e2])) ?_
      simp only [List.setIfInBounds_toArray, List.set_cons_zero, List.set_cons_succ]
      refine Disk.z_take 17 124 (v := .int .i64 (4 + (n : Int))) rfl rfl (by kernel_rfl) (by kernel_rfl) (by kernel_rfl) (by kernel_rfl) (by rfl) hs (fun W' hSw => (by go_simp; first | done | with_reducible rfl | simp [b1, b2, b5, b6, le1, le2, t1, t2, t3, t4, e1, e2])) ?_
      simp only [List.setIfInBounds_toArray, List.set_cons_zero, List.set_cons_succ]
      refine Disk.z_take 18 125 (v := .int .i64 ((a : Int) + (4 + (n : Int)))) rfl rfl (by kernel_rfl) (by kernel_rfl) (by kernel_rfl) (by kernel_rfl) (by rfl) hs (fun W' hSw => (by go_simp; first | done | with_reducible rfl | simp [b1, b2, b5, b6, le1, le2, t1, t2, t3, t4, e1, e2])) ?_
      simp only [List.setIfInBounds_toArray, List.set_cons_zero, List.set_cons_succ]
      refine Disk.z_take 19 126 (v := .slice (some ⟨g1, a, none⟩) (4 + n) (d1 - a)) rfl rfl (by kernel_rfl) (by kernel_rfl) (by kernel_rfl) (by kernel_rfl) (by rfl) hs (fun W' hSw => (by go_simp; first | done | with_reducible rfl | simp [b1, b2, b5, b6, le1, le2, t1, t2, t3, t4, e1, e2])) ?_
      simp only [List.setIfInBounds_toArray, List.set_cons_zero, List.set_cons_succ]
      refine Disk.z_run 20 127 (w' := w3) (v := goInt ((4 + n : Nat) : Int)) rfl rfl (by kernel_rfl) (by rfl) (exec_copyR _ _ rfl _ _ rfl rfl run3) (.inr h0) ?_
      simp only [List.setIfInBounds_toArray, List.set_cons_zero, List.set_cons_succ]
      refine Disk.z_done (by kernel_rfl) ?_ _
      clear hs run3
      have Ls : (splice s.W s.old ((s.W.drop a).take (4 + n))).length = 3200 := by rw [length_splice _ _ _ (by rw [← sl.out, Wl]; exact dn), Wl]
      have G3' := Grew.grown G3
      have R23 := R2.grown G3 (by intro e; cases e; exact k.d12 rfl)
      have RT3 := RT.grown G3 (by intro e; cases e; exact k.d1t rfl)
      have RQ3 := G3'.own RQ (fun b hb e => by have := own_low RQ hb; cases e; have := k.n1; omega)
      have HZ : Hid (mvW s.W s.old a = (splice s.W s.old ((s.W.drop a).take (4 + n))).set (s.old + 3) age) := HM.out s.old
      generalize splice s.W s.old ((s.W.drop a).take (4 + n)) = Z at *
      have c3 := R3.cell (i := s.old + 3) (by rw [Ls]; omega)
      have f3 := fun i => R3.frozen i
      have ct3 := RT3.cell (i := a) (by rw [ints_length, S.wlen]; omega)
      have ft3 := fun i => RT3.frozen i
      have h10 : w3.cell? ⟨K, 10, none⟩ = some (.slice (some ⟨gt, 0, none⟩) 3200 3200) := RK3.cell (i := 10) (by omega)
      have h11 : w3.cell? ⟨K, 11, none⟩ = some qv := RK3.cell (i := 11) (by omega)
      generalize Z.getD (s.old + 3) 0 = z3 at *
      generalize (ints s.went).getD a 0 = z4 at *
      have P1 := (R3.set (s.old + 3) age).setOther (b := gt) (i := a) k.d1t (.int .i64 ((s.old : Int) + 1))
      have P2 := (R23.setOther (b := g1) (i := s.old + 3) (fun e => k.d12 e.symm) (.int .i64 age)).setOther (b := gt) (i := a) k.d2t (.int .i64 ((s.old : Int) + 1))
      have PT := (RT3.setOther (b := g1) (i := s.old + 3) (fun e => k.d1t e.symm) (.int .i64 age)).set a ((s.old : Int) + 1)
      have PK := (RK3.setOther (a := ⟨g1, s.old + 3, none⟩) (by show K ≠ g1; have := k.n1; omega) (.int .i64 age)).setOther (a := ⟨gt, a, none⟩) (by show K ≠ gt; have := k.nt; omega) (.int .i64 ((s.old : Int) + 1))
      have G4 : Grew w3 ((w3.setCell ⟨g1, s.old + 3, none⟩ (.int .i64 age)).setCell ⟨gt, a, none⟩ (.int .i64 ((s.old : Int) + 1))) (fun b => b = g1 ∨ b = gt) := ((Grew.set w3 g1 (s.old + 3) (.int .i64 age)).mono (fun b _ e => .inl e)).trans ((Grew.set _ gt a (.int .i64 ((s.old : Int) + 1))).mono (fun b _ e => .inr e))
      have PQ := G4.own RQ3 (fun b hb e => by have := own_low RQ3 hb; have := k.n1; have := k.nt; omega)
      have al := bel_one ((w3.setCell ⟨g1, s.old + 3, none⟩ (.int .i64 age)).setCell ⟨gt, a, none⟩ (.int .i64 ((s.old : Int) + 1))) (.cells #[.int .i64 (s.old : Int)] 2)
      have PQ5 := own_later PQ al
      have K5 : K + 1 ≤ (((w3.setCell ⟨g1, s.old + 3, none⟩ (.int .i64 age)).setCell ⟨gt, a, none⟩ (.int .i64 ((s.old : Int) + 1))).alloc (.cells #[.int .i64 (s.old : Int)] 2)).heap.size := by have := PK.lt; simp at this ⊢; omega
      have cd : (((w3.setCell ⟨g1, s.old + 3, none⟩ (.int .i64 age)).setCell ⟨gt, a, none⟩ (.int .i64 ((s.old : Int) + 1))).alloc (.cells #[.int .i64 (s.old : Int)] 2)).cell? ⟨((w3.setCell ⟨g1, s.old + 3, none⟩ (.int .i64 age)).setCell ⟨gt, a, none⟩ (.int .i64 ((s.old : Int) + 1))).heap.size, 0, none⟩ = some (.int .i64 (s.old : Int)) := cell_new ((w3.setCell ⟨g1, s.old + 3, none⟩ (.int .i64 age)).setCell ⟨gt, a, none⟩ (.int .i64 ((s.old : Int) + 1))) _ _ _ rfl 0 _ rfl
      have sz4 : ((w3.setCell ⟨g1, s.old + 3, none⟩ (.int .i64 age)).setCell ⟨gt, a, none⟩ (.int .i64 ((s.old : Int) + 1))).heap.size = w3.heap.size := by simp
      rw [sz4] at cd
      have ql : s.q.length ≤ 1000000000000 := by have := S.qlen; have := S.old1; have := S.to1; have := tb_two h; omega
      have dd3 : s.old + 3 < 3200 := by omega
      have d3i : (s.old : Int) + 3 < 3200 := by omega
      have d3n : (0 : Int) ≤ (s.old : Int) + 3 := by omega
      have nK1 : ¬ K = g1 := by have := k.n1; omega
      have nK2 : ¬ g1 = K := by have := k.n1; omega
      have nT1 : ¬ K = gt := by have := k.nt; omega
      have nT2 : ¬ gt = K := by have := k.nt; omega
      have nG1 : ¬ g1 = gt := k.d1t
      have nG2 : ¬ gt = g1 := fun e => k.d1t e.symm
      have K5' := PK.of_block (al.block _ PK.lt)
      have m11 : (((w3.setCell ⟨g1, s.old + 3, none⟩ (.int .i64 age)).setCell ⟨gt, a, none⟩ (.int .i64 ((s.old : Int) + 1))).alloc (.cells #[.int .i64 (s.old : Int)] 2)).cell? ⟨K, 11, none⟩ = some qv := K5'.cell (i := 11) (by omega)
      go_wp2_with (at_builtin; refine app_int _ rfl _ _ rfl (K + 1) qv s.q.length (icells (ints s.q)) rfl PQ5 w3.heap.size 1 (s.old : Int) rfl cd ql K5 ?_; intro v' w6 o6 g6; obtain ⟨ao6, cp6, e6⟩ := own_shape o6; subst e6; have K6 := K5'.of_block (g6.block _ K5'.lt (by intro e; have := own_low PQ5 e.symm; omega)); have fK6 := fun i => K6.frozen i; have lt6 := K6.lt; have u11 : w6.cell? ⟨K, 11, none⟩ = some qv := K6.cell (i := 11) (by omega))
      have KF := K6.set 11 (.slice ao6 (s.q.length + 1) cp6)
      have nq6 : ∀ b, qv.ownBlock = some b → K + 1 ≤ b := fun b e => own_low PQ5 e
      have F1 := ((P1.later al).grown g6 (by intro e; have := nq6 _ e.symm; have := k.n1; omega)).setOther (b := K) (i := 11) nK2 (.slice ao6 (s.q.length + 1) cp6)
      have F2 := ((P2.later al).grown g6 (by intro e; have := nq6 _ e.symm; have := k.n2; omega)).setOther (b := K) (i := 11) (by have := k.n2; omega) (.slice ao6 (s.q.length + 1) cp6)
      have FT := ((PT.later al).grown g6 (by intro e; have := nq6 _ e.symm; have := k.nt; omega)).setOther (b := K) (i := 11) nT2 (.slice ao6 (s.q.length + 1) cp6)
      have G6 := Grew.set w6 K 11 (.slice ao6 (s.q.length + 1) cp6)
      have FQ := G6.own o6 (fun b hb e => by have := own_low o6 hb; omega)
      have GF : Grew w (w6.setCell ⟨K, 11, none⟩ (.slice ao6 (s.q.length + 1) cp6)) (fun b => b = K ∨ b = g1 ∨ b = gt ∨ K < b) :=
        (((((Gq.trans (G1.mono (fun b _ e => .inl e))).trans (G3'.mono (fun b _ e => .inr (.inl (Option.some.inj e).symm)))).trans (G4.mono (fun b _ e => e.elim (fun e => .inr (.inl e)) (fun e => .inr (.inr (.inl e)))))).trans (Grew.new al _)).trans ((Grew.grown g6).mono (fun b _ e => .inr (.inr (.inr (by have := nq6 b e; omega)))))).trans (G6.mono (fun b _ e => .inl e))
      have KE : KW h (w6.setCell ⟨K, 11, none⟩ (.slice ao6 (s.q.length + 1) cp6)) K g1 g2 g3 gt d1 d2 d3 (.slice ao6 (s.q.length + 1) cp6) rl (mvTo s a s.old (s.old + (4 + n)) s.to) := by
        refine ⟨row_congr KF (fun i hi => match i, hi with | 0, _ => rfl | 1, _ => rfl | 2, _ => rfl | 3, _ => rfl | 4, _ => rfl | 5, _ => rfl | 6, _ => rfl | 7, _ => rfl | 8, _ => rfl | 9, _ => rfl | 10, _ => rfl | 11, _ => rfl | 12, _ => rfl), ?_, F2, ?_, ?_, k.n1, k.n2, k.nt, k.d12, k.d1t, k.d2t⟩
        · show RI _ g1 (mvW s.W s.old a) d1
          rw [HZ.out]
          exact F1
        · show RI _ gt (ints (s.went.set a (s.old + 1))) 3200
          rw [show ints (s.went.set a (s.old + 1)) = (ints s.went).set a ((s.old : Int) + 1) from by unfold ints; rw [List.map_set]; rfl]
          exact FT
        · show (w6.setCell ⟨K, 11, none⟩ (.slice ao6 (s.q.length + 1) cp6)).ownsRow (K + 1) 2 1 (.slice ao6 (s.q.length + 1) cp6) (s.q ++ [s.old]).length (icells (ints (s.q ++ [s.old])))
          rw [show (s.q ++ [s.old]).length = s.q.length + 1 from by simp, show icells (ints (s.q ++ [s.old])) = icells (ints s.q) ++ [.int .i64 (s.old : Int)] from by simp [icells, ints]]
          exact FQ
      go_ret
      rw [MV1.out, if_neg hr]
      exact ⟨⟨_, rfl, KE⟩, GF⟩
  · have h3b : decide (3 ≤ age) = false := decide_eq_false h3
    by_cases hrm : tb h + 300 < s.to + (4 + n)
    · have hrmi : (tb h : Int) + 300 < (s.to : Int) + (4 + (n : Int)) := by omega
      have MV1 : Hid (mv (tb h + 300) s x = (if 2000 < s.old + (4 + n) then ({ s with full := true }, x) else (mvTo s a s.old (s.old + (4 + n)) s.to, 2 * (s.old : Int) + 1))) := (by rw [MV0.out, if_pos (.inr hrm)] : _ = _)
      clear MV0
      go_enter Tryz.func126, Tryz.ntmps126
      go_wp2_with (first | (go_at_call 60; refine (Y _).mono ?_; rintro e wq ⟨rfl, hq⟩; obtain rfl := hq.symm) | (go_at_call 135; refine (MI _).mono ?_; rintro e wq ⟨rfl, hq⟩; obtain rfl := hq.symm))
      go_quiet (fail)
      have hbq := below_drewN (Below.refl w.heap.size w) nq
      have kq := k.low hbq
      have Gq := Grew.new hbq (fun b => b = K ∨ b = g1 ∨ b = gt ∨ K < b)
      generalize w.drewN nq = wq at *
      have q0 : wq.cell? ⟨K, 0, none⟩ = some (.slice (some ⟨g1, 0, none⟩) 3200 d1) := kq.row.cell (i := 0) (by omega)
      have q1 : wq.cell? ⟨K, 1, none⟩ = some (.slice (some ⟨g2, 0, none⟩) h.roots.length d2) := kq.row.cell (i := 1) (by omega)
      have q2 : wq.cell? ⟨K, 2, none⟩ = some (.int .i64 (s.old : Int)) := kq.row.cell (i := 2) (by omega)
      have q3 : wq.cell? ⟨K, 3, none⟩ = some (.int .i64 h.eden) := kq.row.cell (i := 3) (by omega)
      have q4 : wq.cell? ⟨K, 4, none⟩ = some (.int .i64 h.surv) := kq.row.cell (i := 4) (by omega)
      have q5 : wq.cell? ⟨K, 5, none⟩ = some (.bool h.flip) := kq.row.cell (i := 5) (by omega)
      have q6 : wq.cell? ⟨K, 6, none⟩ = some (.int .i64 h.hash) := kq.row.cell (i := 6) (by omega)
      have q7 : wq.cell? ⟨K, 7, none⟩ = some (.slice (some ⟨g3, 0, none⟩) h.kept.length d3) := kq.row.cell (i := 7) (by omega)
      have q8 : wq.cell? ⟨K, 8, none⟩ = some (.int .i64 (s.to : Int)) := kq.row.cell (i := 8) (by omega)
      have q9 : wq.cell? ⟨K, 9, none⟩ = some (.int .i64 ((tb h : Int) + 300)) := kq.row.cell (i := 9) (by omega)
      have q10 : wq.cell? ⟨K, 10, none⟩ = some (.slice (some ⟨gt, 0, none⟩) 3200 3200) := kq.row.cell (i := 10) (by omega)
      have q11 : wq.cell? ⟨K, 11, none⟩ = some (qv) := kq.row.cell (i := 11) (by omega)
      have q12 : wq.cell? ⟨K, 12, none⟩ = some (.bool s.full) := kq.row.cell (i := 12) (by omega)
      have fq := fun i => kq.row.frozen i
      clear k0 k1 k2 k3 k4 k5 k6 k7 k8 k9 k10 k11 k12
      by_cases hr : 2000 < s.old + (4 + n)
      · have hri : (2000 : Int) < (s.old : Int) + (4 + (n : Int)) := by omega
        have RK := kq.row.set 12 (.bool true)
        have G1 := Grew.set wq K 12 (.bool true)
        have KF : KW h (wq.setCell ⟨K, 12, none⟩ (.bool true)) K g1 g2 g3 gt d1 d2 d3 qv rl { s with full := true } := ⟨row_congr RK (fun i hi => match i, hi with | 0, _ => rfl | 1, _ => rfl | 2, _ => rfl | 3, _ => rfl | 4, _ => rfl | 5, _ => rfl | 6, _ => rfl | 7, _ => rfl | 8, _ => rfl | 9, _ => rfl | 10, _ => rfl | 11, _ => rfl | 12, _ => rfl), kq.r1.setOther (by have := k.n1; omega) _, kq.r2.setOther (by have := k.n2; omega) _, kq.rt.setOther (by have := k.nt; omega) _, G1.own kq.rq (fun b hb e => by have := own_low kq.rq hb; omega), k.n1, k.n2, k.nt, k.d12, k.d1t, k.d2t⟩
        go_wp2
        go_ret
        rw [MV1.out, if_pos hr]
        exact ⟨⟨qv, rfl, KF⟩, Gq.trans (G1.mono (fun b _ e => .inl e))⟩
      · have hri : ¬ (2000 : Int) < (s.old : Int) + (4 + (n : Int)) := by omega
        have MK := mvTo_keep R S ha y2 s.old (s.old + (4 + n)) s.to (.inl ⟨rfl, by rw [hsn.out], rfl, by omega⟩)
        have dn : s.old + (4 + n) ≤ 3200 := by have := S.old1; have := S.to1; have := tb_two h; omega
        have dfr : ¬ (a < s.old + (4 + n) ∧ s.old < a + (4 + n)) := by
          have f1 := frm_not (young_area R ha y2 (Nat.le_refl a) (by rw [nxe.out]; omega))
          have f2 := frm_not (young_area R ha y2 (j := a + 3 + n) (by omega) (by rw [nxe.out, HN.out]; show a + 3 + n < a + 4 + n; omega))
          have := S.old1; have := S.to1; have := S.to0; have := tb_two h
          omega
        have ld1 : 3200 ≤ d1 := by have := k.r1.le; rw [S.len] at this; exact this
        have R1 := kq.r1.setOther (b := K) (i := 2) (by have := k.n1; omega) (.int .i64 ((s.old : Int) + (4 + (n : Int))))
        have R2 := kq.r2.setOther (b := K) (i := 2) (by have := k.n2; omega) (.int .i64 ((s.old : Int) + (4 + (n : Int))))
        have RT := kq.rt.setOther (b := K) (i := 2) (by have := k.nt; omega) (.int .i64 ((s.old : Int) + (4 + (n : Int))))
        have RK := kq.row.set 2 (.int .i64 ((s.old : Int) + (4 + (n : Int))))
        have G1 := Grew.set wq K 2 (.int .i64 ((s.old : Int) + (4 + (n : Int))))
        have RQ := G1.own kq.rq (fun b hb e => by have := own_low kq.rq hb; omega)
        have IS : IR (wq.setCell ⟨K, 2, none⟩ (.int .i64 ((s.old : Int) + (4 + (n : Int))))) (.slice (some ⟨g1, a, none⟩) (4 + n) (d1 - a)) ((s.W.drop a).take (4 + n)) := R1.mid (by rw [S.len]; omega) (by omega)
        have sl : Hid (4 + n = ((s.W.drop a).take (4 + n)).length) := by show _ = _; rw [List.length_take, List.length_drop, S.len]; omega
        have kc0 : (wq.setCell ⟨K, 2, none⟩ (.int .i64 ((s.old : Int) + (4 + (n : Int))))).cell? ⟨K, 0, none⟩ = some (.slice (some ⟨g1, 0, none⟩) 3200 d1) := RK.cell (i := 0) (by omega)
        have b1 : (s.old : Int) + (4 + (n : Int)) ≤ d1 := by omega
        have b2 : (a : Int) + (4 + (n : Int)) ≤ d1 := by omega
        have b3 : (s.old : Int) ≤ (s.old : Int) + (4 + (n : Int)) := by omega
        have b4 : (a : Int) ≤ (a : Int) + (4 + (n : Int)) := by omega
        have b5 : (0 : Int) ≤ (s.old : Int) + (4 + (n : Int)) := by omega
        have b6 : (0 : Int) ≤ (a : Int) + (4 + (n : Int)) := by omega
        have wr1 : IntKind.i64.wrap ((s.old : Int) + (4 + (n : Int))) = (s.old : Int) + (4 + (n : Int)) := by rw [IntKind.wrap_i64]; omega
        have wr2 : IntKind.i64.wrap ((a : Int) + (4 + (n : Int))) = (a : Int) + (4 + (n : Int)) := by rw [IntKind.wrap_i64]; omega
        have le1 : s.old ≤ s.old + (4 + n) := by omega
        have le2 : a ≤ a + (4 + n) := by omega
        have t1 : ((s.old : Int) + (4 + (n : Int))).toNat = s.old + (4 + n) := by omega
        have t2 : ((a : Int) + (4 + (n : Int))).toNat = a + (4 + n) := by omega
        have t3 : s.old + (4 + n) - s.old = 4 + n := by omega
        have t4 : a + (4 + n) - a = 4 + n := by omega
        have e1 : ¬ d1 = s.old := by omega
        have e2 : ¬ d1 = a := by omega
        have kn' : K < (wq.setCell ⟨K, 2, none⟩ (.int .i64 ((s.old : Int) + (4 + (n : Int))))).heap.size := RK.lt
        have Wl := S.len
        go_wp2_with fail
        obtain ⟨w3, run3, R3, G3⟩ := run_copy_ints (wq.setCell ⟨K, 2, none⟩ (.int .i64 ((s.old : Int) + (4 + (n : Int))))).drew 3 g1 s.old (4 + n) (d1 - s.old) s.W d1 (R1.later (Below.refl _ _).drew) (by rw [Wl]; exact dn) ((s.W.drop a).take (4 + n)) (some ⟨g1, a, none⟩) (d1 - a) (by rw [← sl.out]; exact IS.later (Below.refl _ _).drew) (by rw [← sl.out]; exact Nat.le_refl _)
        rw [← sl.out] at run3
        replace G3 : (wq.setCell ⟨K, 2, none⟩ (.int .i64 ((s.old : Int) + (4 + (n : Int))))).grownBy w3 (some g1) := ⟨G3.os, G3.tape, G3.output, G3.size, G3.block⟩
        have RK3 := RK.of_block (G3.block _ RK.lt (by intro e; cases e; have := k.n1; omega))
        have h0 : w3.cell? ⟨K, 0, none⟩ = some (.slice (some ⟨g1, 0, none⟩) 3200 d1) := RK3.cell (i := 0) (by omega)
        refine Disk.z_plain 99 (fun W' => W'.cell? ⟨K, 0, none⟩ = some (.slice (some ⟨g1, 0, none⟩) 3200 d1)) (by kernel_rfl) kc0 fun hs => ?_
        refine Disk.z_take 0 107 (v := .pointer (some ⟨K, 0, none⟩)) rfl rfl (by kernel_rfl) (by kernel_rfl) (by kernel_rfl) (by kernel_rfl) (by rfl) hs (fun W' hSw => (by go_simp; first | done | with_reducible rfl | simp [b1, b2, b5, b6, le1, le2, t1, t2, t3, t4, e1, e2])) ?_
        simp only [List.setIfInBounds_toArray, List.set_cons_zero, List.set_cons_succ]
        refine Disk.z_take 1 108 (v := .pointer (some ⟨K, 0, none⟩)) rfl rfl (by kernel_rfl) (by kernel_rfl) (by kernel_rfl) (by kernel_rfl) (by rfl) hs (fun W' hSw => (by go_simp; first | done | with_reducible rfl | simp [b1, b2, b5, b6, le1, le2, t1, t2, t3, t4, e1, e2])) ?_
        simp only [List.setIfInBounds_toArray, List.set_cons_zero, List.set_cons_succ]
        refine Disk.z_take 2 109 (v := .pointer (some ⟨K, 0, none⟩)) rfl rfl (by kernel_rfl) (by kernel_rfl) (by kernel_rfl) (by kernel_rfl) (by rfl) hs (fun W' hSw => (by go_simp; first | done | with_reducible rfl | simp [b1, b2, b5, b6, le1, le2, t1, t2, t3, t4, e1, e2])) ?_
        simp only [List.setIfInBounds_toArray, List.set_cons_zero, List.set_cons_succ]
        refine Disk.z_take 3 110 (v := .pointer (some ⟨K, 0, none⟩)) rfl rfl (by kernel_rfl) (by kernel_rfl) (by kernel_rfl) (by kernel_rfl) (by rfl) hs (fun W' hSw => (by go_simp; first | done | with_reducible rfl | simp [b1, b2, b5, b6, le1, le2, t1, t2, t3, t4, e1, e2])) ?_
        simp only [List.setIfInBounds_toArray, List.set_cons_zero, List.set_cons_succ]
        refine Disk.z_take 4 111 (v := .slice (some ⟨g1, 0, none⟩) 3200 d1) rfl rfl (by kernel_rfl) (by kernel_rfl) (by kernel_rfl) (by kernel_rfl) (by rfl) hs (fun W' hSw => (by go_simp; first | done | with_reducible rfl | simp [b1, b2, b5, b6, le1, le2, t1, t2, t3, t4, e1, e2])) ?_
        simp only [List.setIfInBounds_toArray, List.set_cons_zero, List.set_cons_succ]
        refine Disk.z_take 5 112 (v := .int .i64 (s.old : Int)) rfl rfl (by kernel_rfl) (by kernel_rfl) (by kernel_rfl) (by kernel_rfl) (by rfl) hs (fun W' hSw => (by go_simp; first | done | with_reducible rfl | simp [b1, b2, b5, b6, le1, le2, t1, t2, t3, t4, e1, e2])) ?_
        simp only [List.setIfInBounds_toArray, List.set_cons_zero, List.set_cons_succ]
        refine Disk.z_take 6 113 (v := .int .i64 (s.old : Int)) rfl rfl (by kernel_rfl) (by kernel_rfl) (by kernel_rfl) (by kernel_rfl) (by rfl) hs (fun W' hSw => (by go_simp; first | done | with_reducible rfl | simp [b1, b2, b5, b6, le1, le2, t1, t2, t3, t4, e1, e2])) ?_
        simp only [List.setIfInBounds_toArray, List.set_cons_zero, List.set_cons_succ]
        refine Disk.z_take 7 114 (v := .int .i64 (4 + (n : Int))) rfl rfl (by kernel_rfl) (by kernel_rfl) (by kernel_rfl) (by kernel_rfl) (by rfl) hs (fun W' hSw => (by go_simp; first | done | with_reducible rfl | simp [b1, b2, b5, b6, le1, le2, t1, t2, t3, t4, e1, e2])) ?_
        simp only [List.setIfInBounds_toArray, List.set_cons_zero, List.set_cons_succ]
        refine Disk.z_take 8 115 (v := .int .i64 ((s.old : Int) + (4 + (n : Int)))) rfl rfl (by kernel_rfl) (by kernel_rfl) (by kernel_rfl) (by kernel_rfl) (by rfl) hs (fun W' hSw => (by go_simp; first | done | with_reducible rfl | simp [b1, b2, b5, b6, le1, le2, t1, t2, t3, t4, e1, e2])) ?_
        simp only [List.setIfInBounds_toArray, List.set_cons_zero, List.set_cons_succ]
        refine Disk.z_take 9 116 (v := .slice (some ⟨g1, s.old, none⟩) (4 + n) (d1 - s.old)) rfl rfl (by kernel_rfl) (by kernel_rfl) (by kernel_rfl) (by kernel_rfl) (by rfl) hs (fun W' hSw => (by go_simp; first | done | with_reducible rfl | simp [b1, b2, b5, b6, le1, le2, t1, t2, t3, t4, e1, e2])) ?_
        simp only [List.setIfInBounds_toArray, List.set_cons_zero, List.set_cons_succ]
        refine Disk.z_take 10 117 (v := .pointer (some ⟨K, 0, none⟩)) rfl rfl (by kernel_rfl) (by kernel_rfl) (by kernel_rfl) (by kernel_rfl) (by rfl) hs (fun W' hSw => (by go_simp; first | done | with_reducible rfl | simp [b1, b2, b5, b6, le1, le2, t1, t2, t3, t4, e1, e2])) ?_
        simp only [List.setIfInBounds_toArray, List.set_cons_zero, List.set_cons_succ]
        refine Disk.z_take 11 118 (v := .pointer (some ⟨K, 0, none⟩)) rfl rfl (by kernel_rfl) (by kernel_rfl) (by kernel_rfl) (by kernel_rfl) (by rfl) hs (fun W' hSw => (by go_simp; first | done | with_reducible rfl | simp [b1, b2, b5, b6, le1, le2, t1, t2, t3, t4, e1, e2])) ?_
        simp only [List.setIfInBounds_toArray, List.set_cons_zero, List.set_cons_succ]
        refine Disk.z_take 12 119 (v := .pointer (some ⟨K, 0, none⟩)) rfl rfl (by kernel_rfl) (by kernel_rfl) (by kernel_rfl) (by kernel_rfl) (by rfl) hs (fun W' hSw => (by go_simp; first | done | with_reducible rfl | simp [b1, b2, b5, b6, le1, le2, t1, t2, t3, t4, e1, e2])) ?_
        simp only [List.setIfInBounds_toArray, List.set_cons_zero, List.set_cons_succ]
        refine Disk.z_take 13 120 (v := .pointer (some ⟨K, 0, none⟩)) rfl rfl (by kernel_rfl) (by kernel_rfl) (by kernel_rfl) (by kernel_rfl) (by rfl) hs (fun W' hSw => (by go_simp; first | done | with_reducible rfl | simp [b1, b2, b5, b6, le1, le2, t1, t2, t3, t4, e1, e2])) ?_
        simp only [List.setIfInBounds_toArray, List.set_cons_zero, List.set_cons_succ]
        refine Disk.z_take 14 121 (v := .slice (some ⟨g1, 0, none⟩) 3200 d1) rfl rfl (by kernel_rfl) (by kernel_rfl) (by kernel_rfl) (by kernel_rfl) (by rfl) hs (fun W' hSw => (by go_simp; first | done | with_reducible rfl | simp [b1, b2, b5, b6, le1, le2, t1, t2, t3, t4, e1, e2])) ?_
        simp only [List.setIfInBounds_toArray, List.set_cons_zero, List.set_cons_succ]
        refine Disk.z_take 15 122 (v := .int .i64 (a : Int)) rfl rfl (by kernel_rfl) (by kernel_rfl) (by kernel_rfl) (by kernel_rfl) (by rfl) hs (fun W' hSw => (by go_simp; first | done | with_reducible rfl | simp [b1, b2, b5, b6, le1, le2, t1, t2, t3, t4, e1, e2])) ?_
        simp only [List.setIfInBounds_toArray, List.set_cons_zero, List.set_cons_succ]
        refine Disk.z_take 16 123 (v := .int .i64 (a : Int)) rfl rfl (by kernel_rfl) (by kernel_rfl) (by kernel_rfl) (by kernel_rfl) (by rfl) hs (fun W' hSw => (by go_simp; first | done | with_reducible rfl | simp [b1, b2, b5, b6, le1, le2, t1, t2, t3, t4, e1, e2])) ?_
        simp only [List.setIfInBounds_toArray, List.set_cons_zero, List.set_cons_succ]
        refine Disk.z_take 17 124 (v := .int .i64 (4 + (n : Int))) rfl rfl (by kernel_rfl) (by kernel_rfl) (by kernel_rfl) (by kernel_rfl) (by rfl) hs (fun W' hSw => (by go_simp; first | done | with_reducible rfl | simp [b1, b2, b5, b6, le1, le2, t1, t2, t3, t4, e1, e2])) ?_
        simp only [List.setIfInBounds_toArray, List.set_cons_zero, List.set_cons_succ]
        refine Disk.z_take 18 125 (v := .int .i64 ((a : Int) + (4 + (n : Int)))) rfl rfl (by kernel_rfl) (by kernel_rfl) (by kernel_rfl) (by kernel_rfl) (by rfl) hs (fun W' hSw => (by go_simp; first | done | with_reducible rfl | simp [b1, b2, b5, b6, le1, le2, t1, t2, t3, t4, e1, e2])) ?_
        simp only [List.setIfInBounds_toArray, List.set_cons_zero, List.set_cons_succ]
        refine Disk.z_take 19 126 (v := .slice (some ⟨g1, a, none⟩) (4 + n) (d1 - a)) rfl rfl (by kernel_rfl) (by kernel_rfl) (by kernel_rfl) (by kernel_rfl) (by rfl) hs (fun W' hSw => (by go_simp; first | done | with_reducible rfl | simp [b1, b2, b5, b6, le1, le2, t1, t2, t3, t4, e1, e2])) ?_
        simp only [List.setIfInBounds_toArray, List.set_cons_zero, List.set_cons_succ]
        refine Disk.z_run 20 127 (w' := w3) (v := goInt ((4 + n : Nat) : Int)) rfl rfl (by kernel_rfl) (by rfl) (exec_copyR _ _ rfl _ _ rfl rfl run3) (.inr h0) ?_
        simp only [List.setIfInBounds_toArray, List.set_cons_zero, List.set_cons_succ]
        refine Disk.z_done (by kernel_rfl) ?_ _
        clear hs run3
        have Ls : (splice s.W s.old ((s.W.drop a).take (4 + n))).length = 3200 := by rw [length_splice _ _ _ (by rw [← sl.out, Wl]; exact dn), Wl]
        have G3' := Grew.grown G3
        have R23 := R2.grown G3 (by intro e; cases e; exact k.d12 rfl)
        have RT3 := RT.grown G3 (by intro e; cases e; exact k.d1t rfl)
        have RQ3 := G3'.own RQ (fun b hb e => by have := own_low RQ hb; cases e; have := k.n1; omega)
        have HZ : Hid (mvW s.W s.old a = (splice s.W s.old ((s.W.drop a).take (4 + n))).set (s.old + 3) age) := HM.out s.old
        generalize splice s.W s.old ((s.W.drop a).take (4 + n)) = Z at *
        have c3 := R3.cell (i := s.old + 3) (by rw [Ls]; omega)
        have f3 := fun i => R3.frozen i
        have ct3 := RT3.cell (i := a) (by rw [ints_length, S.wlen]; omega)
        have ft3 := fun i => RT3.frozen i
        have h10 : w3.cell? ⟨K, 10, none⟩ = some (.slice (some ⟨gt, 0, none⟩) 3200 3200) := RK3.cell (i := 10) (by omega)
        have h11 : w3.cell? ⟨K, 11, none⟩ = some qv := RK3.cell (i := 11) (by omega)
        generalize Z.getD (s.old + 3) 0 = z3 at *
        generalize (ints s.went).getD a 0 = z4 at *
        have P1 := (R3.set (s.old + 3) age).setOther (b := gt) (i := a) k.d1t (.int .i64 ((s.old : Int) + 1))
        have P2 := (R23.setOther (b := g1) (i := s.old + 3) (fun e => k.d12 e.symm) (.int .i64 age)).setOther (b := gt) (i := a) k.d2t (.int .i64 ((s.old : Int) + 1))
        have PT := (RT3.setOther (b := g1) (i := s.old + 3) (fun e => k.d1t e.symm) (.int .i64 age)).set a ((s.old : Int) + 1)
        have PK := (RK3.setOther (a := ⟨g1, s.old + 3, none⟩) (by show K ≠ g1; have := k.n1; omega) (.int .i64 age)).setOther (a := ⟨gt, a, none⟩) (by show K ≠ gt; have := k.nt; omega) (.int .i64 ((s.old : Int) + 1))
        have G4 : Grew w3 ((w3.setCell ⟨g1, s.old + 3, none⟩ (.int .i64 age)).setCell ⟨gt, a, none⟩ (.int .i64 ((s.old : Int) + 1))) (fun b => b = g1 ∨ b = gt) := ((Grew.set w3 g1 (s.old + 3) (.int .i64 age)).mono (fun b _ e => .inl e)).trans ((Grew.set _ gt a (.int .i64 ((s.old : Int) + 1))).mono (fun b _ e => .inr e))
        have PQ := G4.own RQ3 (fun b hb e => by have := own_low RQ3 hb; have := k.n1; have := k.nt; omega)
        have al := bel_one ((w3.setCell ⟨g1, s.old + 3, none⟩ (.int .i64 age)).setCell ⟨gt, a, none⟩ (.int .i64 ((s.old : Int) + 1))) (.cells #[.int .i64 (s.old : Int)] 2)
        have PQ5 := own_later PQ al
        have K5 : K + 1 ≤ (((w3.setCell ⟨g1, s.old + 3, none⟩ (.int .i64 age)).setCell ⟨gt, a, none⟩ (.int .i64 ((s.old : Int) + 1))).alloc (.cells #[.int .i64 (s.old : Int)] 2)).heap.size := by have := PK.lt; simp at this ⊢; omega
        have cd : (((w3.setCell ⟨g1, s.old + 3, none⟩ (.int .i64 age)).setCell ⟨gt, a, none⟩ (.int .i64 ((s.old : Int) + 1))).alloc (.cells #[.int .i64 (s.old : Int)] 2)).cell? ⟨((w3.setCell ⟨g1, s.old + 3, none⟩ (.int .i64 age)).setCell ⟨gt, a, none⟩ (.int .i64 ((s.old : Int) + 1))).heap.size, 0, none⟩ = some (.int .i64 (s.old : Int)) := cell_new ((w3.setCell ⟨g1, s.old + 3, none⟩ (.int .i64 age)).setCell ⟨gt, a, none⟩ (.int .i64 ((s.old : Int) + 1))) _ _ _ rfl 0 _ rfl
        have sz4 : ((w3.setCell ⟨g1, s.old + 3, none⟩ (.int .i64 age)).setCell ⟨gt, a, none⟩ (.int .i64 ((s.old : Int) + 1))).heap.size = w3.heap.size := by simp
        rw [sz4] at cd
        have ql : s.q.length ≤ 1000000000000 := by have := S.qlen; have := S.old1; have := S.to1; have := tb_two h; omega
        have dd3 : s.old + 3 < 3200 := by omega
        have d3i : (s.old : Int) + 3 < 3200 := by omega
        have d3n : (0 : Int) ≤ (s.old : Int) + 3 := by omega
        have nK1 : ¬ K = g1 := by have := k.n1; omega
        have nK2 : ¬ g1 = K := by have := k.n1; omega
        have nT1 : ¬ K = gt := by have := k.nt; omega
        have nT2 : ¬ gt = K := by have := k.nt; omega
        have nG1 : ¬ g1 = gt := k.d1t
        have nG2 : ¬ gt = g1 := fun e => k.d1t e.symm
        have K5' := PK.of_block (al.block _ PK.lt)
        have m11 : (((w3.setCell ⟨g1, s.old + 3, none⟩ (.int .i64 age)).setCell ⟨gt, a, none⟩ (.int .i64 ((s.old : Int) + 1))).alloc (.cells #[.int .i64 (s.old : Int)] 2)).cell? ⟨K, 11, none⟩ = some qv := K5'.cell (i := 11) (by omega)
        go_wp2_with (at_builtin; refine app_int _ rfl _ _ rfl (K + 1) qv s.q.length (icells (ints s.q)) rfl PQ5 w3.heap.size 1 (s.old : Int) rfl cd ql K5 ?_; intro v' w6 o6 g6; obtain ⟨ao6, cp6, e6⟩ := own_shape o6; subst e6; have K6 := K5'.of_block (g6.block _ K5'.lt (by intro e; have := own_low PQ5 e.symm; omega)); have fK6 := fun i => K6.frozen i; have lt6 := K6.lt; have u11 : w6.cell? ⟨K, 11, none⟩ = some qv := K6.cell (i := 11) (by omega))
        have KF := K6.set 11 (.slice ao6 (s.q.length + 1) cp6)
        have nq6 : ∀ b, qv.ownBlock = some b → K + 1 ≤ b := fun b e => own_low PQ5 e
        have F1 := ((P1.later al).grown g6 (by intro e; have := nq6 _ e.symm; have := k.n1; omega)).setOther (b := K) (i := 11) nK2 (.slice ao6 (s.q.length + 1) cp6)
        have F2 := ((P2.later al).grown g6 (by intro e; have := nq6 _ e.symm; have := k.n2; omega)).setOther (b := K) (i := 11) (by have := k.n2; omega) (.slice ao6 (s.q.length + 1) cp6)
        have FT := ((PT.later al).grown g6 (by intro e; have := nq6 _ e.symm; have := k.nt; omega)).setOther (b := K) (i := 11) nT2 (.slice ao6 (s.q.length + 1) cp6)
        have G6 := Grew.set w6 K 11 (.slice ao6 (s.q.length + 1) cp6)
        have FQ := G6.own o6 (fun b hb e => by have := own_low o6 hb; omega)
        have GF : Grew w (w6.setCell ⟨K, 11, none⟩ (.slice ao6 (s.q.length + 1) cp6)) (fun b => b = K ∨ b = g1 ∨ b = gt ∨ K < b) :=
          (((((Gq.trans (G1.mono (fun b _ e => .inl e))).trans (G3'.mono (fun b _ e => .inr (.inl (Option.some.inj e).symm)))).trans (G4.mono (fun b _ e => e.elim (fun e => .inr (.inl e)) (fun e => .inr (.inr (.inl e)))))).trans (Grew.new al _)).trans ((Grew.grown g6).mono (fun b _ e => .inr (.inr (.inr (by have := nq6 b e; omega)))))).trans (G6.mono (fun b _ e => .inl e))
        have KE : KW h (w6.setCell ⟨K, 11, none⟩ (.slice ao6 (s.q.length + 1) cp6)) K g1 g2 g3 gt d1 d2 d3 (.slice ao6 (s.q.length + 1) cp6) rl (mvTo s a s.old (s.old + (4 + n)) s.to) := by
          refine ⟨row_congr KF (fun i hi => match i, hi with | 0, _ => rfl | 1, _ => rfl | 2, _ => rfl | 3, _ => rfl | 4, _ => rfl | 5, _ => rfl | 6, _ => rfl | 7, _ => rfl | 8, _ => rfl | 9, _ => rfl | 10, _ => rfl | 11, _ => rfl | 12, _ => rfl), ?_, F2, ?_, ?_, k.n1, k.n2, k.nt, k.d12, k.d1t, k.d2t⟩
          · show RI _ g1 (mvW s.W s.old a) d1
            rw [HZ.out]
            exact F1
          · show RI _ gt (ints (s.went.set a (s.old + 1))) 3200
            rw [show ints (s.went.set a (s.old + 1)) = (ints s.went).set a ((s.old : Int) + 1) from by unfold ints; rw [List.map_set]; rfl]
            exact FT
          · show (w6.setCell ⟨K, 11, none⟩ (.slice ao6 (s.q.length + 1) cp6)).ownsRow (K + 1) 2 1 (.slice ao6 (s.q.length + 1) cp6) (s.q ++ [s.old]).length (icells (ints (s.q ++ [s.old])))
            rw [show (s.q ++ [s.old]).length = s.q.length + 1 from by simp, show icells (ints (s.q ++ [s.old])) = icells (ints s.q) ++ [.int .i64 (s.old : Int)] from by simp [icells, ints]]
            exact FQ
        go_ret
        rw [MV1.out, if_neg hr]
        exact ⟨⟨_, rfl, KE⟩, GF⟩
    · have hrmi : ¬ (tb h : Int) + 300 < (s.to : Int) + (4 + (n : Int)) := by omega
      have MV1 : Hid (mv (tb h + 300) s x = (mvTo s a s.to s.old (s.to + (4 + n)), 2 * (s.to : Int) + 1)) := (by rw [MV0.out, if_neg (by omega)] : _ = _)
      clear MV0
      go_enter Tryz.func126, Tryz.ntmps126
      go_wp2_with (first | (go_at_call 60; refine (Y _).mono ?_; rintro e wq ⟨rfl, hq⟩; obtain rfl := hq.symm) | (go_at_call 135; refine (MI _).mono ?_; rintro e wq ⟨rfl, hq⟩; obtain rfl := hq.symm))
      go_quiet (fail)
      have hbq := below_drewN (Below.refl w.heap.size w) nq
      have kq := k.low hbq
      have Gq := Grew.new hbq (fun b => b = K ∨ b = g1 ∨ b = gt ∨ K < b)
      generalize w.drewN nq = wq at *
      have q0 : wq.cell? ⟨K, 0, none⟩ = some (.slice (some ⟨g1, 0, none⟩) 3200 d1) := kq.row.cell (i := 0) (by omega)
      have q1 : wq.cell? ⟨K, 1, none⟩ = some (.slice (some ⟨g2, 0, none⟩) h.roots.length d2) := kq.row.cell (i := 1) (by omega)
      have q2 : wq.cell? ⟨K, 2, none⟩ = some (.int .i64 (s.old : Int)) := kq.row.cell (i := 2) (by omega)
      have q3 : wq.cell? ⟨K, 3, none⟩ = some (.int .i64 h.eden) := kq.row.cell (i := 3) (by omega)
      have q4 : wq.cell? ⟨K, 4, none⟩ = some (.int .i64 h.surv) := kq.row.cell (i := 4) (by omega)
      have q5 : wq.cell? ⟨K, 5, none⟩ = some (.bool h.flip) := kq.row.cell (i := 5) (by omega)
      have q6 : wq.cell? ⟨K, 6, none⟩ = some (.int .i64 h.hash) := kq.row.cell (i := 6) (by omega)
      have q7 : wq.cell? ⟨K, 7, none⟩ = some (.slice (some ⟨g3, 0, none⟩) h.kept.length d3) := kq.row.cell (i := 7) (by omega)
      have q8 : wq.cell? ⟨K, 8, none⟩ = some (.int .i64 (s.to : Int)) := kq.row.cell (i := 8) (by omega)
      have q9 : wq.cell? ⟨K, 9, none⟩ = some (.int .i64 ((tb h : Int) + 300)) := kq.row.cell (i := 9) (by omega)
      have q10 : wq.cell? ⟨K, 10, none⟩ = some (.slice (some ⟨gt, 0, none⟩) 3200 3200) := kq.row.cell (i := 10) (by omega)
      have q11 : wq.cell? ⟨K, 11, none⟩ = some (qv) := kq.row.cell (i := 11) (by omega)
      have q12 : wq.cell? ⟨K, 12, none⟩ = some (.bool s.full) := kq.row.cell (i := 12) (by omega)
      have fq := fun i => kq.row.frozen i
      clear k0 k1 k2 k3 k4 k5 k6 k7 k8 k9 k10 k11 k12
      have MK := mvTo_keep R S ha y2 s.to s.old (s.to + (4 + n)) (.inr ⟨rfl, by rw [hsn.out], rfl, by omega⟩)
      have dn : s.to + (4 + n) ≤ 3200 := by have := S.old1; have := S.to1; have := tb_two h; omega
      have dfr : ¬ (a < s.to + (4 + n) ∧ s.to < a + (4 + n)) := by
        have f1 := frm_not (young_area R ha y2 (Nat.le_refl a) (by rw [nxe.out]; omega))
        have f2 := frm_not (young_area R ha y2 (j := a + 3 + n) (by omega) (by rw [nxe.out, HN.out]; show a + 3 + n < a + 4 + n; omega))
        have := S.old1; have := S.to1; have := S.to0; have := tb_two h
        omega
      have ld1 : 3200 ≤ d1 := by have := k.r1.le; rw [S.len] at this; exact this
      have R1 := kq.r1.setOther (b := K) (i := 8) (by have := k.n1; omega) (.int .i64 ((s.to : Int) + (4 + (n : Int))))
      have R2 := kq.r2.setOther (b := K) (i := 8) (by have := k.n2; omega) (.int .i64 ((s.to : Int) + (4 + (n : Int))))
      have RT := kq.rt.setOther (b := K) (i := 8) (by have := k.nt; omega) (.int .i64 ((s.to : Int) + (4 + (n : Int))))
      have RK := kq.row.set 8 (.int .i64 ((s.to : Int) + (4 + (n : Int))))
      have G1 := Grew.set wq K 8 (.int .i64 ((s.to : Int) + (4 + (n : Int))))
      have RQ := G1.own kq.rq (fun b hb e => by have := own_low kq.rq hb; omega)
      have IS : IR (wq.setCell ⟨K, 8, none⟩ (.int .i64 ((s.to : Int) + (4 + (n : Int))))) (.slice (some ⟨g1, a, none⟩) (4 + n) (d1 - a)) ((s.W.drop a).take (4 + n)) := R1.mid (by rw [S.len]; omega) (by omega)
      have sl : Hid (4 + n = ((s.W.drop a).take (4 + n)).length) := by show _ = _; rw [List.length_take, List.length_drop, S.len]; omega
      have kc0 : (wq.setCell ⟨K, 8, none⟩ (.int .i64 ((s.to : Int) + (4 + (n : Int))))).cell? ⟨K, 0, none⟩ = some (.slice (some ⟨g1, 0, none⟩) 3200 d1) := RK.cell (i := 0) (by omega)
      have b1 : (s.to : Int) + (4 + (n : Int)) ≤ d1 := by omega
      have b2 : (a : Int) + (4 + (n : Int)) ≤ d1 := by omega
      have b3 : (s.to : Int) ≤ (s.to : Int) + (4 + (n : Int)) := by omega
      have b4 : (a : Int) ≤ (a : Int) + (4 + (n : Int)) := by omega
      have b5 : (0 : Int) ≤ (s.to : Int) + (4 + (n : Int)) := by omega
      have b6 : (0 : Int) ≤ (a : Int) + (4 + (n : Int)) := by omega
      have wr1 : IntKind.i64.wrap ((s.to : Int) + (4 + (n : Int))) = (s.to : Int) + (4 + (n : Int)) := by rw [IntKind.wrap_i64]; omega
      have wr2 : IntKind.i64.wrap ((a : Int) + (4 + (n : Int))) = (a : Int) + (4 + (n : Int)) := by rw [IntKind.wrap_i64]; omega
      have le1 : s.to ≤ s.to + (4 + n) := by omega
      have le2 : a ≤ a + (4 + n) := by omega
      have t1 : ((s.to : Int) + (4 + (n : Int))).toNat = s.to + (4 + n) := by omega
      have t2 : ((a : Int) + (4 + (n : Int))).toNat = a + (4 + n) := by omega
      have t3 : s.to + (4 + n) - s.to = 4 + n := by omega
      have t4 : a + (4 + n) - a = 4 + n := by omega
      have e1 : ¬ d1 = s.to := by omega
      have e2 : ¬ d1 = a := by omega
      have kn' : K < (wq.setCell ⟨K, 8, none⟩ (.int .i64 ((s.to : Int) + (4 + (n : Int))))).heap.size := RK.lt
      have Wl := S.len
      go_wp2_with fail
      obtain ⟨w3, run3, R3, G3⟩ := run_copy_ints (wq.setCell ⟨K, 8, none⟩ (.int .i64 ((s.to : Int) + (4 + (n : Int))))).drew 3 g1 s.to (4 + n) (d1 - s.to) s.W d1 (R1.later (Below.refl _ _).drew) (by rw [Wl]; exact dn) ((s.W.drop a).take (4 + n)) (some ⟨g1, a, none⟩) (d1 - a) (by rw [← sl.out]; exact IS.later (Below.refl _ _).drew) (by rw [← sl.out]; exact Nat.le_refl _)
      rw [← sl.out] at run3
      replace G3 : (wq.setCell ⟨K, 8, none⟩ (.int .i64 ((s.to : Int) + (4 + (n : Int))))).grownBy w3 (some g1) := ⟨G3.os, G3.tape, G3.output, G3.size, G3.block⟩
      have RK3 := RK.of_block (G3.block _ RK.lt (by intro e; cases e; have := k.n1; omega))
      have h0 : w3.cell? ⟨K, 0, none⟩ = some (.slice (some ⟨g1, 0, none⟩) 3200 d1) := RK3.cell (i := 0) (by omega)
      refine Disk.z_plain 99 (fun W' => W'.cell? ⟨K, 0, none⟩ = some (.slice (some ⟨g1, 0, none⟩) 3200 d1)) (by kernel_rfl) kc0 fun hs => ?_
      refine Disk.z_take 0 107 (v := .pointer (some ⟨K, 0, none⟩)) rfl rfl (by kernel_rfl) (by kernel_rfl) (by kernel_rfl) (by kernel_rfl) (by rfl) hs (fun W' hSw => (by go_simp; first | done | with_reducible rfl | simp [b1, b2, b5, b6, le1, le2, t1, t2, t3, t4, e1, e2])) ?_
      simp only [List.setIfInBounds_toArray, List.set_cons_zero, List.set_cons_succ]
      refine Disk.z_take 1 108 (v := .pointer (some ⟨K, 0, none⟩)) rfl rfl (by kernel_rfl) (by kernel_rfl) (by kernel_rfl) (by kernel_rfl) (by rfl) hs (fun W' hSw => (by go_simp; first | done | with_reducible rfl | simp [b1, b2, b5, b6, le1, le2, t1, t2, t3, t4, e1, e2])) ?_
      simp only [List.setIfInBounds_toArray, List.set_cons_zero, List.set_cons_succ]
      refine Disk.z_take 2 109 (v := .pointer (some ⟨K, 0, none⟩)) rfl rfl (by kernel_rfl) (by kernel_rfl) (by kernel_rfl) (by kernel_rfl) (by rfl) hs (fun W' hSw => (by go_simp; first | done | with_reducible rfl | simp [b1, b2, b5, b6, le1, le2, t1, t2, t3, t4, e1, e2])) ?_
      simp only [List.setIfInBounds_toArray, List.set_cons_zero, List.set_cons_succ]
      refine Disk.z_take 3 110 (v := .pointer (some ⟨K, 0, none⟩)) rfl rfl (by kernel_rfl) (by kernel_rfl) (by kernel_rfl) (by kernel_rfl) (by rfl) hs (fun W' hSw => (by go_simp; first | done | with_reducible rfl | simp [b1, b2, b5, b6, le1, le2, t1, t2, t3, t4, e1, e2])) ?_
      simp only [List.setIfInBounds_toArray, List.set_cons_zero, List.set_cons_succ]
      refine Disk.z_take 4 111 (v := .slice (some ⟨g1, 0, none⟩) 3200 d1) rfl rfl (by kernel_rfl) (by kernel_rfl) (by kernel_rfl) (by kernel_rfl) (by rfl) hs (fun W' hSw => (by go_simp; first | done | with_reducible rfl | simp [b1, b2, b5, b6, le1, le2, t1, t2, t3, t4, e1, e2])) ?_
      simp only [List.setIfInBounds_toArray, List.set_cons_zero, List.set_cons_succ]
      refine Disk.z_take 5 112 (v := .int .i64 (s.to : Int)) rfl rfl (by kernel_rfl) (by kernel_rfl) (by kernel_rfl) (by kernel_rfl) (by rfl) hs (fun W' hSw => (by go_simp; first | done | with_reducible rfl | simp [b1, b2, b5, b6, le1, le2, t1, t2, t3, t4, e1, e2])) ?_
      simp only [List.setIfInBounds_toArray, List.set_cons_zero, List.set_cons_succ]
      refine Disk.z_take 6 113 (v := .int .i64 (s.to : Int)) rfl rfl (by kernel_rfl) (by kernel_rfl) (by kernel_rfl) (by kernel_rfl) (by rfl) hs (fun W' hSw => (by go_simp; first | done | with_reducible rfl | simp [b1, b2, b5, b6, le1, le2, t1, t2, t3, t4, e1, e2])) ?_
      simp only [List.setIfInBounds_toArray, List.set_cons_zero, List.set_cons_succ]
      refine Disk.z_take 7 114 (v := .int .i64 (4 + (n : Int))) rfl rfl (by kernel_rfl) (by kernel_rfl) (by kernel_rfl) (by kernel_rfl) (by rfl) hs (fun W' hSw => (by go_simp; first | done | with_reducible rfl | simp [b1, b2, b5, b6, le1, le2, t1, t2, t3, t4, e1, e2])) ?_
      simp only [List.setIfInBounds_toArray, List.set_cons_zero, List.set_cons_succ]
      refine Disk.z_take 8 115 (v := .int .i64 ((s.to : Int) + (4 + (n : Int)))) rfl rfl (by kernel_rfl) (by kernel_rfl) (by kernel_rfl) (by kernel_rfl) (by rfl) hs (fun W' hSw => (by go_simp; first | done | with_reducible rfl | simp [b1, b2, b5, b6, le1, le2, t1, t2, t3, t4, e1, e2])) ?_
      simp only [List.setIfInBounds_toArray, List.set_cons_zero, List.set_cons_succ]
      refine Disk.z_take 9 116 (v := .slice (some ⟨g1, s.to, none⟩) (4 + n) (d1 - s.to)) rfl rfl (by kernel_rfl) (by kernel_rfl) (by kernel_rfl) (by kernel_rfl) (by rfl) hs (fun W' hSw => (by go_simp; first | done | with_reducible rfl | simp [b1, b2, b5, b6, le1, le2, t1, t2, t3, t4, e1, e2])) ?_
      simp only [List.setIfInBounds_toArray, List.set_cons_zero, List.set_cons_succ]
      refine Disk.z_take 10 117 (v := .pointer (some ⟨K, 0, none⟩)) rfl rfl (by kernel_rfl) (by kernel_rfl) (by kernel_rfl) (by kernel_rfl) (by rfl) hs (fun W' hSw => (by go_simp; first | done | with_reducible rfl | simp [b1, b2, b5, b6, le1, le2, t1, t2, t3, t4, e1, e2])) ?_
      simp only [List.setIfInBounds_toArray, List.set_cons_zero, List.set_cons_succ]
      refine Disk.z_take 11 118 (v := .pointer (some ⟨K, 0, none⟩)) rfl rfl (by kernel_rfl) (by kernel_rfl) (by kernel_rfl) (by kernel_rfl) (by rfl) hs (fun W' hSw => (by go_simp; first | done | with_reducible rfl | simp [b1, b2, b5, b6, le1, le2, t1, t2, t3, t4, e1, e2])) ?_
      simp only [List.setIfInBounds_toArray, List.set_cons_zero, List.set_cons_succ]
      refine Disk.z_take 12 119 (v := .pointer (some ⟨K, 0, none⟩)) rfl rfl (by kernel_rfl) (by kernel_rfl) (by kernel_rfl) (by kernel_rfl) (by rfl) hs (fun W' hSw => (by go_simp; first | done | with_reducible rfl | simp [b1, b2, b5, b6, le1, le2, t1, t2, t3, t4, e1, e2])) ?_
      simp only [List.setIfInBounds_toArray, List.set_cons_zero, List.set_cons_succ]
      refine Disk.z_take 13 120 (v := .pointer (some ⟨K, 0, none⟩)) rfl rfl (by kernel_rfl) (by kernel_rfl) (by kernel_rfl) (by kernel_rfl) (by rfl) hs (fun W' hSw => (by go_simp; first | done | with_reducible rfl | simp [b1, b2, b5, b6, le1, le2, t1, t2, t3, t4, e1, e2])) ?_
      simp only [List.setIfInBounds_toArray, List.set_cons_zero, List.set_cons_succ]
      refine Disk.z_take 14 121 (v := .slice (some ⟨g1, 0, none⟩) 3200 d1) rfl rfl (by kernel_rfl) (by kernel_rfl) (by kernel_rfl) (by kernel_rfl) (by rfl) hs (fun W' hSw => (by go_simp; first | done | with_reducible rfl | simp [b1, b2, b5, b6, le1, le2, t1, t2, t3, t4, e1, e2])) ?_
      simp only [List.setIfInBounds_toArray, List.set_cons_zero, List.set_cons_succ]
      refine Disk.z_take 15 122 (v := .int .i64 (a : Int)) rfl rfl (by kernel_rfl) (by kernel_rfl) (by kernel_rfl) (by kernel_rfl) (by rfl) hs (fun W' hSw => (by go_simp; first | done | with_reducible rfl | simp [b1, b2, b5, b6, le1, le2, t1, t2, t3, t4, e1, e2])) ?_
      simp only [List.setIfInBounds_toArray, List.set_cons_zero, List.set_cons_succ]
      refine Disk.z_take 16 123 (v := .int .i64 (a : Int)) rfl rfl (by kernel_rfl) (by kernel_rfl) (by kernel_rfl) (by kernel_rfl) (by rfl) hs (fun W' hSw => (by go_simp; first | done | with_reducible rfl | simp [b1, b2, b5, b6, le1, le2, t1, t2, t3, t4, e1, e2])) ?_
      simp only [List.setIfInBounds_toArray, List.set_cons_zero, List.set_cons_succ]
      refine Disk.z_take 17 124 (v := .int .i64 (4 + (n : Int))) rfl rfl (by kernel_rfl) (by kernel_rfl) (by kernel_rfl) (by kernel_rfl) (by rfl) hs (fun W' hSw => (by go_simp; first | done | with_reducible rfl | simp [b1, b2, b5, b6, le1, le2, t1, t2, t3, t4, e1, e2])) ?_
      simp only [List.setIfInBounds_toArray, List.set_cons_zero, List.set_cons_succ]
      refine Disk.z_take 18 125 (v := .int .i64 ((a : Int) + (4 + (n : Int)))) rfl rfl (by kernel_rfl) (by kernel_rfl) (by kernel_rfl) (by kernel_rfl) (by rfl) hs (fun W' hSw => (by go_simp; first | done | with_reducible rfl | simp [b1, b2, b5, b6, le1, le2, t1, t2, t3, t4, e1, e2])) ?_
      simp only [List.setIfInBounds_toArray, List.set_cons_zero, List.set_cons_succ]
      refine Disk.z_take 19 126 (v := .slice (some ⟨g1, a, none⟩) (4 + n) (d1 - a)) rfl rfl (by kernel_rfl) (by kernel_rfl) (by kernel_rfl) (by kernel_rfl) (by rfl) hs (fun W' hSw => (by go_simp; first | done | with_reducible rfl | simp [b1, b2, b5, b6, le1, le2, t1, t2, t3, t4, e1, e2])) ?_
      simp only [List.setIfInBounds_toArray, List.set_cons_zero, List.set_cons_succ]
      refine Disk.z_run 20 127 (w' := w3) (v := goInt ((4 + n : Nat) : Int)) rfl rfl (by kernel_rfl) (by rfl) (exec_copyR _ _ rfl _ _ rfl rfl run3) (.inr h0) ?_
      simp only [List.setIfInBounds_toArray, List.set_cons_zero, List.set_cons_succ]
      refine Disk.z_done (by kernel_rfl) ?_ _
      clear hs run3
      have Ls : (splice s.W s.to ((s.W.drop a).take (4 + n))).length = 3200 := by rw [length_splice _ _ _ (by rw [← sl.out, Wl]; exact dn), Wl]
      have G3' := Grew.grown G3
      have R23 := R2.grown G3 (by intro e; cases e; exact k.d12 rfl)
      have RT3 := RT.grown G3 (by intro e; cases e; exact k.d1t rfl)
      have RQ3 := G3'.own RQ (fun b hb e => by have := own_low RQ hb; cases e; have := k.n1; omega)
      have HZ : Hid (mvW s.W s.to a = (splice s.W s.to ((s.W.drop a).take (4 + n))).set (s.to + 3) age) := HM.out s.to
      generalize splice s.W s.to ((s.W.drop a).take (4 + n)) = Z at *
      have c3 := R3.cell (i := s.to + 3) (by rw [Ls]; omega)
      have f3 := fun i => R3.frozen i
      have ct3 := RT3.cell (i := a) (by rw [ints_length, S.wlen]; omega)
      have ft3 := fun i => RT3.frozen i
      have h10 : w3.cell? ⟨K, 10, none⟩ = some (.slice (some ⟨gt, 0, none⟩) 3200 3200) := RK3.cell (i := 10) (by omega)
      have h11 : w3.cell? ⟨K, 11, none⟩ = some qv := RK3.cell (i := 11) (by omega)
      generalize Z.getD (s.to + 3) 0 = z3 at *
      generalize (ints s.went).getD a 0 = z4 at *
      have P1 := (R3.set (s.to + 3) age).setOther (b := gt) (i := a) k.d1t (.int .i64 ((s.to : Int) + 1))
      have P2 := (R23.setOther (b := g1) (i := s.to + 3) (fun e => k.d12 e.symm) (.int .i64 age)).setOther (b := gt) (i := a) k.d2t (.int .i64 ((s.to : Int) + 1))
      have PT := (RT3.setOther (b := g1) (i := s.to + 3) (fun e => k.d1t e.symm) (.int .i64 age)).set a ((s.to : Int) + 1)
      have PK := (RK3.setOther (a := ⟨g1, s.to + 3, none⟩) (by show K ≠ g1; have := k.n1; omega) (.int .i64 age)).setOther (a := ⟨gt, a, none⟩) (by show K ≠ gt; have := k.nt; omega) (.int .i64 ((s.to : Int) + 1))
      have G4 : Grew w3 ((w3.setCell ⟨g1, s.to + 3, none⟩ (.int .i64 age)).setCell ⟨gt, a, none⟩ (.int .i64 ((s.to : Int) + 1))) (fun b => b = g1 ∨ b = gt) := ((Grew.set w3 g1 (s.to + 3) (.int .i64 age)).mono (fun b _ e => .inl e)).trans ((Grew.set _ gt a (.int .i64 ((s.to : Int) + 1))).mono (fun b _ e => .inr e))
      have PQ := G4.own RQ3 (fun b hb e => by have := own_low RQ3 hb; have := k.n1; have := k.nt; omega)
      have al := bel_one ((w3.setCell ⟨g1, s.to + 3, none⟩ (.int .i64 age)).setCell ⟨gt, a, none⟩ (.int .i64 ((s.to : Int) + 1))) (.cells #[.int .i64 (s.to : Int)] 2)
      have PQ5 := own_later PQ al
      have K5 : K + 1 ≤ (((w3.setCell ⟨g1, s.to + 3, none⟩ (.int .i64 age)).setCell ⟨gt, a, none⟩ (.int .i64 ((s.to : Int) + 1))).alloc (.cells #[.int .i64 (s.to : Int)] 2)).heap.size := by have := PK.lt; simp at this ⊢; omega
      have cd : (((w3.setCell ⟨g1, s.to + 3, none⟩ (.int .i64 age)).setCell ⟨gt, a, none⟩ (.int .i64 ((s.to : Int) + 1))).alloc (.cells #[.int .i64 (s.to : Int)] 2)).cell? ⟨((w3.setCell ⟨g1, s.to + 3, none⟩ (.int .i64 age)).setCell ⟨gt, a, none⟩ (.int .i64 ((s.to : Int) + 1))).heap.size, 0, none⟩ = some (.int .i64 (s.to : Int)) := cell_new ((w3.setCell ⟨g1, s.to + 3, none⟩ (.int .i64 age)).setCell ⟨gt, a, none⟩ (.int .i64 ((s.to : Int) + 1))) _ _ _ rfl 0 _ rfl
      have sz4 : ((w3.setCell ⟨g1, s.to + 3, none⟩ (.int .i64 age)).setCell ⟨gt, a, none⟩ (.int .i64 ((s.to : Int) + 1))).heap.size = w3.heap.size := by simp
      rw [sz4] at cd
      have ql : s.q.length ≤ 1000000000000 := by have := S.qlen; have := S.old1; have := S.to1; have := tb_two h; omega
      have dd3 : s.to + 3 < 3200 := by omega
      have d3i : (s.to : Int) + 3 < 3200 := by omega
      have d3n : (0 : Int) ≤ (s.to : Int) + 3 := by omega
      have nK1 : ¬ K = g1 := by have := k.n1; omega
      have nK2 : ¬ g1 = K := by have := k.n1; omega
      have nT1 : ¬ K = gt := by have := k.nt; omega
      have nT2 : ¬ gt = K := by have := k.nt; omega
      have nG1 : ¬ g1 = gt := k.d1t
      have nG2 : ¬ gt = g1 := fun e => k.d1t e.symm
      have K5' := PK.of_block (al.block _ PK.lt)
      have m11 : (((w3.setCell ⟨g1, s.to + 3, none⟩ (.int .i64 age)).setCell ⟨gt, a, none⟩ (.int .i64 ((s.to : Int) + 1))).alloc (.cells #[.int .i64 (s.to : Int)] 2)).cell? ⟨K, 11, none⟩ = some qv := K5'.cell (i := 11) (by omega)
      go_wp2_with (at_builtin; refine app_int _ rfl _ _ rfl (K + 1) qv s.q.length (icells (ints s.q)) rfl PQ5 w3.heap.size 1 (s.to : Int) rfl cd ql K5 ?_; intro v' w6 o6 g6; obtain ⟨ao6, cp6, e6⟩ := own_shape o6; subst e6; have K6 := K5'.of_block (g6.block _ K5'.lt (by intro e; have := own_low PQ5 e.symm; omega)); have fK6 := fun i => K6.frozen i; have lt6 := K6.lt; have u11 : w6.cell? ⟨K, 11, none⟩ = some qv := K6.cell (i := 11) (by omega))
      have KF := K6.set 11 (.slice ao6 (s.q.length + 1) cp6)
      have nq6 : ∀ b, qv.ownBlock = some b → K + 1 ≤ b := fun b e => own_low PQ5 e
      have F1 := ((P1.later al).grown g6 (by intro e; have := nq6 _ e.symm; have := k.n1; omega)).setOther (b := K) (i := 11) nK2 (.slice ao6 (s.q.length + 1) cp6)
      have F2 := ((P2.later al).grown g6 (by intro e; have := nq6 _ e.symm; have := k.n2; omega)).setOther (b := K) (i := 11) (by have := k.n2; omega) (.slice ao6 (s.q.length + 1) cp6)
      have FT := ((PT.later al).grown g6 (by intro e; have := nq6 _ e.symm; have := k.nt; omega)).setOther (b := K) (i := 11) nT2 (.slice ao6 (s.q.length + 1) cp6)
      have G6 := Grew.set w6 K 11 (.slice ao6 (s.q.length + 1) cp6)
      have FQ := G6.own o6 (fun b hb e => by have := own_low o6 hb; omega)
      have GF : Grew w (w6.setCell ⟨K, 11, none⟩ (.slice ao6 (s.q.length + 1) cp6)) (fun b => b = K ∨ b = g1 ∨ b = gt ∨ K < b) :=
        (((((Gq.trans (G1.mono (fun b _ e => .inl e))).trans (G3'.mono (fun b _ e => .inr (.inl (Option.some.inj e).symm)))).trans (G4.mono (fun b _ e => e.elim (fun e => .inr (.inl e)) (fun e => .inr (.inr (.inl e)))))).trans (Grew.new al _)).trans ((Grew.grown g6).mono (fun b _ e => .inr (.inr (.inr (by have := nq6 b e; omega)))))).trans (G6.mono (fun b _ e => .inl e))
      have KE : KW h (w6.setCell ⟨K, 11, none⟩ (.slice ao6 (s.q.length + 1) cp6)) K g1 g2 g3 gt d1 d2 d3 (.slice ao6 (s.q.length + 1) cp6) rl (mvTo s a s.to s.old (s.to + (4 + n))) := by
        refine ⟨row_congr KF (fun i hi => match i, hi with | 0, _ => rfl | 1, _ => rfl | 2, _ => rfl | 3, _ => rfl | 4, _ => rfl | 5, _ => rfl | 6, _ => rfl | 7, _ => rfl | 8, _ => rfl | 9, _ => rfl | 10, _ => rfl | 11, _ => rfl | 12, _ => rfl), ?_, F2, ?_, ?_, k.n1, k.n2, k.nt, k.d12, k.d1t, k.d2t⟩
        · show RI _ g1 (mvW s.W s.to a) d1
          rw [HZ.out]
          exact F1
        · show RI _ gt (ints (s.went.set a (s.to + 1))) 3200
          rw [show ints (s.went.set a (s.to + 1)) = (ints s.went).set a ((s.to : Int) + 1) from by unfold ints; rw [List.map_set]; rfl]
          exact FT
        · show (w6.setCell ⟨K, 11, none⟩ (.slice ao6 (s.q.length + 1) cp6)).ownsRow (K + 1) 2 1 (.slice ao6 (s.q.length + 1) cp6) (s.q ++ [s.to]).length (icells (ints (s.q ++ [s.to])))
          rw [show (s.q ++ [s.to]).length = s.q.length + 1 from by simp, show icells (ints (s.q ++ [s.to])) = icells (ints s.q) ++ [.int .i64 (s.to : Int)] from by simp [icells, ints]]
          exact FQ
      go_ret
      rw [MV1.out]
      exact ⟨⟨_, rfl, KE⟩, GF⟩

end Go.Proofs.YtklafifiphbibaaGreat
