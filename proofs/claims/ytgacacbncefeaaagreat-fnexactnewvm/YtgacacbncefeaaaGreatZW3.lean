import Derived.Test.YtgacacbncefeaaaGreatZKCode
import Derived.Test.YtgacacbncefeaaaGreatZFPlain
/- A machine in plain words. -/
namespace Go.Proofs.YtgacacbncefeaaaGreat
open Go.RowKit

structure Mp where
  h : Hp
  prog : List Cd
  pc : Int
  out : List Int
  st : Int

def progB (l : List Cd) : Bool := decide (l.length ≤ 100) && l.all fun p => cokB p.1 p.2
def outB (l : List Int) : Bool := decide (l.length ≤ 300) && l.all numB
def placeB (n : Nat) (pc : Int) : Bool := decide (0 ≤ pc) && decide (pc ≤ n)
def stateB (s : Int) : Bool := decide (0 ≤ s) && decide (s ≤ 3)
/-- A root is an object of this class with so many fields. -/
noncomputable def rootB (h : Hp) (k : Nat) (c : Int) (n : Nat) : Bool :=
  refB h (h.roots.getD k 0) && (decide (gw h.words ((h.roots.getD k 0 / 2).toNat + 1) = c) && decide ((gw h.words (h.roots.getD k 0 / 2).toNat).toNat = n))
/-- These fields are a stack. -/
def stkB (l : List Int) : Bool :=
  isK 1 (l.getD 0 0) && (decide (0 ≤ valK 1 (l.getD 0 0)) && (decide (valK 1 (l.getD 0 0) ≤ 39) && (l.drop ((valK 1 (l.getD 0 0)).toNat + 1)).all (· == 0)))
def fldR (h : Hp) (k : Nat) : List Int := flds h.words (h.roots.getD k 0 / 2).toNat
noncomputable def partsB (h : Hp) : Bool := decide (h.roots.length = 2) && (rootB h 0 1 40 && (rootB h 1 2 10 && stkB (fldR h 0)))
noncomputable def vmB (v : Mp) : Bool := okC v.h && (progB v.prog && (placeB v.prog.length v.pc && (outB v.out && (stateB v.st && partsB v.h))))

theorem flds_len (W : List Int) (a : Nat) : (flds W a).length = (gw W a).toNat := by simp [flds]
theorem flds_get (W : List Int) (a i : Nat) (h : i < (gw W a).toNat) : (flds W a).getD i 0 = gw W (a + 4 + i) := by simp [flds, h]

/-- What the fields' slice of an object reads as. -/
theorem flds_ir {w : World} {b q c a : Nat} {W : List Int} (hW : WS w b 0 W) (hl : W.length = 3200) (hn : nx W a ≤ 3200) (hc : (gw W a).toNat ≤ c) (hq : (gw W a).toNat = 0 ∨ q = 0 + (a + 4)) : IR w (.slice (some ⟨b, q, none⟩) (gw W a).toNat c) (flds W a) := by
  refine ⟨_, _, by rw [flds_len], by rw [flds_len]; exact hc, fun i hi => ?_⟩
  rw [flds_len] at hi
  obtain rfl : q = 0 + (a + 4) := hq.resolve_left (by omega)
  refine ⟨b, 0 + (a + 4), rfl, ?_⟩
  have e := hW (a + 4 + i) (by unfold nx at hn; omega)
  rw [flds_get W a i hi, Nat.zero_add]
  rw [Nat.zero_add] at e
  exact e

end Go.Proofs.YtgacacbncefeaaaGreat

/- isProgram, isPlaceIn, isOut, isState of the program. -/
namespace Go.Proofs.YtgacacbncefeaaaGreat
open Go.RowKit

theorem anyN_stop {α : Type} {l : List α} {p : α → Bool} {k : Nat} {d : α} (h : k < l.length) (e : p (l.getD k d) = true) : l.any p = true :=
  List.any_eq_true.2 ⟨l.getD k d, by simp [h], e⟩
theorem anyN_done {α : Type} {l : List α} {p : α → Bool} {d : α} (h : ∀ j, j < l.length → p (l.getD j d) = false) : l.any p = false := by
  rw [Bool.eq_false_iff]
  intro q
  obtain ⟨x, hx, e⟩ := List.any_eq_true.1 q
  obtain ⟨i, hi, rfl⟩ := List.getElem_of_mem hx
  have := h i hi
  simp [hi] at this
  rw [this] at e
  cases e
theorem all_any {α : Type} (l : List α) (p : α → Bool) : (!(l.any fun x => !p x)) = l.all p := by
  induction l with
  | nil => rfl
  | cons a l ih => rw [List.any_cons, List.all_cons, ← ih]; cases p a <;> simp

theorem outOne_any (x : Int) (w : World) : Calls Tryz.prog 96 #[.int .i64 x] w fun e w' => e = .returned (.bool (!numB x)) ∧ Below w.heap.size w w' := by
  have I := fun W => isInt_any x W
  go_enter Tryz.func96, Tryz.ntmps96
  go_wp2_with (go_at_call 97; refine (I _).mono ?_; rintro e wq ⟨rfl, hq⟩; obtain rfl := hq.symm)
  go_ret
  exact ⟨rfl, Below.refl _ _⟩

set_option maxHeartbeats 1600000 in
theorem outIndex_any (u : Value) (ws : List Int) (w : World) (hu : IR w u ws) (h2 : ws.length ≤ 1000000000) :
    Calls Tryz.prog 118 #[u, .func (.func 96) #[] #[]] w fun e w' => (∃ z : Int, e = .returned (.int .i64 z) ∧ decide (0 ≤ z) = ws.any fun x => !numB x) ∧ Below w.heap.size w w' := by
  obtain ⟨ao, cap, rfl, _, hc⟩ := hu
  go_enter Tryz.func118, Tryz.ntmps118
  go_wp2
  go_loopw [5, 8] (fun _ kv wr => ∃ k : Nat, k ≤ ws.length ∧ kv = .int .i64 k ∧ Hid (∀ j, j < k → (fun x => !numB x) (ws.getD j 0) = false) ∧ Below w.heap.size w wr) (fun _ kv _ => ws.length - (intOf kv).toNat)
  case atStart => exact ⟨0, Nat.zero_le _, rfl, fun j hj => absurd hj (Nat.not_lt_zero j), Below.refl _ _⟩
  case round =>
    obtain ⟨k, hk, rfl, hd, hbw⟩ := hrel
    by_cases hlt : k < ws.length
    · obtain ⟨b, o, rfl, ck⟩ := hc k hlt
      have ck' := cell_later hbw ck
      have P := fun W => outOne_any (ws.getD k 0) W
      have NX : Hid ((fun x => !numB x) (ws.getD k 0) = false → ∀ j, j < k + 1 → (fun x => !numB x) (ws.getD j 0) = false) := fun e => all_upto hd.out e
      have YES : Hid ((fun x => !numB x) (ws.getD k 0) = true → (ws.any fun x => !numB x) = true) := fun e => anyN_stop (d := 0) hlt e
      clear hc ck hd
      generalize ws.getD k 0 = x at *
      cases hx : numB x
      · rw [hx] at P
        have N : Hid ((ws.any fun x => !numB x) = true) := YES.out (by show (!numB x) = true; rw [hx]; rfl)
        clear NX YES hx
        go_wp2_with fail
        refine (P _).mono ?_
        rintro e w1 ⟨rfl, hb1⟩
        have hbw1 := bel_after hbw hb1
        go_wp2
        go_ret
        exact ⟨⟨k, rfl, by rw [N.out]; exact decide_eq_true (by omega)⟩, hbw1⟩
      · rw [hx] at P
        have N : Hid (∀ j, j < k + 1 → (fun x => !numB x) (ws.getD j 0) = false) := NX.out (by show (!numB x) = false; rw [hx]; rfl)
        clear NX YES hx
        go_wp2_with fail
        refine (P _).mono ?_
        rintro e w1 ⟨rfl, hb1⟩
        have hbw1 := bel_after hbw hb1
        go_wp2
        exact ⟨⟨k + 1, by omega, by go_num, N, hbw1⟩, by simp [intOf]; omega⟩
    · obtain rfl : k = ws.length := by omega
      have G : Hid ((ws.any fun x => !numB x) = false) := anyN_done hd.out
      clear hd hc
      go_wp2
      go_ret
      exact ⟨⟨-1, rfl, by rw [G.out]; rfl⟩, hbw⟩

theorem outContains_any (u : Value) (ws : List Int) (w : World) (hu : IR w u ws) (h2 : ws.length ≤ 1000000000) :
    Calls Tryz.prog 95 #[u, .func (.func 96) #[] #[]] w fun e w' => e = .returned (.bool (ws.any fun x => !numB x)) ∧ Below w.heap.size w w' := by
  have C := outIndex_any u ws w hu h2
  clear hu
  generalize (ws.any fun x => !numB x) = r at *
  go_enter Tryz.func95, Tryz.ntmps95
  go_wp2_with fail
  refine C.mono ?_
  rintro e w1 ⟨⟨z, rfl, hz⟩, hb1⟩
  replace hz : Hid (decide (0 ≤ z) = r) := hz
  go_wp2
  go_ret
  exact ⟨wret_bool hz.out, hb1⟩

theorem isOut_any (u : Value) (ws : List Int) (w : World) (hu : IR w u ws) (h2 : ws.length ≤ 1000000000) :
    Calls Tryz.prog 74 #[u] w fun e w' => e = .returned (.bool (outB ws)) ∧ Below w.heap.size w w' := by
  have C := outContains_any u ws w hu h2
  have G : Hid ((!(ws.any fun x => !numB x)) = ws.all numB) := all_any ws numB
  obtain ⟨ao, cap, rfl, _, _⟩ := hu
  by_cases hl : ws.length ≤ 300
  · have dl : decide ((ws.length : Int) ≤ 300) = true := decide_eq_true (by omega)
    have OB : Hid (outB ws = ws.all numB) := (by unfold outB; rw [decide_eq_true hl]; rfl : outB ws = ws.all numB)
    go_enter Tryz.func74, Tryz.ntmps74
    go_wp2_with fail
    refine C.mono ?_
    rintro e w1 ⟨rfl, hb1⟩
    go_wp2
    go_ret
    exact ⟨wret_bool (by rw [OB.out, ← G.out]), hb1⟩
  · have dl : decide ((ws.length : Int) ≤ 300) = false := decide_eq_false (by omega)
    have OB : Hid (outB ws = false) := (by unfold outB; rw [decide_eq_false hl]; rfl : outB ws = false)
    clear C G
    go_enter Tryz.func74, Tryz.ntmps74
    go_wp2
    go_ret
    exact ⟨wret_bool OB.out.symm, Below.refl _ _⟩

theorem progOne_any (op n : Int) (w : World) : Calls Tryz.prog 61 #[.agg #[.int .i64 op, .int .i64 n]] w fun e w' => e = .returned (.bool (!cokB op n)) ∧ Below w.heap.size w w' := by
  have I := fun W => implCodeOk_any op n W
  unfold codeV at I
  go_enter Tryz.func61, Tryz.ntmps61
  go_wp2_with fail
  refine (I _).mono ?_
  rintro e w1 ⟨rfl, hb1⟩
  go_wp2
  go_ret
  exact ⟨rfl, bel_after (bel_one _ _) hb1⟩

set_option maxHeartbeats 1600000 in
theorem progIndex_any (u : Value) (ws : List Cd) (w : World) (hu : CR w u ws) (h2 : ws.length ≤ 1000000000) :
    Calls Tryz.prog 91 #[u, .func (.func 61) #[] #[]] w fun e w' => (∃ z : Int, e = .returned (.int .i64 z) ∧ decide (0 ≤ z) = ws.any fun p => !cokB p.1 p.2) ∧ Below w.heap.size w w' := by
  obtain ⟨ao, cap, rfl, _, hc⟩ := hu
  go_enter Tryz.func91, Tryz.ntmps91
  go_wp2
  go_loopw [5, 8] (fun _ kv wr => ∃ k : Nat, k ≤ ws.length ∧ kv = .int .i64 k ∧ Hid (∀ j, j < k → (fun p : Cd => !cokB p.1 p.2) (ws.getD j cd0) = false) ∧ Below w.heap.size w wr) (fun _ kv _ => ws.length - (intOf kv).toNat)
  case atStart => exact ⟨0, Nat.zero_le _, rfl, fun j hj => absurd hj (Nat.not_lt_zero j), Below.refl _ _⟩
  case round =>
    obtain ⟨k, hk, rfl, hd, hbw⟩ := hrel
    by_cases hlt : k < ws.length
    · obtain ⟨b, o, rfl, ck, cl⟩ := hc k hlt
      have ck' := cell_later hbw ck
      have cl' := cell_later hbw cl
      have NX : Hid ((fun p : Cd => !cokB p.1 p.2) (ws.getD k cd0) = false → ∀ j, j < k + 1 → (fun p : Cd => !cokB p.1 p.2) (ws.getD j cd0) = false) := fun e => all_upto hd.out e
      have YES : Hid ((fun p : Cd => !cokB p.1 p.2) (ws.getD k cd0) = true → (ws.any fun p => !cokB p.1 p.2) = true) := fun e => anyN_stop (d := cd0) hlt e
      clear hc ck cl hd
      generalize ws.getD k cd0 = s at *
      obtain ⟨x, y⟩ := s
      have P := fun W => progOne_any x y W
      cases hx : cokB x y
      · rw [hx] at P
        have N : Hid ((ws.any fun p => !cokB p.1 p.2) = true) := YES.out (by show (!cokB x y) = true; rw [hx]; rfl)
        clear NX YES hx
        go_wp2_with fail
        refine (P _).mono ?_
        rintro e w1 ⟨rfl, hb1⟩
        have hbw1 := bel_after hbw hb1
        go_wp2
        go_ret
        exact ⟨⟨k, rfl, by rw [N.out]; exact decide_eq_true (by omega)⟩, hbw1⟩
      · rw [hx] at P
        have N : Hid (∀ j, j < k + 1 → (fun p : Cd => !cokB p.1 p.2) (ws.getD j cd0) = false) := NX.out (by show (!cokB x y) = false; rw [hx]; rfl)
        clear NX YES hx
        go_wp2_with fail
        refine (P _).mono ?_
        rintro e w1 ⟨rfl, hb1⟩
        have hbw1 := bel_after hbw hb1
        go_wp2
        exact ⟨⟨k + 1, by omega, by go_num, N, hbw1⟩, by simp [intOf]; omega⟩
    · obtain rfl : k = ws.length := by omega
      have G : Hid ((ws.any fun p => !cokB p.1 p.2) = false) := anyN_done hd.out
      clear hd hc
      go_wp2
      go_ret
      exact ⟨⟨-1, rfl, by rw [G.out]; rfl⟩, hbw⟩

theorem progContains_any (u : Value) (ws : List Cd) (w : World) (hu : CR w u ws) (h2 : ws.length ≤ 1000000000) :
    Calls Tryz.prog 60 #[u, .func (.func 61) #[] #[]] w fun e w' => e = .returned (.bool (ws.any fun p => !cokB p.1 p.2)) ∧ Below w.heap.size w w' := by
  have C := progIndex_any u ws w hu h2
  clear hu
  generalize (ws.any fun p => !cokB p.1 p.2) = r at *
  go_enter Tryz.func60, Tryz.ntmps60
  go_wp2_with fail
  refine C.mono ?_
  rintro e w1 ⟨⟨z, rfl, hz⟩, hb1⟩
  replace hz : Hid (decide (0 ≤ z) = r) := hz
  go_wp2
  go_ret
  exact ⟨wret_bool hz.out, hb1⟩

theorem isProgram_any (u : Value) (ws : List Cd) (w : World) (hu : CR w u ws) (h2 : ws.length ≤ 1000000000) :
    Calls Tryz.prog 34 #[u] w fun e w' => e = .returned (.bool (progB ws)) ∧ Below w.heap.size w w' := by
  have C := progContains_any u ws w hu h2
  have G : Hid ((!(ws.any fun p => !cokB p.1 p.2)) = ws.all fun p => cokB p.1 p.2) := all_any ws fun p => cokB p.1 p.2
  obtain ⟨ao, cap, rfl, _, _⟩ := hu
  by_cases hl : ws.length ≤ 100
  · have dl : decide ((ws.length : Int) ≤ 100) = true := decide_eq_true (by omega)
    have OB : Hid (progB ws = ws.all fun p => cokB p.1 p.2) := (by unfold progB; rw [decide_eq_true hl]; rfl : progB ws = ws.all fun p => cokB p.1 p.2)
    go_enter Tryz.func34, Tryz.ntmps34
    go_wp2_with fail
    refine C.mono ?_
    rintro e w1 ⟨rfl, hb1⟩
    go_wp2
    go_ret
    exact ⟨wret_bool (by rw [OB.out, ← G.out]), hb1⟩
  · have dl : decide ((ws.length : Int) ≤ 100) = false := decide_eq_false (by omega)
    have OB : Hid (progB ws = false) := (by unfold progB; rw [decide_eq_false hl]; rfl : progB ws = false)
    clear C G
    go_enter Tryz.func34, Tryz.ntmps34
    go_wp2
    go_ret
    exact ⟨wret_bool OB.out.symm, Below.refl _ _⟩

theorem isPlace_any (u : Value) (ws : List Cd) (pc : Int) (w : World) (hu : CR w u ws) (_h2 : ws.length ≤ 1000000000) :
    Calls Tryz.prog 73 #[u, .int .i64 pc] w fun e w' => e = .returned (.bool (placeB ws.length pc)) ∧ Below w.heap.size w w' := by
  obtain ⟨ao, cap, rfl, _, _⟩ := hu
  unfold placeB
  by_cases h1 : 0 ≤ pc
  · have d1 : decide (0 ≤ pc) = true := decide_eq_true h1
    rw [d1]
    go_enter Tryz.func73, Tryz.ntmps73
    go_wp2
    go_ret
    exact ⟨by first | rfl | simp, Below.refl _ _⟩
  · have d1 : decide (0 ≤ pc) = false := decide_eq_false h1
    rw [d1]
    go_enter Tryz.func73, Tryz.ntmps73
    go_wp2
    go_ret
    exact ⟨by first | rfl | simp, Below.refl _ _⟩

theorem isState_any (s : Int) (w : World) :
    Calls Tryz.prog 75 #[.int .i64 s] w fun e w' => e = .returned (.bool (stateB s)) ∧ Below w.heap.size w w' := by
  unfold stateB
  by_cases h1 : 0 ≤ s
  · have d1 : decide (0 ≤ s) = true := decide_eq_true h1
    rw [d1]
    go_enter Tryz.func75, Tryz.ntmps75
    go_wp2
    go_ret
    exact ⟨by first | rfl | simp, Below.refl _ _⟩
  · have d1 : decide (0 ≤ s) = false := decide_eq_false h1
    rw [d1]
    go_enter Tryz.func75, Tryz.ntmps75
    go_wp2
    go_ret
    exact ⟨by first | rfl | simp, Below.refl _ _⟩

end Go.Proofs.YtgacacbncefeaaaGreat
