/- What a word means in a heap, behind an interface: elementOf, elementIn, their methods, Get, ClassOf, HashOf of the program. -/
import Derived.Test.YtgacacbncefeaaaGreatZMFit
import Derived.Test.YtgacacbncefeaaaGreatZFPlain
namespace Go.Proofs.YtgacacbncefeaaaGreat
open Go.RowKit

def elV (l : List Nat) (u : Value) (x : Int) : Value :=
  if fitB l x = true then (if kindW x = 2 then (if 2000 ≤ x / 2 then .iface 158 (.agg #[u, .int .i64 (x / 2)]) else .iface 156 (.agg #[u, .int .i64 (x / 2)])) else .iface 154 (.agg #[])) else .iface 153 (.agg #[])

theorem mNF (w : World) : (method 297 153 (.agg #[]) "loop.example/g00140/impl.fields").run Tryz.prog w = .ok (166, .agg #[]) w := by kernel_rfl
theorem mNC (w : World) : (method 297 153 (.agg #[]) "loop.example/g00140/impl.class").run Tryz.prog w = .ok (165, .agg #[]) w := by kernel_rfl
theorem mNH (w : World) : (method 297 153 (.agg #[]) "loop.example/g00140/impl.hash").run Tryz.prog w = .ok (167, .agg #[]) w := by kernel_rfl
theorem mUF (w : World) : (method 297 154 (.agg #[]) "loop.example/g00140/impl.fields").run Tryz.prog w = .ok (169, .agg #[]) w := by kernel_rfl
theorem mUC (w : World) : (method 297 154 (.agg #[]) "loop.example/g00140/impl.class").run Tryz.prog w = .ok (168, .agg #[]) w := by kernel_rfl
theorem mUH (w : World) : (method 297 154 (.agg #[]) "loop.example/g00140/impl.hash").run Tryz.prog w = .ok (170, .agg #[]) w := by kernel_rfl
theorem mOF (u : Value) (x : Int) (w : World) : (method 297 156 (.agg #[u, .int .i64 x]) "loop.example/g00140/impl.fields").run Tryz.prog w = .ok (172, .agg #[u, .int .i64 x]) w := by kernel_rfl
theorem mOC (u : Value) (x : Int) (w : World) : (method 297 156 (.agg #[u, .int .i64 x]) "loop.example/g00140/impl.class").run Tryz.prog w = .ok (171, .agg #[u, .int .i64 x]) w := by kernel_rfl
theorem mOH (u : Value) (x : Int) (w : World) : (method 297 156 (.agg #[u, .int .i64 x]) "loop.example/g00140/impl.hash").run Tryz.prog w = .ok (173, .agg #[u, .int .i64 x]) w := by kernel_rfl
theorem mYF (u : Value) (x : Int) (w : World) : (method 297 158 (.agg #[u, .int .i64 x]) "loop.example/g00140/impl.fields").run Tryz.prog w = .ok (172, .agg #[u, .int .i64 x]) w := by kernel_rfl
theorem mYC (u : Value) (x : Int) (w : World) : (method 297 158 (.agg #[u, .int .i64 x]) "loop.example/g00140/impl.class").run Tryz.prog w = .ok (171, .agg #[u, .int .i64 x]) w := by kernel_rfl
theorem mYH (u : Value) (x : Int) (w : World) : (method 297 158 (.agg #[u, .int .i64 x]) "loop.example/g00140/impl.hash").run Tryz.prog w = .ok (173, .agg #[u, .int .i64 x]) w := by kernel_rfl

set_option maxHeartbeats 1600000 in
theorem elementOf_any (a1 oa : Option Addr) (n1 c1 oc : Nat) (l : List Nat) (x : Int) (w : World) (ho : IR w (.slice oa l.length oc) (ints l)) (hs : l.Pairwise (· < ·)) (h1 : l.length ≤ 1000000000) :
    Calls Tryz.prog 119 #[.agg #[.slice a1 n1 c1, .slice oa l.length oc], .int .i64 x] w fun e w' => e = .returned (elV l (.slice a1 n1 c1) x) ∧ Below w.heap.size w w' := by
  have hb0 := bel_one w (.cells #[.slice a1 n1 c1, .slice oa l.length oc] 70)
  have FT := draftFits_any a1 oa n1 c1 oc l x _ (ho.later hb0) hs h1
  have R := fun W => implRefOf_any x W
  have Y := fun W => isYoung_any (x / 2) W
  have EV : Hid (elV l (.slice a1 n1 c1) x = if fitB l x = true then (if kindW x = 2 then (if 2000 ≤ x / 2 then .iface 158 (.agg #[.slice a1 n1 c1, .int .i64 (x / 2)]) else .iface 156 (.agg #[.slice a1 n1 c1, .int .i64 (x / 2)])) else .iface 154 (.agg #[])) else .iface 153 (.agg #[])) := (rfl : _ = _)
  clear ho hs
  cases hf : fitB l x
  · rw [hf] at FT EV
    go_enter Tryz.func119, Tryz.ntmps119
    go_wp2_with fail
    refine FT.mono ?_
    rintro e w1 ⟨rfl, hb1⟩
    go_wp2
    go_ret
    exact ⟨by rw [EV.out]; rfl, bel_after hb0 hb1⟩
  rw [hf] at FT EV
  by_cases hk : kindW x = 2
  · have V : valK 2 x = x / 2 := by unfold valK; rw [if_pos hk]
    have K : isK 2 x = true := decide_eq_true hk
    rw [V, K] at R
    rw [if_pos rfl, if_pos hk] at EV
    clear V K hk hf
    by_cases hy : 2000 ≤ x / 2
    · rw [decide_eq_true hy] at Y
      rw [if_pos hy] at EV
      clear hy
      go_enter Tryz.func119, Tryz.ntmps119
      go_wp2_with fail
      refine FT.mono ?_
      rintro e w1 ⟨rfl, hb1⟩
      have c0 : w1.cell? ⟨w.heap.size, 0, none⟩ = some (.slice a1 n1 c1) := cell_later hb1 (cell_new w _ _ _ rfl 0 _ rfl)
      go_wp2_with (first | (go_at_call 115; refine (R _).mono ?_; rintro e wq ⟨rfl, hq⟩; obtain rfl := hq.symm) | (go_at_call 109; refine (Y _).mono ?_; rintro e wq ⟨rfl, hq⟩; obtain rfl := hq.symm))
      go_ret
      exact ⟨by rw [EV.out]; rfl, bel_after hb0 hb1⟩
    · rw [decide_eq_false hy] at Y
      rw [if_neg hy] at EV
      clear hy
      go_enter Tryz.func119, Tryz.ntmps119
      go_wp2_with fail
      refine FT.mono ?_
      rintro e w1 ⟨rfl, hb1⟩
      have c0 : w1.cell? ⟨w.heap.size, 0, none⟩ = some (.slice a1 n1 c1) := cell_later hb1 (cell_new w _ _ _ rfl 0 _ rfl)
      go_wp2_with (first | (go_at_call 115; refine (R _).mono ?_; rintro e wq ⟨rfl, hq⟩; obtain rfl := hq.symm) | (go_at_call 109; refine (Y _).mono ?_; rintro e wq ⟨rfl, hq⟩; obtain rfl := hq.symm))
      go_ret
      exact ⟨by rw [EV.out]; rfl, bel_after hb0 hb1⟩
  · have K : isK 2 x = false := decide_eq_false hk
    rw [K] at R
    rw [if_pos rfl, if_neg hk] at EV
    clear K hk hf Y
    go_enter Tryz.func119, Tryz.ntmps119
    go_wp2_with fail
    refine FT.mono ?_
    rintro e w1 ⟨rfl, hb1⟩
    go_wp2_with (go_at_call 115; refine (R _).mono ?_; rintro e wq ⟨rfl, hq⟩; obtain rfl := hq.symm)
    go_ret
    exact ⟨by rw [EV.out]; rfl, bel_after hb0 hb1⟩

theorem noneF_any (w : World) : Calls Tryz.prog 166 #[.agg #[]] w fun e w' => e = .returned (.slice none 0 0) ∧ Below w.heap.size w w' := by
  have hb := bel_one w (.cells #[] 153)
  go_enter Tryz.func166, Tryz.ntmps166
  go_wp2
  go_ret
  exact ⟨rfl, hb⟩
theorem noneC_any (w : World) : Calls Tryz.prog 165 #[.agg #[]] w fun e w' => e = .returned (.int .i64 (-1)) ∧ Below w.heap.size w w' := by
  have hb := bel_one w (.cells #[] 153)
  go_enter Tryz.func165, Tryz.ntmps165
  go_wp2
  go_ret
  exact ⟨rfl, hb⟩
theorem numF_any (w : World) : Calls Tryz.prog 169 #[.agg #[]] w fun e w' => e = .returned (.slice none 0 0) ∧ Below w.heap.size w w' := by
  have hb := bel_one w (.cells #[] 154)
  go_enter Tryz.func169, Tryz.ntmps169
  go_wp2
  go_ret
  exact ⟨rfl, hb⟩
theorem numC_any (w : World) : Calls Tryz.prog 168 #[.agg #[]] w fun e w' => e = .returned (.int .i64 100) ∧ Below w.heap.size w w' := by
  have hb := bel_one w (.cells #[] 154)
  go_enter Tryz.func168, Tryz.ntmps168
  go_wp2
  go_ret
  exact ⟨rfl, hb⟩
theorem hdC1 (a b c d : Int) (w : World) : (Instr.field 100 (.agg #[.int .i64 a, .int .i64 b, .int .i64 c, .int .i64 d]) 1).run Tryz.prog w = .ok (.int .i64 b) w := by kernel_rfl
theorem hdC2 (a b c d : Int) (w : World) : (Instr.field 100 (.agg #[.int .i64 a, .int .i64 b, .int .i64 c, .int .i64 d]) 2).run Tryz.prog w = .ok (.int .i64 c) w := by kernel_rfl

section
variable (b o cap : Nat) (W : List Int) (a : Nat) (w : World) (hW : WS w b o W) (hl : W.length = 3200) (ha : a + 4 ≤ 3200)
include hW hl ha
theorem objC_any : Calls Tryz.prog 171 #[.agg #[.slice (some ⟨b, o, none⟩) 3200 cap, .int .i64 a]] w fun e w' => e = .returned (.int .i64 (gw W (a + 1))) ∧ Below w.heap.size w w' := by
  have hb := bel_one w (.cells #[.slice (some ⟨b, o, none⟩) 3200 cap, .int .i64 a] 156)
  have C := headerAt_any b o cap W a _ (hW.later hb) hl ha
  have f1 := hdC1 (gw W a) (gw W (a + 1)) (gw W (a + 2)) (gw W (a + 3))
  clear hW hl
  generalize gw W a = x0 at *
  generalize gw W (a + 1) = x1 at *
  generalize gw W (a + 2) = x2 at *
  generalize gw W (a + 3) = x3 at *
  go_enter Tryz.func171, Tryz.ntmps171
  go_wp2_with fail
  refine C.mono ?_
  rintro e w1 ⟨rfl, hb1⟩
  go_wp2
  go_ret
  exact ⟨rfl, bel_after hb hb1⟩
end

/-- Where the fields of an object lie. -/
theorem fieldsAt_at (b o cap : Nat) (W : List Int) (a : Nat) (w : World) (hW : WS w b o W) (hl : W.length = 3200) (hc : 3200 ≤ cap) (ha : a + 4 ≤ 3200) (hs : 0 ≤ gw W a ∧ gw W a ≤ 60) (hn : nx W a ≤ 3200) :
    Calls Tryz.prog 108 #[.slice (some ⟨b, o, none⟩) 3200 cap, .int .i64 a] w fun e w' => (∃ q c, e = .returned (.slice (some ⟨b, q, none⟩) (gw W a).toNat c) ∧ (gw W a).toNat ≤ c ∧ ((gw W a).toNat = 0 ∨ q = o + (a + 4))) ∧ w' = w := by
  have B := behind_any b o cap W a w hW hl ha hs
  obtain ⟨m, hm⟩ := Int.eq_ofNat_of_zero_le hs.1
  have hn' : nx W a = a + 4 + m := by unfold nx; rw [hm]; rfl
  rw [hn'] at B hn
  have m60 : m ≤ 60 := by omega
  rw [hm, Int.toNat_natCast]
  clear hm hs hW hl hn'
  go_enter Tryz.func108, Tryz.ntmps108
  go_wp2_with fail
  refine B.mono ?_
  rintro x w1 ⟨rfl, rfl⟩
  go_wp2
  · have h0 : m = 0 := by omega
    go_ret
    exact ⟨⟨_, _, rfl, by omega, .inl h0⟩, rfl⟩
  · go_ret
    exact ⟨⟨_, _, rfl, by omega, .inr rfl⟩, rfl⟩
theorem objF_any (b o cap : Nat) (W : List Int) (a : Nat) (w : World) (hW : WS w b o W) (hl : W.length = 3200) (hc : 3200 ≤ cap) (ha : a + 4 ≤ 3200) (hs : 0 ≤ gw W a ∧ gw W a ≤ 60) (hn : nx W a ≤ 3200) :
    Calls Tryz.prog 172 #[.agg #[.slice (some ⟨b, o, none⟩) 3200 cap, .int .i64 a]] w fun e w' => (∃ q c, e = .returned (.slice (some ⟨b, q, none⟩) (gw W a).toNat c) ∧ (gw W a).toNat ≤ c ∧ ((gw W a).toNat = 0 ∨ q = o + (a + 4))) ∧ Below w.heap.size w w' := by
  have hb := bel_one w (.cells #[.slice (some ⟨b, o, none⟩) 3200 cap, .int .i64 a] 156)
  have C := fieldsAt_at b o cap W a _ (hW.later hb) hl hc ha hs hn
  clear hW hl hs hn
  generalize gw W a = x0 at *
  go_enter Tryz.func172, Tryz.ntmps172
  go_wp2_with fail
  refine C.mono ?_
  rintro e w1 ⟨⟨q, c, rfl, hc, hq⟩, hw⟩
  obtain rfl := hw.symm
  go_wp2
  go_ret
  exact ⟨⟨q, c, rfl, hc, hq⟩, hb⟩

end Go.Proofs.YtgacacbncefeaaaGreat
