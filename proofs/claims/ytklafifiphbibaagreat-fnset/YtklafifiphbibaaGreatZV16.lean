
import Derived.Test.YtklafifiphbibaaGreatZMFit
import Derived.Test.YtklafifiphbibaaGreatZV5
/- What a word means in a heap, behind an interface: elementOf, elementIn, their methods, Get, ClassOf, HashOf of the program. -/
namespace Go.Proofs.YtklafifiphbibaaGreat
open Go.RowKit

def elV (l : List Nat) (u : Value) (x : Int) : Value :=
  if fitB l x = true then (if kindW x = 2 then (if 2000 ≤ x / 2 then .iface 93 (.agg #[u, .int .i64 (x / 2)]) else .iface 91 (.agg #[u, .int .i64 (x / 2)])) else .iface 89 (.agg #[])) else .iface 86 (.agg #[])

theorem mNF (w : World) : (method 277 86 (.agg #[]) "loop.example/g00140/impl.fields").run Tryz.prog w = .ok (153, .agg #[]) w := by kernel_rfl
theorem mNC (w : World) : (method 277 86 (.agg #[]) "loop.example/g00140/impl.class").run Tryz.prog w = .ok (152, .agg #[]) w := by kernel_rfl
theorem mNH (w : World) : (method 277 86 (.agg #[]) "loop.example/g00140/impl.hash").run Tryz.prog w = .ok (154, .agg #[]) w := by kernel_rfl
theorem mUF (w : World) : (method 277 89 (.agg #[]) "loop.example/g00140/impl.fields").run Tryz.prog w = .ok (156, .agg #[]) w := by kernel_rfl
theorem mUC (w : World) : (method 277 89 (.agg #[]) "loop.example/g00140/impl.class").run Tryz.prog w = .ok (155, .agg #[]) w := by kernel_rfl
theorem mUH (w : World) : (method 277 89 (.agg #[]) "loop.example/g00140/impl.hash").run Tryz.prog w = .ok (157, .agg #[]) w := by kernel_rfl
theorem mOF (u : Value) (x : Int) (w : World) : (method 277 91 (.agg #[u, .int .i64 x]) "loop.example/g00140/impl.fields").run Tryz.prog w = .ok (159, .agg #[u, .int .i64 x]) w := by kernel_rfl
theorem mOC (u : Value) (x : Int) (w : World) : (method 277 91 (.agg #[u, .int .i64 x]) "loop.example/g00140/impl.class").run Tryz.prog w = .ok (158, .agg #[u, .int .i64 x]) w := by kernel_rfl
theorem mOH (u : Value) (x : Int) (w : World) : (method 277 91 (.agg #[u, .int .i64 x]) "loop.example/g00140/impl.hash").run Tryz.prog w = .ok (160, .agg #[u, .int .i64 x]) w := by kernel_rfl
theorem mYF (u : Value) (x : Int) (w : World) : (method 277 93 (.agg #[u, .int .i64 x]) "loop.example/g00140/impl.fields").run Tryz.prog w = .ok (159, .agg #[u, .int .i64 x]) w := by kernel_rfl
theorem mYC (u : Value) (x : Int) (w : World) : (method 277 93 (.agg #[u, .int .i64 x]) "loop.example/g00140/impl.class").run Tryz.prog w = .ok (158, .agg #[u, .int .i64 x]) w := by kernel_rfl
theorem mYH (u : Value) (x : Int) (w : World) : (method 277 93 (.agg #[u, .int .i64 x]) "loop.example/g00140/impl.hash").run Tryz.prog w = .ok (160, .agg #[u, .int .i64 x]) w := by kernel_rfl

set_option maxHeartbeats 1600000 in
theorem elementOf_any (a1 oa : Option Addr) (n1 c1 oc : Nat) (l : List Nat) (x : Int) (w : World) (ho : IR w (.slice oa l.length oc) (ints l)) (hs : l.Pairwise (· < ·)) (h1 : l.length ≤ 1000000000) :
    Calls Tryz.prog 49 #[.agg #[.slice a1 n1 c1, .slice oa l.length oc], .int .i64 x] w fun e w' => e = .returned (elV l (.slice a1 n1 c1) x) ∧ Below w.heap.size w w' := by
  have hb0 := bel_one w (.cells #[.slice a1 n1 c1, .slice oa l.length oc] 47)
  have FT := draftFits_any a1 oa n1 c1 oc l x _ (ho.later hb0) hs h1
  have R := fun W => implRefOf_any x W
  have Y := fun W => isYoung_any (x / 2) W
  have EV : Hid (elV l (.slice a1 n1 c1) x = if fitB l x = true then (if kindW x = 2 then (if 2000 ≤ x / 2 then .iface 93 (.agg #[.slice a1 n1 c1, .int .i64 (x / 2)]) else .iface 91 (.agg #[.slice a1 n1 c1, .int .i64 (x / 2)])) else .iface 89 (.agg #[])) else .iface 86 (.agg #[])) := (rfl : _ = _)
  clear ho hs
  cases hf : fitB l x
  · rw [hf] at FT EV
    go_enter Tryz.func49, Tryz.ntmps49
    go_wp2_with fail
    refine FT.mono ?_
    rintro e w1 ⟨rfl, hb1⟩
    go_wp2
    go_ret
    exact ⟨by rw [EV.out]; rfl, bel_after hb0 hb1⟩
  rw [hf] at FT EV
  by_cases hk : kindW x = 2
  · have V : valK 2 x = x / 2 := by unfold valK; rw [if_pos hk]
    have K : isK 2 x = true := decide_eq_true hk
    rw [V, K] at R
    rw [if_pos rfl, if_pos hk] at EV
    clear V K hk hf
    by_cases hy : 2000 ≤ x / 2
    · rw [decide_eq_true hy] at Y
      rw [if_pos hy] at EV
      clear hy
      go_enter Tryz.func49, Tryz.ntmps49
      go_wp2_with fail
      refine FT.mono ?_
      rintro e w1 ⟨rfl, hb1⟩
      have c0 : w1.cell? ⟨w.heap.size, 0, none⟩ = some (.slice a1 n1 c1) := cell_later hb1 (cell_new w _ _ _ rfl 0 _ rfl)
      go_wp2_with (first | (go_at_call 51; refine (R _).mono ?_; rintro e wq ⟨rfl, hq⟩; obtain rfl := hq.symm) | (go_at_call 68; refine (Y _).mono ?_; rintro e wq ⟨rfl, hq⟩; obtain rfl := hq.symm))
      go_ret
      exact ⟨by rw [EV.out]; rfl, bel_after hb0 hb1⟩
    · rw [decide_eq_false hy] at Y
      rw [if_neg hy] at EV
      clear hy
      go_enter Tryz.func49, Tryz.ntmps49
      go_wp2_with fail
      refine FT.mono ?_
      rintro e w1 ⟨rfl, hb1⟩
      have c0 : w1.cell? ⟨w.heap.size, 0, none⟩ = some (.slice a1 n1 c1) := cell_later hb1 (cell_new w _ _ _ rfl 0 _ rfl)
      go_wp2_with (first | (go_at_call 51; refine (R _).mono ?_; rintro e wq ⟨rfl, hq⟩; obtain rfl := hq.symm) | (go_at_call 68; refine (Y _).mono ?_; rintro e wq ⟨rfl, hq⟩; obtain rfl := hq.symm))
      go_ret
      exact ⟨by rw [EV.out]; rfl, bel_after hb0 hb1⟩
  · have K : isK 2 x = false := decide_eq_false hk
    rw [K] at R
    rw [if_pos rfl, if_neg hk] at EV
    clear K hk hf Y
    go_enter Tryz.func49, Tryz.ntmps49
    go_wp2_with fail
    refine FT.mono ?_
    rintro e w1 ⟨rfl, hb1⟩
    go_wp2_with (go_at_call 51; refine (R _).mono ?_; rintro e wq ⟨rfl, hq⟩; obtain rfl := hq.symm)
    go_ret
    exact ⟨by rw [EV.out]; rfl, bel_after hb0 hb1⟩

theorem noneF_any (w : World) : Calls Tryz.prog 153 #[.agg #[]] w fun e w' => e = .returned (.slice none 0 0) ∧ Below w.heap.size w w' := by
  have hb := bel_one w (.cells #[] 86)
  go_enter Tryz.func153, Tryz.ntmps153
  go_wp2
  go_ret
  exact ⟨rfl, hb⟩
theorem noneC_any (w : World) : Calls Tryz.prog 152 #[.agg #[]] w fun e w' => e = .returned (.int .i64 (-1)) ∧ Below w.heap.size w w' := by
  have hb := bel_one w (.cells #[] 86)
  go_enter Tryz.func152, Tryz.ntmps152
  go_wp2
  go_ret
  exact ⟨rfl, hb⟩
theorem noneH_any (w : World) : Calls Tryz.prog 154 #[.agg #[]] w fun e w' => e = .returned (.int .i64 (-1)) ∧ Below w.heap.size w w' := by
  have hb := bel_one w (.cells #[] 86)
  go_enter Tryz.func154, Tryz.ntmps154
  go_wp2
  go_ret
  exact ⟨rfl, hb⟩
theorem numF_any (w : World) : Calls Tryz.prog 156 #[.agg #[]] w fun e w' => e = .returned (.slice none 0 0) ∧ Below w.heap.size w w' := by
  have hb := bel_one w (.cells #[] 89)
  go_enter Tryz.func156, Tryz.ntmps156
  go_wp2
  go_ret
  exact ⟨rfl, hb⟩
theorem numC_any (w : World) : Calls Tryz.prog 155 #[.agg #[]] w fun e w' => e = .returned (.int .i64 100) ∧ Below w.heap.size w w' := by
  have hb := bel_one w (.cells #[] 89)
  go_enter Tryz.func155, Tryz.ntmps155
  go_wp2
  go_ret
  exact ⟨rfl, hb⟩
theorem numH_any (w : World) : Calls Tryz.prog 157 #[.agg #[]] w fun e w' => e = .returned (.int .i64 0) ∧ Below w.heap.size w w' := by
  have hb := bel_one w (.cells #[] 89)
  go_enter Tryz.func157, Tryz.ntmps157
  go_wp2
  go_ret
  exact ⟨rfl, hb⟩

theorem hdC1 (a b c d : Int) (w : World) : (Instr.field 111 (.agg #[.int .i64 a, .int .i64 b, .int .i64 c, .int .i64 d]) 1).run Tryz.prog w = .ok (.int .i64 b) w := by kernel_rfl
theorem hdC2 (a b c d : Int) (w : World) : (Instr.field 111 (.agg #[.int .i64 a, .int .i64 b, .int .i64 c, .int .i64 d]) 2).run Tryz.prog w = .ok (.int .i64 c) w := by kernel_rfl

section
variable (b o cap : Nat) (W : List Int) (a : Nat) (w : World) (hW : WS w b o W) (hl : W.length = 3200) (ha : a + 4 ≤ 3200)
include hW hl ha
theorem objC_any : Calls Tryz.prog 158 #[.agg #[.slice (some ⟨b, o, none⟩) 3200 cap, .int .i64 a]] w fun e w' => e = .returned (.int .i64 (gw W (a + 1))) ∧ Below w.heap.size w w' := by
  have hb := bel_one w (.cells #[.slice (some ⟨b, o, none⟩) 3200 cap, .int .i64 a] 91)
  have C := headerAt_any b o cap W a _ (hW.later hb) hl ha
  have f1 := hdC1 (gw W a) (gw W (a + 1)) (gw W (a + 2)) (gw W (a + 3))
  clear hW hl
  generalize gw W a = x0 at *
  generalize gw W (a + 1) = x1 at *
  generalize gw W (a + 2) = x2 at *
  generalize gw W (a + 3) = x3 at *
  go_enter Tryz.func158, Tryz.ntmps158
  go_wp2_with fail
  refine C.mono ?_
  rintro e w1 ⟨rfl, hb1⟩
  go_wp2
  go_ret
  exact ⟨rfl, bel_after hb hb1⟩
theorem objH_any : Calls Tryz.prog 160 #[.agg #[.slice (some ⟨b, o, none⟩) 3200 cap, .int .i64 a]] w fun e w' => e = .returned (.int .i64 (gw W (a + 2))) ∧ Below w.heap.size w w' := by
  have hb := bel_one w (.cells #[.slice (some ⟨b, o, none⟩) 3200 cap, .int .i64 a] 91)
  have C := headerAt_any b o cap W a _ (hW.later hb) hl ha
  have f1 := hdC2 (gw W a) (gw W (a + 1)) (gw W (a + 2)) (gw W (a + 3))
  clear hW hl
  generalize gw W a = x0 at *
  generalize gw W (a + 1) = x1 at *
  generalize gw W (a + 2) = x2 at *
  generalize gw W (a + 3) = x3 at *
  go_enter Tryz.func160, Tryz.ntmps160
  go_wp2_with fail
  refine C.mono ?_
  rintro e w1 ⟨rfl, hb1⟩
  go_wp2
  go_ret
  exact ⟨rfl, bel_after hb hb1⟩
end

/-- Where the fields of an object lie. -/
theorem fieldsAt_at (b o cap : Nat) (W : List Int) (a : Nat) (w : World) (hW : WS w b o W) (hl : W.length = 3200) (hc : 3200 ≤ cap) (ha : a + 4 ≤ 3200) (hs : 0 ≤ gw W a ∧ gw W a ≤ 60) (hn : nx W a ≤ 3200) :
    Calls Tryz.prog 86 #[.slice (some ⟨b, o, none⟩) 3200 cap, .int .i64 a] w fun e w' => (∃ q c, e = .returned (.slice (some ⟨b, q, none⟩) (gw W a).toNat c) ∧ (gw W a).toNat ≤ c ∧ ((gw W a).toNat = 0 ∨ q = o + (a + 4))) ∧ w' = w := by
  have B := behind_any b o cap W a w hW hl ha hs
  obtain ⟨m, hm⟩ := Int.eq_ofNat_of_zero_le hs.1
  have hn' : nx W a = a + 4 + m := by unfold nx; rw [hm]; rfl
  rw [hn'] at B hn
  have m60 : m ≤ 60 := by omega
  rw [hm, Int.toNat_natCast]
  clear hm hs hW hl hn'
  go_enter Tryz.func86, Tryz.ntmps86
  go_wp2_with fail
  refine B.mono ?_
  rintro x w1 ⟨rfl, rfl⟩
  go_wp2
  · have h0 : m = 0 := by omega
    go_ret
    exact ⟨⟨_, _, rfl, by omega, .inl h0⟩, rfl⟩
  · go_ret
    exact ⟨⟨_, _, rfl, by omega, .inr rfl⟩, rfl⟩
theorem objF_any (b o cap : Nat) (W : List Int) (a : Nat) (w : World) (hW : WS w b o W) (hl : W.length = 3200) (hc : 3200 ≤ cap) (ha : a + 4 ≤ 3200) (hs : 0 ≤ gw W a ∧ gw W a ≤ 60) (hn : nx W a ≤ 3200) :
    Calls Tryz.prog 159 #[.agg #[.slice (some ⟨b, o, none⟩) 3200 cap, .int .i64 a]] w fun e w' => (∃ q c, e = .returned (.slice (some ⟨b, q, none⟩) (gw W a).toNat c) ∧ (gw W a).toNat ≤ c ∧ ((gw W a).toNat = 0 ∨ q = o + (a + 4))) ∧ Below w.heap.size w w' := by
  have hb := bel_one w (.cells #[.slice (some ⟨b, o, none⟩) 3200 cap, .int .i64 a] 91)
  have C := fieldsAt_at b o cap W a _ (hW.later hb) hl hc ha hs hn
  clear hW hl hs hn
  generalize gw W a = x0 at *
  go_enter Tryz.func159, Tryz.ntmps159
  go_wp2_with fail
  refine C.mono ?_
  rintro e w1 ⟨⟨q, c, rfl, hc, hq⟩, hw⟩
  obtain rfl := hw.symm
  go_wp2
  go_ret
  exact ⟨⟨q, c, rfl, hc, hq⟩, hb⟩

end Go.Proofs.YtklafifiphbibaaGreat

/- Which elements are fleeting, and which old objects must be kept in mind: isFleeting, mustKeep of the program. -/
namespace Go.Proofs.YtklafifiphbibaaGreat
open Go.RowKit

theorem part_some (p : String → Bool) (f : String → String) (s : String) (r : List String) : ∃ m, (Instr.least ((s :: r).partition p).2 <|> Instr.least (((s :: r).partition p).1.map f)) = some m := by
  have nn : ∀ (a : String) (b : List String), ∃ m, Instr.least (a :: b) = some m := fun a b => ⟨_, rfl⟩
  rw [List.partition_eq_filter_filter]
  show ∃ m, (Instr.least ((s :: r).filter (not ∘ p)) <|> Instr.least (((s :: r).filter p).map f)) = some m
  cases hp : p s
  · rw [List.filter_cons_of_pos (p := not ∘ p) (by simp [hp])]
    obtain ⟨m, e⟩ := nn s (r.filter (not ∘ p))
    rw [e]
    exact ⟨m, rfl⟩
  · rw [List.filter_cons_of_pos (p := p) hp, List.map_cons]
    obtain ⟨m, e⟩ := nn (f s) ((r.filter p).map f)
    rw [e]
    cases Instr.least (List.filter (not ∘ p) (s :: r)) with
    | none => exact ⟨m, rfl⟩
    | some m' => exact ⟨m', rfl⟩
def missL (P : Program) (aT t : TypeId) : Option (List String) :=
  match P.underlying aT, P.info? t with
  | some (.interface want), some i => some ((want.toList.filter fun (name, sig) => !i.methods.any fun m => m.name == name && m.sig == sig).map (·.1))
  | _, _ => none
theorem ta_no {P : Program} {aT t : TypeId} {s : String} {r : List String} (h : missL P aT t = some (s :: r)) (hz : (P.info? aT).bind (·.zero) = some .nilIface) (v : Value) (xT : TypeId) (w : World) :
    (Instr.typeAssert (.iface t v) xT aT true).run P w = .ok (.tuple #[.nilIface, .bool false]) w := by
  unfold missL at h
  split at h
  · rename_i want i hu hi
    injection h with h
    obtain ⟨m, hm⟩ : ∃ m, Instr.missingMethod want i.methods = some m := by
      unfold Instr.missingMethod
      rw [h]
      dsimp only
      exact part_some _ _ s r
    obtain ⟨ia, hia, hza⟩ := Option.bind_eq_some_iff.1 hz
    simp [Instr.typeAssert, run_underlying hu, typeInfo, hi, hm, zeroValue, hia, hza]
  · cases h
theorem taN (w : World) : (Instr.typeAssert (.iface 86 (.agg #[])) 60 125 true).run Tryz.prog w = .ok (.tuple #[.nilIface, .bool false]) w := ta_no (s := "loop.example/g00140/impl.leaves") (r := []) (by kernel_rfl) (by kernel_rfl) _ _ w
theorem taU (w : World) : (Instr.typeAssert (.iface 89 (.agg #[])) 60 125 true).run Tryz.prog w = .ok (.tuple #[.nilIface, .bool false]) w := ta_no (s := "loop.example/g00140/impl.leaves") (r := []) (by kernel_rfl) (by kernel_rfl) _ _ w
theorem taO (u : Value) (x : Int) (w : World) : (Instr.typeAssert (.iface 91 (.agg #[u, .int .i64 x])) 60 125 true).run Tryz.prog w = .ok (.tuple #[.nilIface, .bool false]) w := ta_no (s := "loop.example/g00140/impl.leaves") (r := []) (by kernel_rfl) (by kernel_rfl) _ _ w
theorem taY (u : Value) (x : Int) (w : World) : (Instr.typeAssert (.iface 93 (.agg #[u, .int .i64 x])) 60 125 true).run Tryz.prog w = .ok (.tuple #[.iface 93 (.agg #[u, .int .i64 x]), .bool true]) w := by kernel_rfl

theorem fleet_el (l : List Nat) (u : Value) (x : Int) (w : World) :
    Calls Tryz.prog 74 #[elV l u x] w fun e w' => e = .returned (.bool (fitB l x && youngB x)) ∧ w' = w := by
  unfold elV
  cases hf : fitB l x
  · have t := taN
    rw [if_neg (by simp)]
    go_enter Tryz.func74, Tryz.ntmps74
    go_wp2
    go_ret
    exact ⟨rfl, rfl⟩
  rw [if_pos rfl]
  by_cases k : kindW x = 2
  · rw [if_pos k]
    by_cases y : 2000 ≤ x / 2
    · have Y : Hid (youngB x = true) := (by rw [young_ref (decide_eq_true k)]; exact decide_eq_true y : youngB x = true)
      have t := taY u (x / 2)
      rw [if_pos y]
      clear k y
      go_enter Tryz.func74, Tryz.ntmps74
      go_wp2
      go_ret
      exact ⟨by rw [Y.out]; rfl, rfl⟩
    · have Y : Hid (youngB x = false) := (by rw [young_ref (decide_eq_true k)]; exact decide_eq_false y : youngB x = false)
      have t := taO u (x / 2)
      rw [if_neg y]
      clear k y
      go_enter Tryz.func74, Tryz.ntmps74
      go_wp2
      go_ret
      exact ⟨by rw [Y.out]; rfl, rfl⟩
  · have Y : Hid (youngB x = false) := (young_no (decide_eq_false k) : youngB x = false)
    have t := taU
    rw [if_neg k]
    clear k
    go_enter Tryz.func74, Tryz.ntmps74
    go_wp2
    go_ret
    exact ⟨by rw [Y.out]; rfl, rfl⟩

/-- The predicate that is handed to ContainsFunc. -/
theorem mustOne_any (B : Nat) (a1 oa : Option Addr) (n1 c1 oc : Nat) (l : List Nat) (x : Int) (w : World) (hB : w.cell? ⟨B, 0, none⟩ = some (.slice a1 n1 c1)) (hB1 : w.cell? ⟨B, 1, none⟩ = some (.slice oa l.length oc)) (ho : IR w (.slice oa l.length oc) (ints l)) (hs : l.Pairwise (· < ·)) (h1 : l.length ≤ 1000000000) :
    Calls Tryz.prog 76 #[.int .i64 x, .pointer (some ⟨B, 0, none⟩)] w fun e w' => e = .returned (.bool (fitB l x && youngB x)) ∧ Below w.heap.size w w' := by
  have E := elementOf_any a1 oa n1 c1 oc l x w ho hs h1
  have FL := fun W => fleet_el l (.slice a1 n1 c1) x W
  generalize elV l (.slice a1 n1 c1) x = ev at *
  generalize (fitB l x && youngB x) = r at *
  clear ho hs
  go_enter Tryz.func76, Tryz.ntmps76
  go_wp2_with fail
  refine E.mono ?_
  rintro e w1 ⟨rfl, hb1⟩
  go_wp2_with fail
  refine (FL _).mono ?_
  rintro e wq ⟨rfl, hq⟩
  obtain rfl := hq.symm
  go_wp2
  go_ret
  exact ⟨rfl, hb1⟩

end Go.Proofs.YtklafifiphbibaaGreat
