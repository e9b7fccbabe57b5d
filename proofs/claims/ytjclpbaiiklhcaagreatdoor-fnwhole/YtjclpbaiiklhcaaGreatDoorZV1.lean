import Derived.Test.YtjclpbaiiklhcaaGreatDoorZV0
import Derived.Test.YtjclpbaiiklhcaaGreatDoorZNum
import Derived.Test.YtjclpbaiiklhcaaGreatDoorZShelf
import Derived.Deep.RegionHeld3
/- PackPage of the model, with what it calls. -/
namespace Go.Proofs.YtjclpbaiiklhcaaGreatDoor
open Go.RowKit

theorem dec_len : ∀ (k m : Nat), m < 10 ^ (k + 1) → (Lib.decDigits m).length ≤ k + 1
  | 0, m, h => by rw [Lib.decDigits, dif_pos (by omega)]; simp
  | k + 1, m, h => by
    rw [Lib.decDigits]
    split
    · simp
    · have h2 : m / 10 < 10 ^ (k + 1) := (Nat.div_lt_iff_lt_mul (by omega)).2 (by rw [Nat.pow_succ] at h; exact h)
      have := dec_len k _ h2
      rw [List.length_append]
      simp
      exact this

/-- The numeral of a number. -/
def itoaB (n : Int) : ByteArray := ⟨(Lib.itoa n).toArray⟩
theorem itoaB_size {n : Int} (h0 : -9223372036854775808 ≤ n) (h1 : n ≤ 9223372036854775807) : (itoaB n).size ≤ 20 := by
  show (Lib.itoa n).toArray.size ≤ 20
  rw [List.size_toArray]
  unfold Lib.itoa
  split
  · have := dec_len 18 n.natAbs (by omega)
    simp
    omega
  · have := dec_len 18 n.toNat (by omega)
    omega

theorem l1In_any (x lo hi : Int) (w : World) :
    Calls Tryz.prog 45 #[.int .i64 x, .int .i64 lo, .int .i64 hi] w fun e w' => e = .returned (.bool (decide (lo ≤ x ∧ x ≤ hi))) ∧ w' = w := by
  by_cases h : lo ≤ x
  · by_cases h2 : x ≤ hi
    · have g : (decide (lo ≤ x ∧ x ≤ hi)) = true := by simp [h, h2]
      rw [g]
      clear g
      go_enter Tryz.func45, Tryz.ntmps45
      go_wp2
      go_ret
      exact ⟨rfl, rfl⟩
    · have g : (decide (lo ≤ x ∧ x ≤ hi)) = false := by simp [h2]
      rw [g]
      clear g
      go_enter Tryz.func45, Tryz.ntmps45
      go_wp2
      go_ret
      exact ⟨rfl, rfl⟩
  · have g : (decide (lo ≤ x ∧ x ≤ hi)) = false := by simp [h]
    rw [g]
    clear g
    go_enter Tryz.func45, Tryz.ntmps45
    go_wp2
    go_ret
    exact ⟨rfl, rfl⟩

def pgOk (n e : Int) (b : ByteArray) : Bool := decide (0 ≤ n ∧ n ≤ 29) && decide (0 ≤ e ∧ e ≤ 999999999) && decide (b.size ≤ 200)
theorem pgOk_range {n e : Int} {b : ByteArray} (h : pgOk n e b = true) : 0 ≤ n ∧ n ≤ 29 ∧ 0 ≤ e ∧ e ≤ 999999999 ∧ b.size ≤ 200 := by
  unfold pgOk at h
  simp at h
  omega

set_option maxHeartbeats 400000 in
theorem l2Range_any (n e : Int) (b : ByteArray) (w : World) :
    Calls Tryz.prog 85 #[.int .i64 n, .int .i64 e, .string b] w fun x w' => x = .returned (.bool (pgOk n e b)) ∧ w' = w := by
  go_enter Tryz.func85, Tryz.ntmps85
  go_wp2_with (fail)
  refine (l1In_any _ _ _ _).mono ?_
  rintro x w1 ⟨rfl, rfl⟩
  cases h1 : decide (0 ≤ n ∧ n ≤ 29)
  · have G : Hid (pgOk n e b = false) := (by unfold pgOk; rw [h1]; rfl : pgOk n e b = false)
    clear h1
    go_wp2
    go_ret
    exact ⟨by rw [G.out]; rfl, rfl⟩
  go_wp2_with (fail)
  refine (l1In_any _ _ _ _).mono ?_
  rintro x w2 ⟨rfl, rfl⟩
  cases h2 : decide (0 ≤ e ∧ e ≤ 999999999)
  · have G : Hid (pgOk n e b = false) := (by unfold pgOk; rw [h1, h2]; rfl : pgOk n e b = false)
    clear h1 h2
    go_wp2
    go_ret
    exact ⟨by rw [G.out]; rfl, rfl⟩
  have g : pgOk n e b = decide (b.size ≤ 200) := by unfold pgOk; rw [h1, h2]; simp
  clear h1 h2
  by_cases hb : b.size ≤ 200
  · have G : Hid (pgOk n e b = true) := (by rw [g]; simp [hb] : pgOk n e b = true)
    have g2 : decide ((b.size : Int) ≤ 200) = true := by simp; omega
    clear g
    go_wp2
    go_ret
    exact ⟨by rw [G.out]; rfl, rfl⟩
  · have G : Hid (pgOk n e b = false) := (by rw [g]; simp; omega : pgOk n e b = false)
    have g2 : decide ((b.size : Int) ≤ 200) = false := by simp; omega
    clear g
    go_wp2
    go_ret
    exact ⟨by rw [G.out]; rfl, rfl⟩

theorem bel_after {a b c : World} (h : Below a.heap.size a b) (k : Below b.heap.size b c) : Below a.heap.size a c := h.trans (k.mono h.size)

def semi : ByteArray := ⟨#[59]⟩
def headS (n e : Int) : ByteArray := itoaB n ++ semi ++ itoaB e ++ semi
theorem headS_size {n e : Int} (h0 : -9223372036854775808 ≤ n) (h1 : n ≤ 9223372036854775807) (k0 : -9223372036854775808 ≤ e) (k1 : e ≤ 9223372036854775807) : (headS n e).size ≤ 42 := by
  have a := itoaB_size h0 h1
  have b := itoaB_size k0 k1
  have c : semi.size = 1 := rfl
  unfold headS
  rw [ByteArray.size_append, ByteArray.size_append, ByteArray.size_append]
  omega

set_option maxHeartbeats 400000 in
theorem l2Head_any (n e : Int) (b : ByteArray) (w : World) (h0 : -9223372036854775808 ≤ n) (h1 : n ≤ 9223372036854775807) (k0 : -9223372036854775808 ≤ e) (k1 : e ≤ 9223372036854775807) :
    Calls Tryz.prog 86 #[.int .i64 n, .int .i64 e, .string b] w fun x w' => x = .returned (.string (headS n e)) ∧ Below w.heap.size w w' := by
  have s1 := itoaB_size h0 h1
  have s2 := itoaB_size k0 k1
  go_enter Tryz.func86, Tryz.ntmps86
  go_wp2_with (fail)
  refine (l2Int_any n _ h0 h1).mono ?_
  rintro x w1 ⟨rfl, hb1⟩
  have e1 : (⟨(Lib.itoa n).toArray⟩ : ByteArray) = itoaB n := rfl
  rw [e1]
  have g1 : (itoaB n ++ semi).size ≤ 21 := by rw [ByteArray.size_append]; have c : semi.size = 1 := rfl; omega
  go_wp2_with (fail)
  refine (l2Int_any e _ k0 k1).mono ?_
  rintro x w2 ⟨rfl, hb2⟩
  have e2 : (⟨(Lib.itoa e).toArray⟩ : ByteArray) = itoaB e := rfl
  rw [e2]
  go_wp2
  go_ret
  exact ⟨rfl, bel_after hb1 hb2⟩

def packS (n e : Int) (b : ByteArray) : ByteArray := ⟨#[80]⟩ ++ headS n e ++ itoaB (crcS (headS n e ++ b)) ++ semi ++ b
def packT (n e : Int) (b : ByteArray) : ByteArray := if pgOk n e b = true then packS n e b else ⟨#[]⟩

set_option maxHeartbeats 400000 in
theorem packPage_any (n e : Int) (b : ByteArray) (w : World) :
    Calls Tryz.prog 61 #[.int .i64 n, .int .i64 e, .string b] w fun x w' => x = .returned (.tuple #[.string (packT n e b), .bool (pgOk n e b)]) ∧ Below w.heap.size w w' := by
  go_enter Tryz.func61, Tryz.ntmps61
  go_wp2_with (fail)
  refine (l2Range_any _ _ _ _).mono ?_
  rintro x w1 ⟨rfl, rfl⟩
  cases h : pgOk n e b
  · have H : Hid (pgOk n e b = false) := h
    clear h
    go_wp2
    exact bodyPost_ret (v := .tuple #[.string ⟨#[]⟩, .bool false]) (by simp [results, Tryz.results61, go_sem]) rfl ⟨by unfold packT; rw [H.out]; rfl, Below.refl _ _⟩
  have H : Hid (pgOk n e b = true) := h
  obtain ⟨r1, r2, r3, r4, r5⟩ := pgOk_range h
  clear h
  have sh := headS_size (n := n) (e := e) (by omega) (by omega) (by omega) (by omega)
  obtain ⟨c1, c2⟩ := crcS_range (headS n e ++ b)
  have si := itoaB_size (n := crcS (headS n e ++ b)) (by omega) (by omega)
  have sz : (headS n e ++ b).size ≤ 1000 := by rw [ByteArray.size_append]; omega
  go_wp2_with (fail)
  refine (l2Head_any n e b _ (by omega) (by omega) (by omega) (by omega)).mono ?_
  rintro x w2 ⟨rfl, hb2⟩
  go_wp2_with (fail)
  refine (crc_any _ _ (by omega)).mono ?_
  rintro x w3 ⟨rfl, rfl⟩
  go_wp2_with (fail)
  refine (l2Int_any _ _ (by omega) (by omega)).mono ?_
  rintro x w4 ⟨rfl, hb4⟩
  have e2 : (⟨(Lib.itoa (crcS (headS n e ++ b))).toArray⟩ : ByteArray) = itoaB (crcS (headS n e ++ b)) := rfl
  rw [e2]
  clear e2
  generalize hcc : crcS (headS n e ++ b) = cc at *
  have HC : Hid (crcS (headS n e ++ b) = cc) := hcc
  clear hcc
  go_wp2
  exact bodyPost_ret (v := .tuple #[.string (⟨#[80]⟩ ++ headS n e ++ itoaB cc ++ ⟨#[59]⟩ ++ b), .bool true]) (by simp [results, Tryz.results61, go_sem]) rfl ⟨by unfold packT packS; rw [H.out, HC.out]; rfl, bel_after hb2 hb4⟩

end Go.Proofs.YtjclpbaiiklhcaaGreatDoor

/- strconv.FormatInt and strconv.Itoa at base 10, by the shelf, and the table that they read. -/
namespace Go.Proofs.YtjclpbaiiklhcaaGreatDoor
open Go.RowKit

def powName : String := (Rows.fnCommittedRow.laid.map (·.1)).getD 2 ""
/-- The table of the powers of ten holds what its initialiser lays. -/
def Tb (w : World) : Prop := Lib.TabIs Tryz.prog w powName .u64 Lib.pow10Tab

theorem Tb.later {w w' : World} (h : Tb w) (hb : Below w.heap.size w w') : Tb w' := by
  unfold Tb Lib.TabIs World.var? at *
  cases hg : Tryz.prog.globalNamed powName with
  | none => simp [hg] at h
  | some g =>
    simp only [hg, Option.bind_some] at h ⊢
    have hlt : g < w.heap.size := by
      rcases Nat.lt_or_ge g w.heap.size with h' | h'
      · exact h'
      · rw [Array.getElem?_eq_none h'] at h; simp at h
    rw [hb.block g hlt]
    exact h

theorem bel_grow (w : World) (q : Nat) (os : Array Obj) : Below w.heap.size w (Sort.grow (w.drewN q) os) :=
  ⟨rfl, rfl, rfl, by simp [Sort.grow], fun i hi => by
    show ((w.drewN q).heap ++ os)[i]? = _
    rw [Array.getElem?_append_left (by show i < w.heap.size; omega)]
    rfl⟩

theorem fmt_any (n : Int) (w : World) (h0 : -9223372036854775808 ≤ n) (h1 : n ≤ 9223372036854775807) (ht : Tb w) :
    Calls Tryz.prog 77 #[.int .i64 n, .int .i64 10] w fun e w' => e = .returned (.string (itoaB n)) ∧ Below w.heap.size w w' :=
  (Any.strconv_FormatInt_10 Tryz.laysM173 n h0 h1 w ht).mono fun _ _ ⟨he, _, _, hw⟩ => ⟨he, by rw [hw]; exact bel_grow _ _ _⟩
theorem itoa_any (n : Int) (w : World) (h0 : -9223372036854775808 ≤ n) (h1 : n ≤ 9223372036854775807) (ht : Tb w) :
    Calls Tryz.prog 79 #[.int .i64 n] w fun e w' => e = .returned (.string (itoaB n)) ∧ Below w.heap.size w w' :=
  (Any.strconv_Itoa Tryz.laysM171 n h0 h1 w ht).mono fun _ _ ⟨he, _, _, hw⟩ => ⟨he, by rw [hw]; exact bel_grow _ _ _⟩

end Go.Proofs.YtjclpbaiiklhcaaGreatDoor

/- The sum of a text by bytes: what a byte's sum and the rest of the number make together. -/
namespace Go.Proofs.YtjclpbaiiklhcaaGreatDoor
open Go.RowKit

theorem half_xor (a b : Nat) : (a ^^^ b) / 2 = (a / 2) ^^^ (b / 2) := by
  apply Nat.eq_of_testBit_eq
  intro i
  rw [Nat.testBit_div_two, Nat.testBit_xor, Nat.testBit_xor, Nat.testBit_div_two, Nat.testBit_div_two]
theorem crcBit_xor (a b : Nat) : crcBit (a ^^^ b) = crcBit a ^^^ crcBit b := by
  have h := @Nat.xor_mod_two_eq_one a b
  unfold crcBit
  rw [half_xor]
  generalize a / 2 = x
  generalize b / 2 = y
  by_cases ha : a % 2 = 1 <;> by_cases hb : b % 2 = 1
  · rw [if_neg (by rw [h]; simp [ha, hb]), if_pos ha, if_pos hb, Nat.xor_assoc x, Nat.xor_comm 3988292384, Nat.xor_assoc y, Nat.xor_self, Nat.xor_zero]
  · rw [if_pos (by rw [h]; simp [ha, hb]), if_pos ha, if_neg hb, Nat.xor_assoc, Nat.xor_assoc, Nat.xor_comm y]
  · rw [if_pos (by rw [h]; simp [ha, hb]), if_neg ha, if_pos hb, Nat.xor_assoc]
  · rw [if_neg (by rw [h]; simp [ha, hb]), if_neg ha, if_neg hb]
theorem crcBits_xor (a b : Nat) : ∀ k, crcBits k (a ^^^ b) = crcBits k a ^^^ crcBits k b
  | 0 => rfl
  | k + 1 => by
    show crcBit (crcBits k (a ^^^ b)) = crcBit (crcBits k a) ^^^ crcBit (crcBits k b)
    rw [crcBits_xor a b k, crcBit_xor]
theorem crcBit_even (q : Nat) : crcBit (q * 2) = q := by
  unfold crcBit
  rw [if_neg (by omega)]
  omega
theorem crcBits_high (q : Nat) : crcBits 8 (q * 256) = q := by
  show crcBit (crcBit (crcBit (crcBit (crcBit (crcBit (crcBit (crcBit (q * 256)))))))) = q
  rw [show q * 256 = q * 128 * 2 from by omega, crcBit_even, show q * 128 = q * 64 * 2 from by omega, crcBit_even, show q * 64 = q * 32 * 2 from by omega, crcBit_even,
    show q * 32 = q * 16 * 2 from by omega, crcBit_even, show q * 16 = q * 8 * 2 from by omega, crcBit_even, show q * 8 = q * 4 * 2 from by omega, crcBit_even,
    show q * 4 = q * 2 * 2 from by omega, crcBit_even, crcBit_even]
theorem parts_xor (c : Nat) : c = (c % 256) ^^^ (c / 256 * 256) := by
  apply Nat.eq_of_testBit_eq
  intro i
  rw [Nat.testBit_xor, show (256 : Nat) = 2 ^ 8 from rfl, Nat.testBit_mod_two_pow, Nat.testBit_mul_two_pow, Nat.testBit_div_two_pow]
  by_cases h : i < 8
  · have : ¬ 8 ≤ i := by omega
    simp [h, this]
  · have h8 : 8 ≤ i := by omega
    simp [h, h8, show i - 8 + 8 = i from by omega]
/-- A round of the sum, by the byte's own sum. -/
theorem crcByte_table (c : Nat) (b : UInt8) : crcByte c b = crcBits 8 ((c % 256) ^^^ b.toNat) ^^^ (c / 256) := by
  unfold crcByte
  have e : c ^^^ b.toNat = ((c % 256) ^^^ b.toNat) ^^^ (c / 256 * 256) := by
    conv => lhs; rw [parts_xor c]
    rw [Nat.xor_assoc, Nat.xor_comm (c / 256 * 256), Nat.xor_assoc]
  rw [e, crcBits_xor, crcBits_high]

theorem xor32 (a b : Nat) (ha : a < 4294967296) (hb : b < 4294967296) : bits .xor .u32 (a : Int) (b : Int) = ((a ^^^ b : Nat) : Int) := by
  have hx : a ^^^ b < 4294967296 := Nat.xor_lt_two_pow (n := 32) (by omega) (by omega)
  unfold bits
  show IntKind.wrap .u32 ((BitVec.ofInt 32 (a : Int) ^^^ BitVec.ofInt 32 (b : Int)).toNat : Int) = _
  rw [BitVec.toNat_xor, BitVec.ofInt_natCast, BitVec.ofInt_natCast, BitVec.toNat_ofNat, BitVec.toNat_ofNat, Nat.mod_eq_of_lt (by omega), Nat.mod_eq_of_lt (by omega)]
  simp [IntKind.wrap, IntKind.bits, IntKind.signed]
  omega
theorem xor8 (a b : Nat) (ha : a < 256) (hb : b < 256) : bits .xor .u8 (a : Int) (b : Int) = ((a ^^^ b : Nat) : Int) := by
  have hx : a ^^^ b < 256 := Nat.xor_lt_two_pow (n := 8) (by omega) (by omega)
  unfold bits
  show IntKind.wrap .u8 ((BitVec.ofInt 8 (a : Int) ^^^ BitVec.ofInt 8 (b : Int)).toNat : Int) = _
  rw [BitVec.toNat_xor, BitVec.ofInt_natCast, BitVec.ofInt_natCast, BitVec.toNat_ofNat, BitVec.toNat_ofNat, Nat.mod_eq_of_lt (by omega), Nat.mod_eq_of_lt (by omega)]
  simp [IntKind.wrap, IntKind.bits, IntKind.signed]
  omega

end Go.Proofs.YtjclpbaiiklhcaaGreatDoor

/- The program's own sum of a text. -/
namespace Go.Proofs.YtjclpbaiiklhcaaGreatDoor
open Go.RowKit

set_option maxRecDepth 100000 in
set_option maxHeartbeats 1000000 in
theorem byteSum_any (b : Nat) (w : World) (hb : b < 256) :
    Calls Tryz.prog 93 #[.int .u8 b] w fun e w' => e = .returned (.int .u32 (crcBits 8 b : Nat)) ∧ w' = w := by
  go_enter Tryz.func93, Tryz.ntmps93
  go_wp2
  go_loopw [3, 7] (fun d j wr' => ∃ m : Nat, m ≤ 8 ∧ j = .int .i64 m ∧ d = .int .u32 (crcBits m b : Nat) ∧ wr' = w) (fun _ j _ => 8 - (intOf j).toNat)
  case atStart => exact ⟨0, Nat.zero_le _, rfl, rfl, rfl⟩
  case round =>
    obtain ⟨m, hm, rfl, rfl, rfl⟩ := hrel
    by_cases hm8 : m < 8
    · have hd := crcBits_lt (show b < 4294967296 by omega) m
      have H2 : Hid (crcBits (m + 1) b = crcBit (crcBits m b)) := (rfl : crcBits (m + 1) b = crcBit (crcBits m b))
      generalize crcBits m b = d at *
      have t1 := tmod2 d
      have t2 := tdiv2 d
      by_cases hodd : d % 2 = 1
      · go_wp2
        refine ⟨⟨m + 1, by omega, by go_num, ?_, trivial⟩, by simp [intOf]; omega⟩
        have h := xor32 (d / 2) 3988292384 (by omega) (by omega)
        have e : ((d / 2 : Nat) : Int) = (d : Int) / 2 := by omega
        rw [e] at h
        rw [H2.out, crcBit, if_pos hodd, ← h]
        rfl
      · go_wp2
        refine ⟨⟨m + 1, by omega, by go_num, ?_, trivial⟩, by simp [intOf]; omega⟩
        have e : ((d / 2 : Nat) : Int) = (d : Int) / 2 := by omega
        rw [H2.out, crcBit, if_neg hodd, e]
    · obtain rfl : m = 8 := by omega
      go_wp2
      go_ret
      exact ⟨rfl, rfl⟩
set_option maxRecDepth 100000 in
set_option maxHeartbeats 1000000 in
theorem sumOf_any (s : ByteArray) (w : World) (hs : s.size ≤ 1000000000000) :
    Calls Tryz.prog 81 #[.string s] w fun e w' => e = .returned (.int .i64 (crcS s)) ∧ w' = w := by
  go_enter Tryz.func81, Tryz.ntmps81
  go_wp2
  go_loopw [3, 7] (fun c i wr => ∃ k : Nat, k ≤ s.size ∧ i = .int .i64 k ∧ c = .int .u32 (crcL (s.data.toList.take k) : Nat) ∧ wr = w) (fun _ i _ => s.size - (intOf i).toNat)
  case atStart => exact ⟨0, Nat.zero_le _, rfl, rfl, rfl⟩
  case round =>
    obtain ⟨k, hk, rfl, rfl, rfl⟩ := hrel
    by_cases hlt : k < s.size
    · have hc := crcL_lt (s.data.toList.take k)
      generalize hcc : crcL (s.data.toList.take k) = c at *
      have hb : s[k].toNat < 256 := s[k].toNat_lt
      have hx8 : bits .xor .u8 ((c : Int) % 256) (s[k].toNat : Int) = ((c % 256 ^^^ s[k].toNat : Nat) : Int) := xor8 (c % 256) s[k].toNat (by omega) hb
      have hd : c % 256 ^^^ s[k].toNat < 256 := Nat.xor_lt_two_pow (n := 8) (by omega) (by omega)
      have H1 : Hid (crcL (s.data.toList.take (k + 1)) = crcBits 8 (c % 256 ^^^ s[k].toNat) ^^^ (c / 256)) := (by
        rw [crcL_succ _ k (by simpa using hlt), hcc]
        exact crcByte_table c s[k] : crcL (s.data.toList.take (k + 1)) = crcBits 8 (c % 256 ^^^ s[k].toNat) ^^^ (c / 256))
      clear hcc
      generalize c % 256 ^^^ s[k].toNat = y at *
      have hy := crcBits_lt (show y < 4294967296 by omega) 8
      have hx32 := xor32 (crcBits 8 y) (c / 256) hy (by omega)
      go_wp2_with (go_at_call 93; refine (byteSum_any y _ hd).mono ?_; rintro e w' ⟨rfl, rfl⟩)
      refine ⟨⟨k + 1, by omega, by go_num, ?_, trivial⟩, by simp [intOf]; omega⟩
      have e : ((c / 256 : Nat) : Int) = (c : Int) / 256 := by omega
      rw [H1.out, ← hx32, e]
    · obtain rfl : k = s.size := by omega
      go_wp2
      go_ret
      refine ⟨congrArg (fun z => Ending.returned (.int .i64 z)) ?_, rfl⟩
      have e : s.data.toList.take s.size = s.data.toList := List.take_of_length_le (by rw [Array.length_toList]; exact Nat.le_refl _)
      have h := crcL_lt s.data.toList
      rw [e]
      unfold crcS
      omega

end Go.Proofs.YtjclpbaiiklhcaaGreatDoor

/- pageHead of the program. -/
namespace Go.Proofs.YtjclpbaiiklhcaaGreatDoor
open Go.RowKit

theorem cell_later {w w' : World} {b o : Nat} {v : Value} (hb : Below w.heap.size w w') (h : w.cell? ⟨b, o, none⟩ = some v) : w'.cell? ⟨b, o, none⟩ = some v := by
  have hlt : b < w.heap.size := by
    rcases Nat.lt_or_ge b w.heap.size with h' | h'
    · exact h'
    · simp [World.cell?, Array.getElem?_eq_none h'] at h
  rw [hb.cell (p := ⟨b, o, none⟩) hlt]
  exact h
theorem bel_one (w : World) (o : Obj) : Below w.heap.size w (w.alloc o) := (Below.refl _ _).alloc (Nat.le_refl _) _
/-- Two cells of a box, whatever came later. -/
theorem keep2 {W a b : World} {N i j : Nat} {u v : Value} (k : Below a.heap.size a b) (h : Below W.heap.size W a ∧ a.cell? ⟨N, i, none⟩ = some u ∧ a.cell? ⟨N, j, none⟩ = some v) :
    Below W.heap.size W b ∧ b.cell? ⟨N, i, none⟩ = some u ∧ b.cell? ⟨N, j, none⟩ = some v :=
  ⟨bel_after h.1 k, cell_later k h.2.1, cell_later k h.2.2⟩
theorem keep4 {W a b : World} {N : Nat} {u v x y : Value} (k : Below a.heap.size a b) (h : Below W.heap.size W a ∧ a.cell? ⟨N, 0, none⟩ = some u ∧ a.cell? ⟨N, 1, none⟩ = some v ∧ a.cell? ⟨N, 2, none⟩ = some x ∧ a.cell? ⟨N, 3, none⟩ = some y) :
    Below W.heap.size W b ∧ b.cell? ⟨N, 0, none⟩ = some u ∧ b.cell? ⟨N, 1, none⟩ = some v ∧ b.cell? ⟨N, 2, none⟩ = some x ∧ b.cell? ⟨N, 3, none⟩ = some y :=
  ⟨bel_after h.1 k, cell_later k h.2.1, cell_later k h.2.2.1, cell_later k h.2.2.2.1, cell_later k h.2.2.2.2⟩
theorem Tb.held {W w : World} {q : Prop} (h : Tb W) (hb : Below W.heap.size W w ∧ q) : Tb w := h.later hb.1

/-- A page as the program holds it. -/
def pageV (n e s : Int) (b : ByteArray) : Value := .agg #[.int .i64 n, .int .i64 e, .int .i64 s, .string b]

set_option maxRecDepth 100000 in
set_option maxHeartbeats 3200000 in
theorem pageHead_any (n e s : Int) (b : ByteArray) (w : World) (h0 : -9223372036854775808 ≤ n) (h1 : n ≤ 9223372036854775807) (k0 : -9223372036854775808 ≤ e) (k1 : e ≤ 9223372036854775807) (ht : Tb w) :
    Calls Tryz.prog 76 #[pageV n e s b] w fun x w' => x = .returned (.string (headS n e)) ∧ Below w.heap.size w w' := by
  have s1 := itoaB_size h0 h1
  have s2 := itoaB_size k0 k1
  have ht1 : Tb (w.alloc (.cells #[.int .i64 n, .int .i64 e, .int .i64 s, .string b] 104)) := ht.later (bel_one _ _)
  have g1 : ¬ 9223372036854775807 < (itoaB n).size + 1 := by omega
  have g2 : ¬ 9223372036854775807 < (itoaB n).size + 1 + (itoaB e).size := by omega
  have g3 : ¬ 9223372036854775807 < (itoaB n).size + 1 + (itoaB e).size + 1 := by omega
  unfold pageV
  go_enter Tryz.func76, Tryz.ntmps76
  go_wp2_with fail
  go_region_held3 (fun w' => Below (w.alloc (.cells #[.int .i64 n, .int .i64 e, .int .i64 s, .string b] 104)).heap.size (w.alloc (.cells #[.int .i64 n, .int .i64 e, .int .i64 s, .string b] 104)) w' ∧ w'.cell? ⟨w.heap.size, 0, none⟩ = some (.int .i64 n) ∧ w'.cell? ⟨w.heap.size, 1, none⟩ = some (.int .i64 e))
    (first | assumption | (refine ⟨(Below.refl _ _).drew, ?_, ?_⟩ <;> simp) | (exact keep2 (by assumption) (by assumption)) | (go_keep; done))
    (first
      | (go_at_call 77; refine (fmt_any _ _ (by assumption) (by assumption) ?_).mono ?_; (focus (exact ht1.held (by assumption))); rintro x w2 ⟨rfl, hb2⟩))
  all_goals
    go_wp2
    go_ret
    exact ⟨rfl, bel_after (bel_one _ _) (And.left (by assumption))⟩

theorem pageSum_size {n e : Int} {b : ByteArray} (h0 : -9223372036854775808 ≤ n) (h1 : n ≤ 9223372036854775807) (k0 : -9223372036854775808 ≤ e) (k1 : e ≤ 9223372036854775807) : (headS n e ++ b).size ≤ 42 + b.size := by
  have := headS_size h0 h1 k0 k1
  rw [ByteArray.size_append]
  omega

set_option maxRecDepth 100000 in
set_option maxHeartbeats 3200000 in
theorem pageSum_any (n e s : Int) (b : ByteArray) (w : World) (h0 : -9223372036854775808 ≤ n) (h1 : n ≤ 9223372036854775807) (k0 : -9223372036854775808 ≤ e) (k1 : e ≤ 9223372036854775807) (hb : b.size ≤ 100000000000) (ht : Tb w) :
    Calls Tryz.prog 78 #[pageV n e s b] w fun x w' => x = .returned (.int .i64 (crcS (headS n e ++ b))) ∧ Below w.heap.size w w' := by
  have s1 := headS_size h0 h1 k0 k1
  have ht1 : Tb (w.alloc (.cells #[.int .i64 n, .int .i64 e, .int .i64 s, .string b] 104)) := ht.later (bel_one _ _)
  have g1 : ¬ 9223372036854775807 < (headS n e).size + b.size := by omega
  have g2 : (headS n e ++ b).size ≤ 1000000000000 := by rw [ByteArray.size_append]; omega
  unfold pageV
  go_enter Tryz.func78, Tryz.ntmps78
  go_wp2_with fail
  go_region_held3 (fun w' => Below (w.alloc (.cells #[.int .i64 n, .int .i64 e, .int .i64 s, .string b] 104)).heap.size (w.alloc (.cells #[.int .i64 n, .int .i64 e, .int .i64 s, .string b] 104)) w' ∧ w'.cell? ⟨w.heap.size, 0, none⟩ = some (.int .i64 n) ∧ w'.cell? ⟨w.heap.size, 1, none⟩ = some (.int .i64 e) ∧ w'.cell? ⟨w.heap.size, 2, none⟩ = some (.int .i64 s) ∧ w'.cell? ⟨w.heap.size, 3, none⟩ = some (.string b))
    (first | assumption | (refine ⟨(Below.refl _ _).drew, ?_, ?_, ?_, ?_⟩ <;> simp) | (exact keep4 (by assumption) (by assumption)))
    (first
      | (go_at_call 76; refine (pageHead_any _ _ _ _ _ h0 h1 k0 k1 ?_).mono ?_; (focus (exact ht1.held (by assumption))); rintro x w2 ⟨rfl, hb2⟩)
      | (go_at_call 81; refine (sumOf_any _ _ g2).mono ?_; rintro x w3 ⟨rfl, rfl⟩))
  all_goals
    go_wp2
    go_ret
    exact ⟨rfl, bel_after (bel_one _ _) (And.left (by assumption))⟩

end Go.Proofs.YtjclpbaiiklhcaaGreatDoor
