import Derived.Test.YtjclpbaiiklhcaaGreatDoorZV7
import Derived.Test.YtjclpbaiiklhcaaGreatDoorZShelf2
import Derived.Test.YtjclpbaiiklhcaaGreatDoorZV1
import Derived.Test.YtjclpbaiiklhcaaGreatDoorZV6
/- readNumber and numberAhead of the program. -/
namespace Go.Proofs.YtjclpbaiiklhcaaGreatDoor
open Go.RowKit

/-- What the library's calls ask of the package-level variables. -/
structure Env (w : World) : Prop where
  tb : Tb w
  syn : ∃ t p, w.cell? ⟨10, 0, none⟩ = some (.iface t p)
  ran : ∃ t p, w.cell? ⟨11, 0, none⟩ = some (.iface t p)
  len : ∃ m, w.cell? ⟨7, 0, none⟩ = some (.int .i64 m)
theorem Env.later {w w' : World} (h : Env w) (hb : Below w.heap.size w w') : Env w' :=
  ⟨h.tb.later hb, let ⟨t, p, e⟩ := h.syn; ⟨t, p, cell_later hb e⟩, let ⟨t, p, e⟩ := h.ran; ⟨t, p, cell_later hb e⟩, let ⟨m, e⟩ := h.len; ⟨m, cell_later hb e⟩⟩

theorem trim_any (s : ByteArray) (w : World) : Calls Tryz.prog 106 #[.string s, .string ⟨#[45]⟩] w fun e w' => e = .returned (.string (bytesOf (bodyN s))) ∧ w' = w :=
  (Any.strings_TrimPrefix Tryz.lays101 s ⟨#[45]⟩ w).mono fun _ _ ⟨he, hw⟩ => ⟨by rw [he]; unfold bytesOf; rw [← trim_body], hw⟩
theorem parse_ok (s : ByteArray) (v : Int) (w : World) (hs : s.size ≤ 1000000000000) (h : Lib.parseIntB 64 s.data.toList = .ok v) :
    Calls Tryz.prog 107 #[.string s, .int .i64 10, .int .i64 64] w fun e w' => e = .returned (.tuple #[.int .i64 v, .nilIface]) ∧ Below w.heap.size w w' :=
  (Any.strconv_ParseInt_10_at64_ok Tryz.laysC174 s (by omega) v h w).mono fun _ _ ⟨he, hw⟩ => ⟨he, by
    rcases hw with rfl | ⟨t, rfl⟩
    · exact Below.refl _ _
    · exact Lib.bytesWorld_below _ _ _⟩
theorem parse_no (s : ByteArray) (w : World) (hs : s.size ≤ 1000000000000) (hE : Env w) (h : ∀ v, Lib.parseIntB 64 s.data.toList ≠ .ok v) :
    Calls Tryz.prog 107 #[.string s, .int .i64 10, .int .i64 64] w fun e w' => (∃ z tp p, e = .returned (.tuple #[.int .i64 z, .iface tp (.pointer (some p))])) ∧ Below w.heap.size w w' := by
  cases hp : Lib.parseIntB 64 s.data.toList with
  | ok v => exact absurd hp (h v)
  | «syntax» =>
    obtain ⟨t, p, hc⟩ := hE.syn
    exact (Any.strconv_ParseInt_10_at64_syntax Tryz.laysC174 s (by omega) hp _ w hc (.inr ⟨t, p, rfl⟩)).mono fun _ _ ⟨n, he, _, _, hb⟩ => ⟨⟨_, _, _, he⟩, hb⟩
  | range =>
    obtain ⟨t, p, hc⟩ := hE.ran
    exact (Any.strconv_ParseInt_10_at64_range Tryz.laysC174 s (by omega) hp _ w hc (.inr ⟨t, p, rfl⟩)).mono fun _ _ ⟨n, he, _, _, hb⟩ => ⟨⟨_, _, _, he⟩, hb⟩

theorem bytesOf_size (l : List UInt8) : (bytesOf l).size = l.length := by
  show l.toArray.size = _
  rw [List.size_toArray]
theorem str_ne' {s t : ByteArray} (h : s ≠ t) : (!s.toList == t.toList) = true := by
  simp
  intro e
  rw [ByteArray.toList_eq, ByteArray.toList_eq] at e
  exact h (ByteArray.ext (Array.toList_inj.1 e))

set_option maxRecDepth 100000 in
set_option maxHeartbeats 1000000 in
theorem readNumber_any (s : ByteArray) (d : Nat) (w : World) (hs : s.size ≤ 1000000000000) (hd : d ≤ 17) (hE : Env w) :
    Calls Tryz.prog 97 #[.string s, .int .i64 d] w fun e w' => e = .returned (.tuple #[.int .i64 (numV s d), .bool (numIs s d)]) ∧ Below w.heap.size w w' := by
  have hbz := bytesOf_size (bodyN s)
  by_cases hl : (bodyN s).length ≤ d
  · have hli : ¬ (d : Int) < ((bodyN s).length : Int) := by omega
    by_cases hp : ∃ v, Lib.parseIntB 64 s.data.toList = .ok v
    · obtain ⟨v, hp⟩ := hp
      obtain ⟨v0, v1⟩ := Lib.parseIntB_bounds hp
      have y0 : -9223372036854775808 ≤ v := by simpa using v0
      have y1 : v ≤ 9223372036854775807 := by
        have e : ((2 ^ (64 - 1) : Nat) : Int) = 9223372036854775808 := by decide
        rw [e] at v1
        omega
      clear v0 v1
      have PO := fun w => parse_ok s v w hs hp
      obtain ⟨i1, i2⟩ := num_itoa v d
      by_cases he : itoaB v = s
      · rw [he] at i1 i2
        have hi : numIs s d = true := by rw [i1]; exact decide_eq_true hl
        have HI : Hid (numIs s d = true) := hi
        have HV : Hid (numV s d = v) := i2 hi
        clear hi i1 i2 hp hl
        have HS : Hid (itoaB v = s) := he
        clear he
        go_enter Tryz.func97, Tryz.ntmps97
        go_wp2_with (first
          | (go_at_call 106; refine (trim_any _ _).mono ?_; rintro x w1 ⟨rfl, rfl⟩)
          | (go_at_call 107; refine (PO _).mono ?_; rintro x w2 ⟨rfl, hb2⟩)
          | (go_at_call 77; refine (fmt_any v _ y0 y1 (hE.tb.later hb2)).mono ?_; rintro x w3 ⟨rfl, hb3⟩; rw [HS.out]))
        exact bodyPost_ret (v := .tuple #[.int .i64 v, .bool true]) (by simp [results, Tryz.results97, go_sem]) rfl ⟨by rw [HI.out, HV.out], bel_after hb2 hb3⟩
      · have hi : Hid (numIs s d = false) := (by
          cases h : numIs s d
          · rfl
          · exact absurd (by
              have e := parse_num hd h
              rw [hp] at e
              have e2 : v = numV s d := by simpa using e
              rw [e2]
              exact itoa_num h) he : numIs s d = false)
        have hn := str_ne' he
        clear i1 i2 hp hl
        go_enter Tryz.func97, Tryz.ntmps97
        go_wp2_with (first
          | (go_at_call 106; refine (trim_any _ _).mono ?_; rintro x w1 ⟨rfl, rfl⟩)
          | (go_at_call 107; refine (PO _).mono ?_; rintro x w2 ⟨rfl, hb2⟩)
          | (go_at_call 77; refine (fmt_any v _ y0 y1 (hE.tb.later hb2)).mono ?_; rintro x w3 ⟨rfl, hb3⟩))
        exact bodyPost_ret (v := .tuple #[.int .i64 0, .bool false]) (by simp [results, Tryz.results97, go_sem]) rfl ⟨by rw [numV_not hi.out, hi.out], bel_after hb2 hb3⟩
    · have hi : Hid (numIs s d = false) := (by
        cases h : numIs s d
        · rfl
        · exact absurd ⟨_, parse_num hd h⟩ hp : numIs s d = false)
      have PN := fun w hE => parse_no s w hs hE (fun v e => hp ⟨v, e⟩)
      clear hp
      go_enter Tryz.func97, Tryz.ntmps97
      go_wp2_with (first
          | (go_at_call 106; refine (trim_any _ _).mono ?_; rintro x w1 ⟨rfl, rfl⟩)
          | (go_at_call 107; refine (PN _ hE).mono ?_; rintro x w2 ⟨⟨z, tp, p, rfl⟩, hb2⟩))
      exact bodyPost_ret (v := .tuple #[.int .i64 0, .bool false]) (by simp [results, Tryz.results97, go_sem]) rfl ⟨by rw [numV_not hi.out, hi.out], hb2⟩
  · have hli : (d : Int) < ((bodyN s).length : Int) := by omega
    have hi : Hid (numIs s d = false) := numIs_len (fun h => hl h.2)
    go_enter Tryz.func97, Tryz.ntmps97
    go_wp2_with (go_at_call 106; refine (trim_any _ _).mono ?_; rintro x w1 ⟨rfl, rfl⟩)
    exact bodyPost_ret (v := .tuple #[.int .i64 0, .bool false]) (by simp [results, Tryz.results97, go_sem]) rfl ⟨by rw [numV_not hi.out, hi.out], Below.refl _ _⟩

theorem below_dr (w : World) (n : Nat) : Below w.heap.size w (w.drewN n) := ⟨rfl, rfl, rfl, Nat.le_refl _, fun _ _ => rfl⟩
/-- strings.Cut at a ;. -/
theorem cut_any (s : ByteArray) (w : World) (hs : s.size < 4294967281) (hE : Env w) :
    Calls Tryz.prog 96 #[.string s, .string ⟨#[59]⟩] w fun e w' =>
      e = .returned (match s.data.toList.findIdx? (· == 59) with
        | none => .tuple #[.string s, .string ⟨#[]⟩, .bool false]
        | some i => .tuple #[.string (bytesOf (s.data.toList.take i)), .string (bytesOf (s.data.toList.drop (i + 1))), .bool true]) ∧ Below w.heap.size w w' := by
  obtain ⟨m, hm⟩ := hE.len
  refine (Any.strings_Cut { Tryz.laysM145 with } s ⟨#[59]⟩ m w hs hm).mono fun e w' ⟨he, n, hw⟩ => ⟨?_, by rw [hw]; exact below_dr _ _⟩
  rw [he]
  have hc : Lib.cut s.data.toList [59] = match s.data.toList.findIdx? (· == 59) with | none => (s.data.toList, [], false) | some i => (s.data.toList.take i, s.data.toList.drop (i + 1), true) := by
    unfold Lib.cut
    rw [Lib.index_one, index_semi]
    cases s.data.toList.findIdx? (· == 59) with
    | none => rfl
    | some i =>
      simp only
      rw [if_pos (by omega), Int.toNat_natCast]
      rfl
  show Ending.returned (.tuple #[.string ⟨(Lib.cut s.data.toList [59]).1.toArray⟩, .string ⟨(Lib.cut s.data.toList [59]).2.1.toArray⟩, .bool (Lib.cut s.data.toList [59]).2.2]) = _
  rw [hc]
  cases s.data.toList.findIdx? (· == 59) with
  | none => rfl
  | some i => rfl

end Go.Proofs.YtjclpbaiiklhcaaGreatDoor

/- numberAhead and splitPage of the program. -/
namespace Go.Proofs.YtjclpbaiiklhcaaGreatDoor
open Go.RowKit

theorem bytesOf_list (l : List UInt8) : (bytesOf l).data.toList = l := by unfold bytesOf; simp

set_option maxRecDepth 100000 in
set_option maxHeartbeats 1000000 in
theorem ahead_no (s : ByteArray) (d : Nat) (w : World) (hs : s.size < 4294967281) (hd : d ≤ 17) (hE : Env w) (h : cutN s.data.toList d = none) :
    Calls Tryz.prog 88 #[.string s, .int .i64 d] w fun e w' => (∃ z r, e = .returned (.tuple #[.int .i64 z, .string r, .bool false])) ∧ Below w.heap.size w w' := by
  have C := cut_any s w hs hE
  unfold cutN at h
  cases hf : s.data.toList.findIdx? (· == 59) with
  | none =>
    rw [hf] at C
    clear h hf
    go_enter Tryz.func88, Tryz.ntmps88
    go_wp2_with (go_at_call 96; refine C.mono ?_; rintro x w1 ⟨rfl, hb1⟩)
    exact bodyPost_ret (v := .tuple #[.int .i64 0, .string ⟨#[]⟩, .bool false]) (by simp [results, Tryz.results88, go_sem]) rfl ⟨⟨_, _, rfl⟩, hb1⟩
  | some i =>
    rw [hf] at C h
    simp only at C h
    have hi : Hid (numIs (bytesOf (s.data.toList.take i)) d = false) := (by
      split at h
      · simp at h
      · rename_i hn
        exact Bool.eq_false_iff.2 hn : numIs (bytesOf (s.data.toList.take i)) d = false)
    have hsz : (bytesOf (s.data.toList.take i)).size ≤ 1000000000000 := by
      rw [bytesOf_size, List.length_take, Array.length_toList]
      have : s.data.size = s.size := rfl
      omega
    clear h hf
    generalize bytesOf (s.data.toList.take i) = x1 at *
    generalize bytesOf (s.data.toList.drop (i + 1)) = x2 at *
    go_enter Tryz.func88, Tryz.ntmps88
    go_wp2_with fail
    refine C.mono ?_
    rintro x w1 ⟨rfl, hb1⟩
    go_wp2_with fail
    refine (readNumber_any x1 d _ hsz hd (hE.later hb1)).mono ?_
    rintro x w2 ⟨rfl, hb2⟩
    rw [hi.out]
    go_wp2
    exact bodyPost_ret (v := .tuple #[.int .i64 (numV x1 d), .string x2, .bool false]) (by simp [results, Tryz.results88, go_sem]) rfl ⟨⟨_, _, rfl⟩, bel_after hb1 hb2⟩

set_option maxRecDepth 100000 in
set_option maxHeartbeats 1000000 in
theorem ahead_yes (s : ByteArray) (d : Nat) (n : Int) (r : List UInt8) (w : World) (hs : s.size < 4294967281) (hd : d ≤ 17) (hE : Env w) (h : cutN s.data.toList d = some (n, r)) :
    Calls Tryz.prog 88 #[.string s, .int .i64 d] w fun e w' => e = .returned (.tuple #[.int .i64 n, .string (bytesOf r), .bool true]) ∧ Below w.heap.size w w' := by
  have C := cut_any s w hs hE
  unfold cutN at h
  cases hf : s.data.toList.findIdx? (· == 59) with
  | none => rw [hf] at h; simp at h
  | some i =>
    rw [hf] at C h
    simp only at C h
    split at h
    · rename_i hn
      simp only [Option.some.injEq, Prod.mk.injEq] at h
      obtain ⟨h1, h2⟩ := h
      have hi : Hid (numIs (bytesOf (s.data.toList.take i)) d = true) := hn
      have hv : Hid (numV (bytesOf (s.data.toList.take i)) d = n) := h1
      have hsz : (bytesOf (s.data.toList.take i)).size ≤ 1000000000000 := by
        rw [bytesOf_size, List.length_take, Array.length_toList]
        have : s.data.size = s.size := rfl
        omega
      rw [h2] at C
      clear h1 h2 hf hn
      generalize bytesOf (s.data.toList.take i) = x1 at *
      generalize bytesOf r = x2 at *
      go_enter Tryz.func88, Tryz.ntmps88
      go_wp2_with fail
      refine C.mono ?_
      rintro x w1 ⟨rfl, hb1⟩
      go_wp2_with fail
      refine (readNumber_any x1 d _ hsz hd (hE.later hb1)).mono ?_
      rintro x w2 ⟨rfl, hb2⟩
      rw [hi.out, hv.out]
      go_wp2
      exact bodyPost_ret (v := .tuple #[.int .i64 n, .string x2, .bool true]) (by simp [results, Tryz.results88, go_sem]) rfl ⟨rfl, bel_after hb1 hb2⟩
    · simp at h

end Go.Proofs.YtjclpbaiiklhcaaGreatDoor

/- SuperText of the program. -/
namespace Go.Proofs.YtjclpbaiiklhcaaGreatDoor
open Go.RowKit

theorem isPage_any (x : Int) (w : World) :
    Calls Tryz.prog 80 #[.int .i64 x] w fun e w' => e = .returned (.bool (decide (2 ≤ x ∧ x ≤ 63))) ∧ w' = w := by
  by_cases h : 2 ≤ x
  · by_cases h2 : x ≤ 63
    · have g : (decide (2 ≤ x ∧ x ≤ 63)) = true := by simp [h, h2]
      have h3 : x < 64 := by omega
      rw [g]
      clear g
      go_enter Tryz.func80, Tryz.ntmps80
      go_wp2
      go_ret
      exact ⟨rfl, rfl⟩
    · have g : (decide (2 ≤ x ∧ x ≤ 63)) = false := by simp [h2]
      have h3 : ¬ x < 64 := by omega
      rw [g]
      clear g
      go_enter Tryz.func80, Tryz.ntmps80
      go_wp2
      go_ret
      exact ⟨rfl, rfl⟩
  · have g : (decide (2 ≤ x ∧ x ≤ 63)) = false := by simp [h]
    rw [g]
    clear g
    go_enter Tryz.func80, Tryz.ntmps80
    go_wp2
    go_ret
    exact ⟨rfl, rfl⟩

theorem IR.head {w : World} {b o cap : Nat} {l : List Int} {k : Nat} (h : ∀ m, m < l.length → w.cell? ⟨b, o + m, none⟩ = some (.int .i64 (l.getD m 0))) (hk : k ≤ l.length) (hc : k ≤ cap) : IR w (.slice (some ⟨b, o, none⟩) k cap) (l.take k) := by
  have e : (l.take k).length = k := by rw [List.length_take]; omega
  refine ⟨some ⟨b, o, none⟩, cap, by rw [e], by rw [e]; exact hc, fun i hi => ⟨b, o, rfl, ?_⟩⟩
  rw [take_get (by omega)]
  exact h i (by omega)

set_option maxRecDepth 100000 in
set_option maxHeartbeats 3200000 in
theorem implSuper_any (e : Int) (v : Value) (l : List Int) (w : World) (hv : IR w v l) (hl : l.length ≤ 1000000000000) (ht : Tb w) :
    Calls Tryz.prog 55 #[.int .i64 e, v] w fun x w' => x = .returned (.tuple #[.string (supT e l), .bool (supOk e l)]) ∧ Below w.heap.size w w' := by
  obtain ⟨ao, cap, rfl, hcap, hv⟩ := hv
  by_cases h1 : e < 1
  · have G : Hid (supOk e l = false) := supOk_e (by omega)
    clear hv
    go_enter Tryz.func55, Tryz.ntmps55
    go_wp2
    exact bodyPost_ret (v := .tuple #[.string ⟨#[]⟩, .bool false]) (by simp [results, Tryz.results55, go_sem]) rfl ⟨by rw [supT_no G.out, G.out], Below.refl _ _⟩
  by_cases h2 : 999999999 < e
  · have G : Hid (supOk e l = false) := supOk_e (by omega)
    clear hv
    go_enter Tryz.func55, Tryz.ntmps55
    go_wp2
    exact bodyPost_ret (v := .tuple #[.string ⟨#[]⟩, .bool false]) (by simp [results, Tryz.results55, go_sem]) rfl ⟨by rw [supT_no G.out, G.out], Below.refl _ _⟩
  by_cases h30 : 30 < l.length
  · have G : Hid (supOk e l = false) := supOk_l (by omega)
    have g2 : decide ((30 : Int) < (l.length : Int)) = true := by simp; omega
    clear hv
    go_enter Tryz.func55, Tryz.ntmps55
    go_wp2
    exact bodyPost_ret (v := .tuple #[.string ⟨#[]⟩, .bool false]) (by simp [results, Tryz.results55, go_sem]) rfl ⟨by rw [supT_no G.out, G.out], Below.refl _ _⟩
  have g2 : decide ((30 : Int) < (l.length : Int)) = false := by simp; omega
  have s1 := itoaB_size (n := e) (by omega) (by omega)
  have s2 := itoaB_size (n := (l.length : Int)) (by omega) (by omega)
  have g4 : (⟨#[83]⟩ ++ itoaB e ++ semi : ByteArray).size ≤ 22 := by
    rw [ByteArray.size_append, ByteArray.size_append]
    have c : semi.size = 1 := rfl
    have d : (⟨#[83]⟩ : ByteArray).size = 1 := rfl
    omega
  have s5 := supHead_size (e := e) (n := l.length) (by omega) (by omega) (by omega)
  go_enter Tryz.func55, Tryz.ntmps55
  go_wp2_with fail
  refine (fmt_any e _ (by omega) (by omega) ht).mono ?_
  rintro x w1 ⟨rfl, hb1⟩
  go_wp2_with fail
  refine (itoa_any _ _ (by omega) (by omega) (ht.later hb1)).mono ?_
  rintro x w2 ⟨rfl, hb2⟩
  have HH : Hid (supHead e l.length = ⟨#[83]⟩ ++ itoaB e ++ ⟨#[59]⟩ ++ itoaB l.length ++ ⟨#[59]⟩) := (rfl : supHead e l.length = ⟨#[83]⟩ ++ itoaB e ++ ⟨#[59]⟩ ++ itoaB l.length ++ ⟨#[59]⟩)
  have hb3 := bel_after hb1 hb2
  go_wp2
  clear g4 s1 s2
  go_loopw [6, 31] (fun s i wr => ∃ k : Nat, k ≤ l.length ∧ i = .int .i64 k ∧ s = .string (supL (supHead e l.length) (l.take k)) ∧ Hid (rowOk l k = true) ∧ Below w.heap.size w wr) (fun _ i _ => l.length - (intOf i).toNat)
  case atStart => exact ⟨0, Nat.zero_le _, rfl, by rw [← HH.out]; rfl, (by rfl : rowOk l 0 = true), hb3⟩
  case round =>
    obtain ⟨k, hk, rfl, rfl, hr, hb⟩ := hrel
    have sz := supL_size (acc := supHead e l.length) k hk hr.out
    by_cases hlt : k < l.length
    · have HS : Hid (supL (supHead e l.length) (l.take (k + 1)) = supL (supHead e l.length) (l.take k) ++ itoaB (l.getD k 0) ++ semi) := supL_succ _ l k hlt
      obtain ⟨b, o, rfl, hc0⟩ := hv k hlt
      have hc := cell_later hb hc0
      have hva : ∀ m, m < l.length → wr.cell? ⟨b, o + m, none⟩ = some (.int .i64 (l.getD m 0)) := fun m hm => by
        obtain ⟨b', o', e', hc'⟩ := hv m hm
        cases e'
        exact cell_later hb hc'
      have hir : Hid (IR wr (.slice (some ⟨b, o, none⟩) k cap) (l.take k)) := IR.head hva hk (by omega)
      have hkc : k ≤ cap := by omega
      have NG : Hid (goodAt l k = false → supOk e l = false) := fun h => supOk_row (rowOk_false h hlt)
      have GA : Hid (goodAt l k = (decide (2 ≤ l.getD k 0 ∧ l.getD k 0 ≤ 63) && !(l.take k).contains (l.getD k 0))) := rfl
      clear hc0 hva hv
      generalize l.getD k 0 = y at *
      have PG := isPage_any y wr
      by_cases hin : 2 ≤ y ∧ y ≤ 63
      · have s3 := itoaB_size (n := y) (by omega) (by omega)
        rw [decide_eq_true hin] at PG
        have GB : Hid (goodAt l k = !(l.take k).contains y) := (by rw [GA.out, decide_eq_true hin]; rfl : goodAt l k = !(l.take k).contains y)
        obtain ⟨y0, y1⟩ := hin
        clear GA
        have CT := contains_any _ _ y wr hir.out (by rw [List.length_take]; omega)
        cases hct : (l.take k).contains y
        · have G : Hid (rowOk l (k + 1) = true) := (by rw [rowOk_succ, hr.out, GB.out, hct]; rfl : rowOk l (k + 1) = true)
          rw [hct] at CT
          clear hct GB NG hr hir
          go_wp2_with (first | (go_at_call 80; refine PG.mono ?_; rintro x wr1 ⟨rfl, rfl⟩) | (go_at_call 74; refine CT.mono ?_; rintro x wr2 ⟨rfl, rfl⟩) | (go_at_call 77; refine (fmt_any y _ (by omega) (by omega) (ht.later hb)).mono ?_; rintro x w5 ⟨rfl, hb5⟩))
          exact ⟨⟨k + 1, by omega, by go_num, by rw [HS.out]; exact congrArg Value.string ByteArray.append_assoc.symm, G, bel_after hb hb5⟩, by simp [intOf]; omega⟩
        · have G : Hid (supOk e l = false) := NG.out (by rw [GB.out, hct]; rfl)
          rw [hct] at CT
          clear hct GB NG hr hir HS
          go_wp2_with (first | (go_at_call 80; refine PG.mono ?_; rintro x wr1 ⟨rfl, rfl⟩) | (go_at_call 74; refine CT.mono ?_; rintro x wr2 ⟨rfl, rfl⟩))
          exact bodyPost_ret (v := .tuple #[.string ⟨#[]⟩, .bool false]) (by simp [results, Tryz.results55, go_sem]) rfl ⟨by rw [supT_no G.out, G.out], hb⟩
      · have G : Hid (supOk e l = false) := NG.out (by rw [GA.out, decide_eq_false hin]; rfl)
        rw [decide_eq_false hin] at PG
        clear GA NG hir hin
        go_wp2_with (go_at_call 80; refine PG.mono ?_; rintro x wr' ⟨rfl, rfl⟩)
        exact bodyPost_ret (v := .tuple #[.string ⟨#[]⟩, .bool false]) (by simp [results, Tryz.results55, go_sem]) rfl ⟨by rw [supT_no G.out, G.out], hb⟩
    · obtain rfl : k = l.length := by omega
      have G := supOk_yes (e := e) (by omega) (by omega) (by omega) hr.out
      have HT : Hid (supT e l = supS e l ++ itoaB (crcS (supS e l))) := supT_yes G
      have HG : Hid (supOk e l = true) := G
      have e7 : l.take l.length = l := List.take_of_length_le (Nat.le_refl _)
      rw [e7] at sz ⊢
      clear e7 G hv
      have e8 : supL (supHead e l.length) l = supS e l := rfl
      rw [e8] at sz ⊢
      clear e8
      obtain ⟨c1, c2⟩ := crcS_range (supS e l)
      have si := itoaB_size (n := crcS (supS e l)) (by omega) (by omega)
      go_wp2_with fail
      refine (sumOf_any _ _ (by omega)).mono ?_
      rintro x w5 ⟨rfl, rfl⟩
      go_wp2_with fail
      refine (fmt_any _ _ (by omega) (by omega) (ht.later hb)).mono ?_
      rintro x w6 ⟨rfl, hb6⟩
      go_wp2
      exact bodyPost_ret (v := .tuple #[.string (supS e l ++ itoaB (crcS (supS e l))), .bool true]) (by simp [results, Tryz.results55, go_sem]) rfl ⟨by rw [HT.out, HG.out], bel_after hb hb6⟩

end Go.Proofs.YtjclpbaiiklhcaaGreatDoor
