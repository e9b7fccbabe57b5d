import Derived.Test.YtfcenohgfhefiaaGreatDoorZMB
import Derived.Test.YtfcenohgfhefiaaGreatDoorZShelf2
import Derived.Test.YtfcenohgfhefiaaGreatDoorZMA
/- readNumber and numberAhead of the program. -/
namespace Go.Proofs.YtfcenohgfhefiaaGreatDoor
open Go.RowKit

/-- What the library's calls ask of the package-level variables. -/
structure Env (w : World) : Prop where
  tb : Tb w
  syn : ∃ t p, w.cell? ⟨10, 0, none⟩ = some (.iface t p)
  ran : ∃ t p, w.cell? ⟨11, 0, none⟩ = some (.iface t p)
  len : ∃ m, w.cell? ⟨9, 0, none⟩ = some (.int .i64 m)
theorem Env.later {w w' : World} (h : Env w) (hb : Below w.heap.size w w') : Env w' :=
  ⟨h.tb.later hb, let ⟨t, p, e⟩ := h.syn; ⟨t, p, cell_later hb e⟩, let ⟨t, p, e⟩ := h.ran; ⟨t, p, cell_later hb e⟩, let ⟨m, e⟩ := h.len; ⟨m, cell_later hb e⟩⟩

theorem trim_any (s : ByteArray) (w : World) : Calls Tryz.prog 141 #[.string s, .string ⟨#[45]⟩] w fun e w' => e = .returned (.string (bytesOf (bodyN s))) ∧ w' = w :=
  (Any.strings_TrimPrefix Tryz.lays101 s ⟨#[45]⟩ w).mono fun _ _ ⟨he, hw⟩ => ⟨by rw [he]; unfold bytesOf; rw [← trim_body], hw⟩
theorem parse_ok (s : ByteArray) (v : Int) (w : World) (hs : s.size ≤ 1000000000000) (h : Lib.parseIntB 64 s.data.toList = .ok v) :
    Calls Tryz.prog 142 #[.string s, .int .i64 10, .int .i64 64] w fun e w' => e = .returned (.tuple #[.int .i64 v, .nilIface]) ∧ Below w.heap.size w w' :=
  (Any.strconv_ParseInt_10_at64_ok Tryz.laysC174 s (by omega) v h w).mono fun _ _ ⟨he, hw⟩ => ⟨he, by
    rcases hw with rfl | ⟨t, rfl⟩
    · exact Below.refl _ _
    · exact Lib.bytesWorld_below _ _ _⟩
theorem parse_no (s : ByteArray) (w : World) (hs : s.size ≤ 1000000000000) (hE : Env w) (h : ∀ v, Lib.parseIntB 64 s.data.toList ≠ .ok v) :
    Calls Tryz.prog 142 #[.string s, .int .i64 10, .int .i64 64] w fun e w' => (∃ z tp p, e = .returned (.tuple #[.int .i64 z, .iface tp (.pointer (some p))])) ∧ Below w.heap.size w w' := by
  cases hp : Lib.parseIntB 64 s.data.toList with
  | ok v => exact absurd hp (h v)
  | «syntax» =>
    obtain ⟨t, p, hc⟩ := hE.syn
    exact (Any.strconv_ParseInt_10_at64_syntax Tryz.laysC174 s (by omega) hp _ w hc (.inr ⟨t, p, rfl⟩)).mono fun _ _ ⟨n, he, _, _, hb⟩ => ⟨⟨_, _, _, he⟩, hb⟩
  | range =>
    obtain ⟨t, p, hc⟩ := hE.ran
    exact (Any.strconv_ParseInt_10_at64_range Tryz.laysC174 s (by omega) hp _ w hc (.inr ⟨t, p, rfl⟩)).mono fun _ _ ⟨n, he, _, _, hb⟩ => ⟨⟨_, _, _, he⟩, hb⟩

theorem bytesOf_size (l : List UInt8) : (bytesOf l).size = l.length := by
  show l.toArray.size = _
  rw [List.size_toArray]
theorem str_ne' {s t : ByteArray} (h : s ≠ t) : (!s.toList == t.toList) = true := by
  simp
  intro e
  rw [ByteArray.toList_eq, ByteArray.toList_eq] at e
  exact h (ByteArray.ext (Array.toList_inj.1 e))

set_option maxRecDepth 100000 in
set_option maxHeartbeats 1000000 in
theorem readNumber_any (s : ByteArray) (d : Nat) (w : World) (hs : s.size ≤ 1000000000000) (hd : d ≤ 17) (hE : Env w) :
    Calls Tryz.prog 131 #[.string s, .int .i64 d] w fun e w' => e = .returned (.tuple #[.int .i64 (numV s d), .bool (numIs s d)]) ∧ Below w.heap.size w w' := by
  have hbz := bytesOf_size (bodyN s)
  by_cases hl : (bodyN s).length ≤ d
  · have hli : ¬ (d : Int) < ((bodyN s).length : Int) := by omega
    by_cases hp : ∃ v, Lib.parseIntB 64 s.data.toList = .ok v
    · obtain ⟨v, hp⟩ := hp
      obtain ⟨v0, v1⟩ := Lib.parseIntB_bounds hp
      have y0 : -9223372036854775808 ≤ v := by simpa using v0
      have y1 : v ≤ 9223372036854775807 := by
        have e : ((2 ^ (64 - 1) : Nat) : Int) = 9223372036854775808 := by decide
        rw [e] at v1
        omega
      clear v0 v1
      have PO := fun w => parse_ok s v w hs hp
      obtain ⟨i1, i2⟩ := num_itoa v d
      by_cases he : itoaB v = s
      · rw [he] at i1 i2
        have hi : numIs s d = true := by rw [i1]; exact decide_eq_true hl
        have HI : Hid (numIs s d = true) := hi
        have HV : Hid (numV s d = v) := i2 hi
        clear hi i1 i2 hp hl
        have HS : Hid (itoaB v = s) := he
        clear he
        go_enter Tryz.func131, Tryz.ntmps131
        go_wp2_with (first
          | (go_at_call 141; refine (trim_any _ _).mono ?_; rintro x w1 ⟨rfl, rfl⟩)
          | (go_at_call 142; refine (PO _).mono ?_; rintro x w2 ⟨rfl, hb2⟩)
          | (go_at_call 73; refine (fmt_any v _ y0 y1 (hE.tb.later hb2)).mono ?_; rintro x w3 ⟨rfl, hb3⟩; rw [HS.out]))
        exact bodyPost_ret (v := .tuple #[.int .i64 v, .bool true]) (by simp [results, Tryz.results131, go_sem]) rfl ⟨by rw [HI.out, HV.out], bel_after hb2 hb3⟩
      · have hi : Hid (numIs s d = false) := (by
          cases h : numIs s d
          · rfl
          · exact absurd (by
              have e := parse_num hd h
              rw [hp] at e
              have e2 : v = numV s d := by simpa using e
              rw [e2]
              exact itoa_num h) he : numIs s d = false)
        have hn := str_ne' he
        clear i1 i2 hp hl
        go_enter Tryz.func131, Tryz.ntmps131
        go_wp2_with (first
          | (go_at_call 141; refine (trim_any _ _).mono ?_; rintro x w1 ⟨rfl, rfl⟩)
          | (go_at_call 142; refine (PO _).mono ?_; rintro x w2 ⟨rfl, hb2⟩)
          | (go_at_call 73; refine (fmt_any v _ y0 y1 (hE.tb.later hb2)).mono ?_; rintro x w3 ⟨rfl, hb3⟩))
        exact bodyPost_ret (v := .tuple #[.int .i64 0, .bool false]) (by simp [results, Tryz.results131, go_sem]) rfl ⟨by rw [numV_not hi.out, hi.out], bel_after hb2 hb3⟩
    · have hi : Hid (numIs s d = false) := (by
        cases h : numIs s d
        · rfl
        · exact absurd ⟨_, parse_num hd h⟩ hp : numIs s d = false)
      have PN := fun w hE => parse_no s w hs hE (fun v e => hp ⟨v, e⟩)
      clear hp
      go_enter Tryz.func131, Tryz.ntmps131
      go_wp2_with (first
          | (go_at_call 141; refine (trim_any _ _).mono ?_; rintro x w1 ⟨rfl, rfl⟩)
          | (go_at_call 142; refine (PN _ hE).mono ?_; rintro x w2 ⟨⟨z, tp, p, rfl⟩, hb2⟩))
      exact bodyPost_ret (v := .tuple #[.int .i64 0, .bool false]) (by simp [results, Tryz.results131, go_sem]) rfl ⟨by rw [numV_not hi.out, hi.out], hb2⟩
  · have hli : (d : Int) < ((bodyN s).length : Int) := by omega
    have hi : Hid (numIs s d = false) := numIs_len (fun h => hl h.2)
    go_enter Tryz.func131, Tryz.ntmps131
    go_wp2_with (go_at_call 141; refine (trim_any _ _).mono ?_; rintro x w1 ⟨rfl, rfl⟩)
    exact bodyPost_ret (v := .tuple #[.int .i64 0, .bool false]) (by simp [results, Tryz.results131, go_sem]) rfl ⟨by rw [numV_not hi.out, hi.out], Below.refl _ _⟩

theorem below_dr (w : World) (n : Nat) : Below w.heap.size w (w.drewN n) := ⟨rfl, rfl, rfl, Nat.le_refl _, fun _ _ => rfl⟩
/-- strings.Cut at a ;. -/
theorem cut_any (s : ByteArray) (w : World) (hs : s.size < 4294967281) (hE : Env w) :
    Calls Tryz.prog 130 #[.string s, .string ⟨#[59]⟩] w fun e w' =>
      e = .returned (match s.data.toList.findIdx? (· == 59) with
        | none => .tuple #[.string s, .string ⟨#[]⟩, .bool false]
        | some i => .tuple #[.string (bytesOf (s.data.toList.take i)), .string (bytesOf (s.data.toList.drop (i + 1))), .bool true]) ∧ Below w.heap.size w w' := by
  obtain ⟨m, hm⟩ := hE.len
  refine (Any.strings_Cut { Tryz.laysM145 with } s ⟨#[59]⟩ m w hs hm).mono fun e w' ⟨he, n, hw⟩ => ⟨?_, by rw [hw]; exact below_dr _ _⟩
  rw [he]
  have hc : Lib.cut s.data.toList [59] = match s.data.toList.findIdx? (· == 59) with | none => (s.data.toList, [], false) | some i => (s.data.toList.take i, s.data.toList.drop (i + 1), true) := by
    unfold Lib.cut
    rw [Lib.index_one, index_semi]
    cases s.data.toList.findIdx? (· == 59) with
    | none => rfl
    | some i =>
      simp only
      rw [if_pos (by omega), Int.toNat_natCast]
      rfl
  show Ending.returned (.tuple #[.string ⟨(Lib.cut s.data.toList [59]).1.toArray⟩, .string ⟨(Lib.cut s.data.toList [59]).2.1.toArray⟩, .bool (Lib.cut s.data.toList [59]).2.2]) = _
  rw [hc]
  cases s.data.toList.findIdx? (· == 59) with
  | none => rfl
  | some i => rfl

end Go.Proofs.YtfcenohgfhefiaaGreatDoor

/- numberAhead and splitPage of the program. -/
namespace Go.Proofs.YtfcenohgfhefiaaGreatDoor
open Go.RowKit

theorem bytesOf_list (l : List UInt8) : (bytesOf l).data.toList = l := by unfold bytesOf; simp

set_option maxRecDepth 100000 in
set_option maxHeartbeats 1000000 in
theorem ahead_no (s : ByteArray) (d : Nat) (w : World) (hs : s.size < 4294967281) (hd : d ≤ 17) (hE : Env w) (h : cutN s.data.toList d = none) :
    Calls Tryz.prog 122 #[.string s, .int .i64 d] w fun e w' => (∃ z r, e = .returned (.tuple #[.int .i64 z, .string r, .bool false])) ∧ Below w.heap.size w w' := by
  have C := cut_any s w hs hE
  unfold cutN at h
  cases hf : s.data.toList.findIdx? (· == 59) with
  | none =>
    rw [hf] at C
    clear h hf
    go_enter Tryz.func122, Tryz.ntmps122
    go_wp2_with (go_at_call 130; refine C.mono ?_; rintro x w1 ⟨rfl, hb1⟩)
    exact bodyPost_ret (v := .tuple #[.int .i64 0, .string ⟨#[]⟩, .bool false]) (by simp [results, Tryz.results122, go_sem]) rfl ⟨⟨_, _, rfl⟩, hb1⟩
  | some i =>
    rw [hf] at C h
    simp only at C h
    have hi : Hid (numIs (bytesOf (s.data.toList.take i)) d = false) := (by
      split at h
      · simp at h
      · rename_i hn
        exact Bool.eq_false_iff.2 hn : numIs (bytesOf (s.data.toList.take i)) d = false)
    have hsz : (bytesOf (s.data.toList.take i)).size ≤ 1000000000000 := by
      rw [bytesOf_size, List.length_take, Array.length_toList]
      have : s.data.size = s.size := rfl
      omega
    clear h hf
    generalize bytesOf (s.data.toList.take i) = x1 at *
    generalize bytesOf (s.data.toList.drop (i + 1)) = x2 at *
    go_enter Tryz.func122, Tryz.ntmps122
    go_wp2_with fail
    refine C.mono ?_
    rintro x w1 ⟨rfl, hb1⟩
    go_wp2_with fail
    refine (readNumber_any x1 d _ hsz hd (hE.later hb1)).mono ?_
    rintro x w2 ⟨rfl, hb2⟩
    rw [hi.out]
    go_wp2
    exact bodyPost_ret (v := .tuple #[.int .i64 (numV x1 d), .string x2, .bool false]) (by simp [results, Tryz.results122, go_sem]) rfl ⟨⟨_, _, rfl⟩, bel_after hb1 hb2⟩

set_option maxRecDepth 100000 in
set_option maxHeartbeats 1000000 in
theorem ahead_yes (s : ByteArray) (d : Nat) (n : Int) (r : List UInt8) (w : World) (hs : s.size < 4294967281) (hd : d ≤ 17) (hE : Env w) (h : cutN s.data.toList d = some (n, r)) :
    Calls Tryz.prog 122 #[.string s, .int .i64 d] w fun e w' => e = .returned (.tuple #[.int .i64 n, .string (bytesOf r), .bool true]) ∧ Below w.heap.size w w' := by
  have C := cut_any s w hs hE
  unfold cutN at h
  cases hf : s.data.toList.findIdx? (· == 59) with
  | none => rw [hf] at h; simp at h
  | some i =>
    rw [hf] at C h
    simp only at C h
    split at h
    · rename_i hn
      simp only [Option.some.injEq, Prod.mk.injEq] at h
      obtain ⟨h1, h2⟩ := h
      have hi : Hid (numIs (bytesOf (s.data.toList.take i)) d = true) := hn
      have hv : Hid (numV (bytesOf (s.data.toList.take i)) d = n) := h1
      have hsz : (bytesOf (s.data.toList.take i)).size ≤ 1000000000000 := by
        rw [bytesOf_size, List.length_take, Array.length_toList]
        have : s.data.size = s.size := rfl
        omega
      rw [h2] at C
      clear h1 h2 hf hn
      generalize bytesOf (s.data.toList.take i) = x1 at *
      generalize bytesOf r = x2 at *
      go_enter Tryz.func122, Tryz.ntmps122
      go_wp2_with fail
      refine C.mono ?_
      rintro x w1 ⟨rfl, hb1⟩
      go_wp2_with fail
      refine (readNumber_any x1 d _ hsz hd (hE.later hb1)).mono ?_
      rintro x w2 ⟨rfl, hb2⟩
      rw [hi.out, hv.out]
      go_wp2
      exact bodyPost_ret (v := .tuple #[.int .i64 n, .string x2, .bool true]) (by simp [results, Tryz.results122, go_sem]) rfl ⟨rfl, bel_after hb1 hb2⟩
    · simp at h

end Go.Proofs.YtfcenohgfhefiaaGreatDoor

/- SuperText of the program. -/
namespace Go.Proofs.YtfcenohgfhefiaaGreatDoor
open Go.RowKit

theorem isPage_any (x : Int) (w : World) :
    Calls Tryz.prog 75 #[.int .i64 x] w fun e w' => e = .returned (.bool (decide (2 ≤ x ∧ x ≤ 63))) ∧ w' = w := by
  by_cases h : 2 ≤ x
  · by_cases h2 : x ≤ 63
    · have g : (decide (2 ≤ x ∧ x ≤ 63)) = true := by simp [h, h2]
      have h3 : x < 64 := by omega
      rw [g]
      clear g
      go_enter Tryz.func75, Tryz.ntmps75
      go_wp2
      go_ret
      exact ⟨rfl, rfl⟩
    · have g : (decide (2 ≤ x ∧ x ≤ 63)) = false := by simp [h2]
      have h3 : ¬ x < 64 := by omega
      rw [g]
      clear g
      go_enter Tryz.func75, Tryz.ntmps75
      go_wp2
      go_ret
      exact ⟨rfl, rfl⟩
  · have g : (decide (2 ≤ x ∧ x ≤ 63)) = false := by simp [h]
    rw [g]
    clear g
    go_enter Tryz.func75, Tryz.ntmps75
    go_wp2
    go_ret
    exact ⟨rfl, rfl⟩

theorem IR.head {w : World} {b o cap : Nat} {l : List Int} {k : Nat} (h : ∀ m, m < l.length → w.cell? ⟨b, o + m, none⟩ = some (.int .i64 (l.getD m 0))) (hk : k ≤ l.length) (hc : k ≤ cap) : IR w (.slice (some ⟨b, o, none⟩) k cap) (l.take k) := by
  have e : (l.take k).length = k := by rw [List.length_take]; omega
  refine ⟨some ⟨b, o, none⟩, cap, by rw [e], by rw [e]; exact hc, fun i hi => ⟨b, o, rfl, ?_⟩⟩
  rw [take_get (by omega)]
  exact h i (by omega)

set_option maxRecDepth 100000 in
set_option maxHeartbeats 3200000 in
theorem implSuper_any (e : Int) (v : Value) (l : List Int) (w : World) (hv : IR w v l) (hl : l.length ≤ 1000000000000) (ht : Tb w) :
    Calls Tryz.prog 27 #[.int .i64 e, v] w fun x w' => x = .returned (.tuple #[.string (supT e l), .bool (supOk e l)]) ∧ Below w.heap.size w w' := by
  obtain ⟨ao, cap, rfl, hcap, hv⟩ := hv
  by_cases h1 : e < 1
  · have G : Hid (supOk e l = false) := supOk_e (by omega)
    clear hv
    go_enter Tryz.func27, Tryz.ntmps27
    go_wp2
    exact bodyPost_ret (v := .tuple #[.string ⟨#[]⟩, .bool false]) (by simp [results, Tryz.results27, go_sem]) rfl ⟨by rw [supT_no G.out, G.out], Below.refl _ _⟩
  by_cases h2 : 999999999 < e
  · have G : Hid (supOk e l = false) := supOk_e (by omega)
    clear hv
    go_enter Tryz.func27, Tryz.ntmps27
    go_wp2
    exact bodyPost_ret (v := .tuple #[.string ⟨#[]⟩, .bool false]) (by simp [results, Tryz.results27, go_sem]) rfl ⟨by rw [supT_no G.out, G.out], Below.refl _ _⟩
  by_cases h30 : 30 < l.length
  · have G : Hid (supOk e l = false) := supOk_l (by omega)
    have g2 : decide ((30 : Int) < (l.length : Int)) = true := by simp; omega
    clear hv
    go_enter Tryz.func27, Tryz.ntmps27
    go_wp2
    exact bodyPost_ret (v := .tuple #[.string ⟨#[]⟩, .bool false]) (by simp [results, Tryz.results27, go_sem]) rfl ⟨by rw [supT_no G.out, G.out], Below.refl _ _⟩
  have g2 : decide ((30 : Int) < (l.length : Int)) = false := by simp; omega
  have s1 := itoaB_size (n := e) (by omega) (by omega)
  have s2 := itoaB_size (n := (l.length : Int)) (by omega) (by omega)
  have g4 : (⟨#[83]⟩ ++ itoaB e ++ semi : ByteArray).size ≤ 22 := by
    rw [ByteArray.size_append, ByteArray.size_append]
    have c : semi.size = 1 := rfl
    have d : (⟨#[83]⟩ : ByteArray).size = 1 := rfl
    omega
  have s5 := supHead_size (e := e) (n := l.length) (by omega) (by omega) (by omega)
  go_enter Tryz.func27, Tryz.ntmps27
  go_wp2_with fail
  refine (fmt_any e _ (by omega) (by omega) ht).mono ?_
  rintro x w1 ⟨rfl, hb1⟩
  go_wp2_with fail
  refine (itoa_any _ _ (by omega) (by omega) (ht.later hb1)).mono ?_
  rintro x w2 ⟨rfl, hb2⟩
  have HH : Hid (supHead e l.length = ⟨#[83]⟩ ++ itoaB e ++ ⟨#[59]⟩ ++ itoaB l.length ++ ⟨#[59]⟩) := (rfl : supHead e l.length = ⟨#[83]⟩ ++ itoaB e ++ ⟨#[59]⟩ ++ itoaB l.length ++ ⟨#[59]⟩)
  have hb3 := bel_after hb1 hb2
  go_wp2
  clear g4 s1 s2
  go_loopw [6, 31] (fun s i wr => ∃ k : Nat, k ≤ l.length ∧ i = .int .i64 k ∧ s = .string (supL (supHead e l.length) (l.take k)) ∧ Hid (rowOk l k = true) ∧ Below w.heap.size w wr) (fun _ i _ => l.length - (intOf i).toNat)
  case atStart => exact ⟨0, Nat.zero_le _, rfl, by rw [← HH.out]; rfl, (by rfl : rowOk l 0 = true), hb3⟩
  case round =>
    obtain ⟨k, hk, rfl, rfl, hr, hb⟩ := hrel
    have sz := supL_size (acc := supHead e l.length) k hk hr.out
    by_cases hlt : k < l.length
    · have HS : Hid (supL (supHead e l.length) (l.take (k + 1)) = supL (supHead e l.length) (l.take k) ++ itoaB (l.getD k 0) ++ semi) := supL_succ _ l k hlt
      obtain ⟨b, o, rfl, hc0⟩ := hv k hlt
      have hc := cell_later hb hc0
      have hva : ∀ m, m < l.length → wr.cell? ⟨b, o + m, none⟩ = some (.int .i64 (l.getD m 0)) := fun m hm => by
        obtain ⟨b', o', e', hc'⟩ := hv m hm
        cases e'
        exact cell_later hb hc'
      have hir : Hid (IR wr (.slice (some ⟨b, o, none⟩) k cap) (l.take k)) := IR.head hva hk (by omega)
      have hkc : k ≤ cap := by omega
      have NG : Hid (goodAt l k = false → supOk e l = false) := fun h => supOk_row (rowOk_false h hlt)
      have GA : Hid (goodAt l k = (decide (2 ≤ l.getD k 0 ∧ l.getD k 0 ≤ 63) && !(l.take k).contains (l.getD k 0))) := rfl
      clear hc0 hva hv
      generalize l.getD k 0 = y at *
      have PG := isPage_any y wr
      by_cases hin : 2 ≤ y ∧ y ≤ 63
      · have s3 := itoaB_size (n := y) (by omega) (by omega)
        rw [decide_eq_true hin] at PG
        have GB : Hid (goodAt l k = !(l.take k).contains y) := (by rw [GA.out, decide_eq_true hin]; rfl : goodAt l k = !(l.take k).contains y)
        obtain ⟨y0, y1⟩ := hin
        clear GA
        have CT := contains_any _ _ y wr hir.out (by rw [List.length_take]; omega)
        cases hct : (l.take k).contains y
        · have G : Hid (rowOk l (k + 1) = true) := (by rw [rowOk_succ, hr.out, GB.out, hct]; rfl : rowOk l (k + 1) = true)
          rw [hct] at CT
          clear hct GB NG hr hir
          go_wp2_with (first | (go_at_call 75; refine PG.mono ?_; rintro x wr1 ⟨rfl, rfl⟩) | (go_at_call 76; refine CT.mono ?_; rintro x wr2 ⟨rfl, rfl⟩) | (go_at_call 73; refine (fmt_any y _ (by omega) (by omega) (ht.later hb)).mono ?_; rintro x w5 ⟨rfl, hb5⟩))
          exact ⟨⟨k + 1, by omega, by go_num, by rw [HS.out]; exact congrArg Value.string ByteArray.append_assoc.symm, G, bel_after hb hb5⟩, by simp [intOf]; omega⟩
        · have G : Hid (supOk e l = false) := NG.out (by rw [GB.out, hct]; rfl)
          rw [hct] at CT
          clear hct GB NG hr hir HS
          go_wp2_with (first | (go_at_call 75; refine PG.mono ?_; rintro x wr1 ⟨rfl, rfl⟩) | (go_at_call 76; refine CT.mono ?_; rintro x wr2 ⟨rfl, rfl⟩))
          exact bodyPost_ret (v := .tuple #[.string ⟨#[]⟩, .bool false]) (by simp [results, Tryz.results27, go_sem]) rfl ⟨by rw [supT_no G.out, G.out], hb⟩
      · have G : Hid (supOk e l = false) := NG.out (by rw [GA.out, decide_eq_false hin]; rfl)
        rw [decide_eq_false hin] at PG
        clear GA NG hir hin
        go_wp2_with (go_at_call 75; refine PG.mono ?_; rintro x wr' ⟨rfl, rfl⟩)
        exact bodyPost_ret (v := .tuple #[.string ⟨#[]⟩, .bool false]) (by simp [results, Tryz.results27, go_sem]) rfl ⟨by rw [supT_no G.out, G.out], hb⟩
    · obtain rfl : k = l.length := by omega
      have G := supOk_yes (e := e) (by omega) (by omega) (by omega) hr.out
      have HT : Hid (supT e l = supS e l ++ itoaB (crcS (supS e l))) := supT_yes G
      have HG : Hid (supOk e l = true) := G
      have e7 : l.take l.length = l := List.take_of_length_le (Nat.le_refl _)
      rw [e7] at sz ⊢
      clear e7 G hv
      have e8 : supL (supHead e l.length) l = supS e l := rfl
      rw [e8] at sz ⊢
      clear e8
      obtain ⟨c1, c2⟩ := crcS_range (supS e l)
      have si := itoaB_size (n := crcS (supS e l)) (by omega) (by omega)
      go_wp2_with fail
      refine (sumOf_any _ _ (by omega)).mono ?_
      rintro x w5 ⟨rfl, rfl⟩
      go_wp2_with fail
      refine (fmt_any _ _ (by omega) (by omega) (ht.later hb)).mono ?_
      rintro x w6 ⟨rfl, hb6⟩
      go_wp2
      exact bodyPost_ret (v := .tuple #[.string (supS e l ++ itoaB (crcS (supS e l))), .bool true]) (by simp [results, Tryz.results27, go_sem]) rfl ⟨by rw [HT.out, HG.out], bel_after hb hb6⟩

end Go.Proofs.YtfcenohgfhefiaaGreatDoor

/- splitPage of the program. -/
namespace Go.Proofs.YtfcenohgfhefiaaGreatDoor
open Go.RowKit

/-- The program's own errors: each variable holds an error of its own. -/
structure Errs (a0 a1 a2 a3 : Addr) (w : World) : Prop where
  e0 : w.cell? ⟨1, 0, none⟩ = some (.iface 222 (.pointer (some a0)))
  e1 : w.cell? ⟨3, 0, none⟩ = some (.iface 222 (.pointer (some a1)))
  e2 : w.cell? ⟨4, 0, none⟩ = some (.iface 222 (.pointer (some a2)))
  e3 : w.cell? ⟨5, 0, none⟩ = some (.iface 222 (.pointer (some a3)))
theorem Errs.later {a0 a1 a2 a3 : Addr} {w w' : World} (h : Errs a0 a1 a2 a3 w) (hb : Below w.heap.size w w') : Errs a0 a1 a2 a3 w' :=
  ⟨cell_later hb h.e0, cell_later hb h.e1, cell_later hb h.e2, cell_later hb h.e3⟩
theorem frozen_later {w w' : World} {b o : Nat} (hb : Below w.heap.size w w') (hlt : b < w.heap.size) (h : w.frozen? ⟨b, o, none⟩ = false) : w'.frozen? ⟨b, o, none⟩ = false :=
  (hb.frozen (p := ⟨b, o, none⟩) hlt).trans h

def errV (part : ByteArray) (a : Addr) : Value := .iface 152 (.agg #[.string part, .iface 222 (.pointer (some a))])
/-- A page's four cells in block R, as they are at first. -/
structure Zp (R : Nat) (w : World) : Prop where
  c0 : w.cell? ⟨R, 0, none⟩ = some (.int .i64 0)
  c1 : w.cell? ⟨R, 1, none⟩ = some (.int .i64 0)
  c2 : w.cell? ⟨R, 2, none⟩ = some (.int .i64 0)
  c3 : w.cell? ⟨R, 3, none⟩ = some (.string ⟨#[]⟩)
  f0 : w.frozen? ⟨R, 0, none⟩ = false
  f1 : w.frozen? ⟨R, 1, none⟩ = false
  f2 : w.frozen? ⟨R, 2, none⟩ = false
  f3 : w.frozen? ⟨R, 3, none⟩ = false
  lt : R < w.heap.size
theorem Zp.later {R : Nat} {w w' : World} (h : Zp R w) (hb : Below w.heap.size w w') : Zp R w' :=
  ⟨cell_later hb h.c0, cell_later hb h.c1, cell_later hb h.c2, cell_later hb h.c3, frozen_later hb h.lt h.f0, frozen_later hb h.lt h.f1, frozen_later hb h.lt h.f2, frozen_later hb h.lt h.f3, Nat.lt_of_lt_of_le h.lt hb.size⟩
theorem Zp.new (w : World) : Zp w.heap.size (w.alloc (.cells #[.int .i64 0, .int .i64 0, .int .i64 0, .string ⟨#[]⟩] 134)) := by
  constructor <;> simp

set_option maxRecDepth 100000 in
set_option maxHeartbeats 3200000 in
theorem split_empty (a0 a1 a2 a3 : Addr) (w : World) (hR : Errs a0 a1 a2 a3 w) :
    Calls Tryz.prog 143 #[.string ⟨#[]⟩] w fun e w' => (∃ part, e = .returned (.tuple #[pageV 0 0 0 ⟨#[]⟩, errV part a2])) ∧ Below w.heap.size w w' := by
  have g := (hR.later (bel_one w (.cells #[.int .i64 0, .int .i64 0, .int .i64 0, .string ⟨#[]⟩] 134))).e2
  go_enter Tryz.func143, Tryz.ntmps143
  go_wp2
  go_region
  all_goals go_wp2
  all_goals exact bodyPost_ret (v := .tuple #[pageV 0 0 0 ⟨#[]⟩, errV ⟨#[112, 97, 103, 101]⟩ a2]) (by simp [results, Tryz.results143, go_sem, pageV, errV]) rfl ⟨⟨_, rfl⟩, (bel_one _ _).drew⟩

theorem pre_any (s : ByteArray) (w : World) : Calls Tryz.prog 121 #[.string s, .string ⟨#[80]⟩] w fun e w' => e = .returned (.tuple #[.string (if s.data.toList.head? = some 80 then bytesOf (s.data.toList.drop 1) else s), .bool (decide (s.data.toList.head? = some 80))]) ∧ w' = w := by
  refine (Any.strings_CutPrefix Tryz.lays103 s ⟨#[80]⟩ w).mono fun e w' ⟨he, hw⟩ => ⟨?_, hw⟩
  rw [he]
  show Ending.returned (.tuple #[.string ⟨(Lib.trimPrefix s.data.toList [80]).toArray⟩, .bool (Lib.hasPrefix s.data.toList [80])]) = _
  have e : (⟨s.data.toList.toArray⟩ : ByteArray) = s := by apply ByteArray.ext; simp
  by_cases h : s.data.toList.head? = some 80
  · have h1 : Lib.hasPrefix s.data.toList [80] = true := by
      unfold Lib.hasPrefix
      cases hl : s.data.toList with
      | nil => rw [hl] at h; simp at h
      | cons b r =>
        rw [hl] at h
        have hb : b = 80 := by simpa using h
        subst hb
        rfl
    rw [if_pos h, decide_eq_true h, h1]
    unfold Lib.trimPrefix
    rw [if_pos h1]
    rfl
  · have h1 : Lib.hasPrefix s.data.toList [80] = false := by
      unfold Lib.hasPrefix
      cases hl : s.data.toList with
      | nil => rfl
      | cons b r =>
        rw [hl] at h
        have hb : ¬ b = 80 := by simpa using h
        simp [List.isPrefixOf]
        exact fun e => hb e.symm
    rw [if_neg h, decide_eq_false h, h1]
    unfold Lib.trimPrefix
    rw [if_neg (by rw [h1]; simp), e]

theorem lt_of_cell {w : World} {b o : Nat} {v : Value} (h : w.cell? ⟨b, o, none⟩ = some v) : b < w.heap.size := by
  rcases Nat.lt_or_ge b w.heap.size with h' | h'
  · exact h'
  · simp [World.cell?, Array.getElem?_eq_none h'] at h

set_option maxRecDepth 100000 in
set_option maxHeartbeats 3200000 in
theorem split_form (s : ByteArray) (a0 a1 a2 a3 : Addr) (w : World) (hs : s.size < 4294967281) (h0 : s ≠ ⟨#[]⟩) (hE : Env w) (hR : Errs a0 a1 a2 a3 w) (h : formN s.data.toList = none) :
    Calls Tryz.prog 143 #[.string s] w fun e w' => (∃ part, e = .returned (.tuple #[pageV 0 0 0 ⟨#[]⟩, errV part a3])) ∧ Below w.heap.size w w' := by
  have q1 := str_nil h0
  have q2 : s.toList.isEmpty = false := by simpa using q1
  clear h0
  have hb0 := bel_one w (.cells #[.int .i64 0, .int .i64 0, .int .i64 0, .string ⟨#[]⟩] 134)
  have g := (hR.later hb0).e3
  have h3 := lt_of_cell hR.e3
  have n1 : ¬ 5 = w.heap.size := by omega
  have n2 : ¬ w.heap.size = 5 := by omega
  have P := fun w => pre_any s w
  by_cases hh : s.data.toList.head? = some 80
  · have hsz : (bytesOf (s.data.toList.drop 1)).size < 4294967281 := by
      rw [bytesOf_size, List.length_drop, Array.length_toList]
      have : s.data.size = s.size := rfl
      omega
    have hE0 := hE.later hb0
    have hz0 := Zp.new w
    unfold formN at h
    rw [if_pos hh] at h
    simp only [if_pos hh, decide_eq_true hh] at P
    have HL := bytesOf_list (s.data.toList.drop 1)
    generalize s.data.toList.drop 1 = l1 at *
    clear hh
    cases h1 : cutN l1 9 with
    | none =>
      have A := ahead_no (bytesOf l1) 9 _ hsz (by omega) hE0 (by rw [HL]; exact h1)
      clear h h1
      go_enter Tryz.func143, Tryz.ntmps143
      go_wp2_with fail
      refine (P _).mono ?_
      rintro x w1 ⟨rfl, rfl⟩
      go_wp2_with fail
      refine A.mono ?_
      rintro x w2 ⟨⟨z, r, rfl⟩, hbk⟩
      have Z := hz0.later hbk
      obtain ⟨c0, c1, c2, c3, f0, f1, f2, f3, lt⟩ := Z
      have g2 := cell_later hbk g
      clear hE hE0 hz0 hR P g
      go_wp2
      go_region
      all_goals go_wp2
      all_goals exact bodyPost_ret (v := .tuple #[pageV 0 0 0 ⟨#[]⟩, errV ⟨#[110, 117, 109, 98, 101, 114]⟩ a3]) (by simp [results, Tryz.results143, go_sem, pageV, errV, c0, c1, c2, c3]) rfl ⟨⟨_, rfl⟩, (((((bel_after hb0 hbk).setCell (p := ⟨w.heap.size, 0, none⟩) (Nat.le_refl _) _).setCell (p := ⟨w.heap.size, 1, none⟩) (Nat.le_refl _) _).setCell (p := ⟨w.heap.size, 2, none⟩) (Nat.le_refl _) _).setCell (p := ⟨w.heap.size, 3, none⟩) (Nat.le_refl _) _).drew⟩
    | some x1 =>
      obtain ⟨n, l2⟩ := x1
      have A := ahead_yes (bytesOf l1) 9 n l2 _ hsz (by omega) hE0 (by rw [HL]; exact h1)
      rw [h1] at h
      simp only at h
      obtain ⟨_, _, le2⟩ := cutN_range (by omega) h1
      have hsz2 : (bytesOf l2).size < 4294967281 := by rw [bytesOf_size] at hsz ⊢; omega
      have HL2 := bytesOf_list l2
      go_enter Tryz.func143, Tryz.ntmps143
      go_wp2_with fail
      refine (P _).mono ?_
      rintro x w1 ⟨rfl, rfl⟩
      go_wp2_with fail
      refine A.mono ?_
      rintro x w2 ⟨rfl, hb2⟩
      clear A h1
      cases h2 : cutN l2 9 with
      | none =>
        have A2 := ahead_no (bytesOf l2) 9 _ hsz2 (by omega) (hE0.later hb2) (by rw [HL2]; exact h2)
        clear h h2
        go_wp2_with fail
        refine A2.mono ?_
        rintro x w3 ⟨⟨z, r, rfl⟩, hb3⟩
        have hbk := bel_after hb2 hb3
        have Z := hz0.later hbk
        obtain ⟨c0, c1, c2, c3, f0, f1, f2, f3, lt⟩ := Z
        have g2 := cell_later hbk g
        clear hE hE0 hz0 hR P g
        go_wp2
        go_region
        all_goals go_wp2
        all_goals exact bodyPost_ret (v := .tuple #[pageV 0 0 0 ⟨#[]⟩, errV ⟨#[101, 112, 111, 99, 104]⟩ a3]) (by simp [results, Tryz.results143, go_sem, pageV, errV, c0, c1, c2, c3]) rfl ⟨⟨_, rfl⟩, (((((bel_after hb0 hbk).setCell (p := ⟨w.heap.size, 0, none⟩) (Nat.le_refl _) _).setCell (p := ⟨w.heap.size, 1, none⟩) (Nat.le_refl _) _).setCell (p := ⟨w.heap.size, 2, none⟩) (Nat.le_refl _) _).setCell (p := ⟨w.heap.size, 3, none⟩) (Nat.le_refl _) _).drew⟩
      | some x2 =>
        obtain ⟨e, l3⟩ := x2
        have A2 := ahead_yes (bytesOf l2) 9 e l3 _ hsz2 (by omega) (hE0.later hb2) (by rw [HL2]; exact h2)
        rw [h2] at h
        simp only at h
        obtain ⟨_, _, le3⟩ := cutN_range (by omega) h2
        have hsz3 : (bytesOf l3).size < 4294967281 := by rw [bytesOf_size] at hsz2 ⊢; omega
        have HL3 := bytesOf_list l3
        go_wp2_with fail
        refine A2.mono ?_
        rintro x w3 ⟨rfl, hb3⟩
        have hb23 := bel_after hb2 hb3
        clear A2 h2
        cases h3' : cutN l3 10 with
        | none =>
          have A3 := ahead_no (bytesOf l3) 10 _ hsz3 (by omega) (hE0.later hb23) (by rw [HL3]; exact h3')
          clear h h3'
          go_wp2_with fail
          refine A3.mono ?_
          rintro x w4 ⟨⟨z, r, rfl⟩, hb4⟩
          have hbk := bel_after hb23 hb4
          have Z := hz0.later hbk
          obtain ⟨c0, c1, c2, c3, f0, f1, f2, f3, lt⟩ := Z
          have g2 := cell_later hbk g
          clear hE hE0 hz0 hR P g
          go_wp2
          go_region
          all_goals go_wp2
          all_goals exact bodyPost_ret (v := .tuple #[pageV 0 0 0 ⟨#[]⟩, errV ⟨#[115, 117, 109]⟩ a3]) (by simp [results, Tryz.results143, go_sem, pageV, errV, c0, c1, c2, c3]) rfl ⟨⟨_, rfl⟩, (((((bel_after hb0 hbk).setCell (p := ⟨w.heap.size, 0, none⟩) (Nat.le_refl _) _).setCell (p := ⟨w.heap.size, 1, none⟩) (Nat.le_refl _) _).setCell (p := ⟨w.heap.size, 2, none⟩) (Nat.le_refl _) _).setCell (p := ⟨w.heap.size, 3, none⟩) (Nat.le_refl _) _).drew⟩
        | some x3 =>
          rw [h3'] at h
          simp at h
  · simp only [if_neg hh, decide_eq_false hh] at P
    go_enter Tryz.func143, Tryz.ntmps143
    go_wp2_with (go_at_call 121; refine (P _).mono ?_; rintro x w1 ⟨rfl, rfl⟩)
    go_region
    all_goals go_wp2
    all_goals exact bodyPost_ret (v := .tuple #[pageV 0 0 0 ⟨#[]⟩, errV ⟨#[98, 101, 103, 105, 110]⟩ a3]) (by simp [results, Tryz.results143, go_sem, pageV, errV]) rfl ⟨⟨_, rfl⟩, (bel_one _ _).drew⟩

set_option maxRecDepth 100000 in
set_option maxHeartbeats 3200000 in
theorem split_yes (s : ByteArray) (n e c : Int) (b : List UInt8) (w : World) (hs : s.size < 4294967281) (h0 : s ≠ ⟨#[]⟩) (hE : Env w) (h : formN s.data.toList = some (n, e, c, b)) :
    Calls Tryz.prog 143 #[.string s] w fun x w' => x = .returned (.tuple #[pageV n e c (bytesOf b), .nilIface]) ∧ Below w.heap.size w w' := by
  have q1 := str_nil h0
  have q2 : s.toList.isEmpty = false := by simpa using q1
  clear h0
  have hb0 := bel_one w (.cells #[.int .i64 0, .int .i64 0, .int .i64 0, .string ⟨#[]⟩] 134)
  have P := fun w => pre_any s w
  unfold formN at h
  by_cases hh : s.data.toList.head? = some 80
  · have hsz : (bytesOf (s.data.toList.drop 1)).size < 4294967281 := by
      rw [bytesOf_size, List.length_drop, Array.length_toList]
      have : s.data.size = s.size := rfl
      omega
    have hE0 := hE.later hb0
    have hz0 := Zp.new w
    rw [if_pos hh] at h
    simp only [if_pos hh, decide_eq_true hh] at P
    have HL := bytesOf_list (s.data.toList.drop 1)
    generalize s.data.toList.drop 1 = l1 at *
    clear hh
    cases h1 : cutN l1 9 with
    | none => rw [h1] at h; simp at h
    | some x1 =>
      obtain ⟨n', l2⟩ := x1
      have A := ahead_yes (bytesOf l1) 9 n' l2 _ hsz (by omega) hE0 (by rw [HL]; exact h1)
      rw [h1] at h
      simp only at h
      obtain ⟨_, _, le2⟩ := cutN_range (by omega) h1
      have hsz2 : (bytesOf l2).size < 4294967281 := by rw [bytesOf_size] at hsz ⊢; omega
      have HL2 := bytesOf_list l2
      clear h1
      cases h2 : cutN l2 9 with
      | none => rw [h2] at h; simp at h
      | some x2 =>
        obtain ⟨e', l3⟩ := x2
        have A2 := fun w (hE : Env w) => ahead_yes (bytesOf l2) 9 e' l3 w hsz2 (by omega) hE (by rw [HL2]; exact h2)
        rw [h2] at h
        simp only at h
        obtain ⟨_, _, le3⟩ := cutN_range (by omega) h2
        have hsz3 : (bytesOf l3).size < 4294967281 := by rw [bytesOf_size] at hsz2 ⊢; omega
        have HL3 := bytesOf_list l3
        clear h2
        cases h3' : cutN l3 10 with
        | none => rw [h3'] at h; simp at h
        | some x3 =>
          obtain ⟨c', l4⟩ := x3
          have A3 := fun w (hE : Env w) => ahead_yes (bytesOf l3) 10 c' l4 w hsz3 (by omega) hE (by rw [HL3]; exact h3')
          rw [h3'] at h
          simp only [Option.some.injEq, Prod.mk.injEq] at h
          obtain ⟨rfl, rfl, rfl, rfl⟩ := h
          clear h3' HL HL2 HL3 le2 le3
          go_enter Tryz.func143, Tryz.ntmps143
          go_wp2_with fail
          refine (P _).mono ?_
          rintro x w1 ⟨rfl, rfl⟩
          go_wp2_with fail
          refine A.mono ?_
          rintro x w2 ⟨rfl, hb2⟩
          go_wp2_with fail
          refine (A2 _ (hE0.later hb2)).mono ?_
          rintro x w3 ⟨rfl, hb3⟩
          have hb23 := bel_after hb2 hb3
          go_wp2_with fail
          refine (A3 _ (hE0.later hb23)).mono ?_
          rintro x w4 ⟨rfl, hb4⟩
          have hbk := bel_after hb23 hb4
          have Z := hz0.later hbk
          obtain ⟨c0, c1, c2, c3, f0, f1, f2, f3, lt⟩ := Z
          clear hE hE0 hz0 P A A2 A3
          go_wp2
          exact bodyPost_ret (v := .tuple #[pageV n' e' c' (bytesOf l4), .nilIface]) (by simp [results, Tryz.results143, go_sem, pageV, c0, c1, c2, c3]) rfl ⟨rfl, ((((bel_after hb0 hbk).setCell (p := ⟨w.heap.size, 0, none⟩) (Nat.le_refl _) _).setCell (p := ⟨w.heap.size, 1, none⟩) (Nat.le_refl _) _).setCell (p := ⟨w.heap.size, 2, none⟩) (Nat.le_refl _) _).setCell (p := ⟨w.heap.size, 3, none⟩) (Nat.le_refl _) _⟩
  · rw [if_neg hh] at h
    simp at h

end Go.Proofs.YtfcenohgfhefiaaGreatDoor

/- readSuper of the program. -/
namespace Go.Proofs.YtfcenohgfhefiaaGreatDoor
open Go.RowKit

theorem cutN_less {l r : List UInt8} {most : Nat} {n : Int} (h : cutN l most = some (n, r)) : r.length + 1 ≤ l.length := by
  unfold cutN at h
  cases hf : l.findIdx? (· == 59) with
  | none => rw [hf] at h; simp at h
  | some i =>
    rw [hf] at h
    simp only at h
    split at h
    · simp only [Option.some.injEq, Prod.mk.injEq] at h
      obtain ⟨_, rfl⟩ := h
      obtain ⟨hi, _⟩ := List.findIdx?_eq_some_iff_getElem.1 hf
      rw [List.length_drop]
      omega
    · simp at h
theorem supR_none_of {s : ByteArray} (h : ∀ e l, supOk e l = true → supT e l = s → False) : supR s = none := by
  cases hr : supR s with
  | none => rfl
  | some x =>
    obtain ⟨e, l⟩ := x
    obtain ⟨h1, h2⟩ := supR_is hr
    exact absurd (h e l h1 h2) id

theorem pre83_any (s : ByteArray) (w : World) : Calls Tryz.prog 121 #[.string s, .string ⟨#[83]⟩] w fun e w' => e = .returned (.tuple #[.string (if s.data.toList.head? = some 83 then bytesOf (s.data.toList.drop 1) else s), .bool (decide (s.data.toList.head? = some 83))]) ∧ w' = w := by
  refine (Any.strings_CutPrefix Tryz.lays103 s ⟨#[83]⟩ w).mono fun e w' ⟨he, hw⟩ => ⟨?_, hw⟩
  rw [he]
  show Ending.returned (.tuple #[.string ⟨(Lib.trimPrefix s.data.toList [83]).toArray⟩, .bool (Lib.hasPrefix s.data.toList [83])]) = _
  have e : (⟨s.data.toList.toArray⟩ : ByteArray) = s := by apply ByteArray.ext; simp
  by_cases h : s.data.toList.head? = some 83
  · have h1 : Lib.hasPrefix s.data.toList [83] = true := by
      unfold Lib.hasPrefix
      cases hl : s.data.toList with
      | nil => rw [hl] at h; simp at h
      | cons b r =>
        rw [hl] at h
        have hb : b = 83 := by simpa using h
        subst hb
        rfl
    rw [if_pos h, decide_eq_true h, h1]
    unfold Lib.trimPrefix
    rw [if_pos h1]
    rfl
  · have h1 : Lib.hasPrefix s.data.toList [83] = false := by
      unfold Lib.hasPrefix
      cases hl : s.data.toList with
      | nil => rfl
      | cons b r =>
        rw [hl] at h
        have hb : ¬ b = 83 := by simpa using h
        simp [List.isPrefixOf]
        exact fun e => hb e.symm
    rw [if_neg h, decide_eq_false h, h1]
    unfold Lib.trimPrefix
    rw [if_neg (by rw [h1]; simp), e]

/-- A superblock's three cells in block R. -/
structure Zs (R : Nat) (w : World) : Prop where
  c0 : w.cell? ⟨R, 0, none⟩ = some (.int .i64 0)
  c1 : w.cell? ⟨R, 1, none⟩ = some (.slice none 0 0)
  c2 : w.cell? ⟨R, 2, none⟩ = some (.slice none 0 0)
  f0 : w.frozen? ⟨R, 0, none⟩ = false
  f1 : w.frozen? ⟨R, 1, none⟩ = false
  f2 : w.frozen? ⟨R, 2, none⟩ = false
  lt : R < w.heap.size
theorem Zs.later {R : Nat} {w w' : World} (h : Zs R w) (hb : Below w.heap.size w w') : Zs R w' :=
  ⟨cell_later hb h.c0, cell_later hb h.c1, cell_later hb h.c2, frozen_later hb h.lt h.f0, frozen_later hb h.lt h.f1, frozen_later hb h.lt h.f2, Nat.lt_of_lt_of_le h.lt hb.size⟩
theorem Zs.new (w : World) : Zs w.heap.size (w.alloc (.cells #[.int .i64 0, .slice none 0 0, .slice none 0 0] 77)) := by
  constructor <;> simp
theorem zs_ends {w w2 : World} {R : Nat} (h : Below w.heap.size w w2) (hR : w.heap.size ≤ R) (v0 v1 v2 : Value) :
    Below w.heap.size w (((w2.setCell ⟨R, 0, none⟩ v0).setCell ⟨R, 1, none⟩ v1).setCell ⟨R, 2, none⟩ v2) :=
  ((h.setCell (p := ⟨R, 0, none⟩) hR _).setCell (p := ⟨R, 1, none⟩) hR _).setCell (p := ⟨R, 2, none⟩) hR _
/-- A row that lies above block R is not touched by a store into R. -/
theorem own_store {w : World} {B e size n R o : Nat} {v : Value} {xs : List Value} (h : w.ownsRow B e size v n xs) (hR : R < B) (x : Value) : (w.setCell ⟨R, o, none⟩ x).ownsRow B e size v n xs := by
  obtain ⟨hl, h⟩ := h
  refine ⟨hl, ?_⟩
  rcases h with h | ⟨g, cap, cur, hv, hB, hh, h1, h2, h3, h4⟩
  · exact .inl h
  · refine .inr ⟨g, cap, cur, hv, hB, ?_, h1, h2, h3, h4⟩
    rw [Below.heap_setCell _ _ _ _ (by simp; omega)]
    exact hh
theorem own_mono {w : World} {B B' e size n : Nat} {v : Value} {xs : List Value} (h : w.ownsRow B e size v n xs) (hB : B' ≤ B) : w.ownsRow B' e size v n xs := by
  obtain ⟨hl, h⟩ := h
  refine ⟨hl, ?_⟩
  rcases h with h | ⟨g, cap, cur, hv, hb, hh⟩
  · exact .inl h
  · exact .inr ⟨g, cap, cur, hv, Nat.le_trans hB hb, hh⟩

def supV (e : Int) (v : Value) : Value := .agg #[.int .i64 e, v, .slice none 0 0]
/-- What readSuper answers. -/
def SupOut (s : ByteArray) (B : Nat) (x : Ending) (w' : World) : Prop :=
  match supR s with
  | none => x = .returned (.tuple #[.agg #[.int .i64 0, .slice none 0 0, .slice none 0 0], .bool false])
  | some (e, l) => ∃ v, x = .returned (.tuple #[.agg #[.int .i64 e, v, .slice none 0 0], .bool true]) ∧ w'.ownsRow B 2 1 v l.length (icells l)
theorem supOut_none {s : ByteArray} {B : Nat} {w' : World} (h : supR s = none) : SupOut s B (.returned (.tuple #[.agg #[.int .i64 0, .slice none 0 0, .slice none 0 0], .bool false])) w' := by unfold SupOut; rw [h]
theorem supOut_some {s : ByteArray} {B : Nat} {w' : World} {e : Int} {l : List Int} {v : Value} (h : supR s = some (e, l)) (ho : w'.ownsRow B 2 1 v l.length (icells l)) : SupOut s B (.returned (.tuple #[.agg #[.int .i64 e, v, .slice none 0 0], .bool true])) w' := by unfold SupOut; rw [h]; exact ⟨v, rfl, ho⟩

set_option maxRecDepth 100000 in
set_option maxHeartbeats 6400000 in
theorem readSuper_any (s : ByteArray) (w : World) (hs : s.size ≤ 1000000) (hE : Env w) :
    Calls Tryz.prog 97 #[.string s] w fun x w' => SupOut s w.heap.size x w' ∧ Below w.heap.size w w' := by
  have hb0 := bel_one w (.cells #[.int .i64 0, .slice none 0 0, .slice none 0 0] 77)
  have hz0 := Zs.new w
  have hE0 := hE.later hb0
  have P := fun w => pre83_any s w
  by_cases hh : s.data.toList.head? = some 83
  · have hsz : (bytesOf (s.data.toList.drop 1)).size ≤ 1000000 := by
      rw [bytesOf_size, List.length_drop, Array.length_toList]
      have : s.data.size = s.size := rfl
      omega
    simp only [if_pos hh, decide_eq_true hh] at P
    have HL := bytesOf_list (s.data.toList.drop 1)
    have hdrop : Hid (∃ z, s.data.toList.drop 1 = z) := ⟨_, rfl⟩
    generalize hl1 : s.data.toList.drop 1 = l1 at *
    have HL1 : Hid (s.data.toList.drop 1 = l1) := hl1
    clear hdrop hl1
    cases h1 : cutN l1 9 with
    | none =>
      have A := ahead_no (bytesOf l1) 9 _ (by omega) (by omega) hE0 (by rw [HL]; exact h1)
      have G : Hid (supR s = none) := supR_none_of (fun e l h k => by
        obtain ⟨r1, r2, q, _, c1, _, _⟩ := sup_cuts h
        rw [k, HL1.out, h1] at c1
        cases c1)
      clear h1
      go_enter Tryz.func97, Tryz.ntmps97
      go_wp2_with fail
      refine (P _).mono ?_
      rintro x w1 ⟨rfl, rfl⟩
      go_wp2_with fail
      refine A.mono ?_
      rintro x w2 ⟨⟨z, r, rfl⟩, hbk⟩
      obtain ⟨c0, c1, c2, f0, f1, f2, lt⟩ := hz0.later hbk
      clear hE hE0 hz0 P
      go_wp2
      exact bodyPost_ret (v := .tuple #[.agg #[.int .i64 0, .slice none 0 0, .slice none 0 0], .bool false]) (by simp [results, Tryz.results97, go_sem, c0, c1, c2]) rfl ⟨supOut_none G.out, zs_ends (bel_after hb0 hbk) (Nat.le_refl _) _ _ _⟩
    | some x1 =>
      obtain ⟨e, l2⟩ := x1
      have A := ahead_yes (bytesOf l1) 9 e l2 _ (by omega) (by omega) hE0 (by rw [HL]; exact h1)
      obtain ⟨r1, r2, le2⟩ := cutN_range (by omega) h1
      have hsz2 : (bytesOf l2).size ≤ 1000000 := by rw [bytesOf_size] at hsz ⊢; omega
      have HL2 := bytesOf_list l2
      go_enter Tryz.func97, Tryz.ntmps97
      go_wp2_with fail
      refine (P _).mono ?_
      rintro x w1 ⟨rfl, rfl⟩
      go_wp2_with fail
      refine A.mono ?_
      rintro x w2 ⟨rfl, hb2⟩
      clear A
      cases h2 : cutN l2 9 with
      | none =>
        have A2 := ahead_no (bytesOf l2) 9 _ (by omega) (by omega) (hE0.later hb2) (by rw [HL2]; exact h2)
        have G : Hid (supR s = none) := supR_none_of (fun e' l h k => by
          obtain ⟨r1, r2, q, _, c1, c2, _⟩ := sup_cuts h
          rw [k, HL1.out, h1] at c1
          simp only [Option.some.injEq, Prod.mk.injEq] at c1
          rw [← c1.2, h2] at c2
          cases c2)
        clear h1 h2
        go_wp2_with fail
        refine A2.mono ?_
        rintro x w3 ⟨⟨z, r, rfl⟩, hb3⟩
        have hbk := bel_after hb2 hb3
        obtain ⟨c0, c1, c2, f0, f1, f2, lt⟩ := hz0.later hbk
        clear hE hE0 hz0 P
        go_wp2
        exact bodyPost_ret (v := .tuple #[.agg #[.int .i64 0, .slice none 0 0, .slice none 0 0], .bool false]) (by simp [results, Tryz.results97, go_sem, c0, c1, c2]) rfl ⟨supOut_none G.out, zs_ends (bel_after hb0 hbk) (Nat.le_refl _) _ _ _⟩
      | some x2 =>
        obtain ⟨n, l3⟩ := x2
        have A2 := ahead_yes (bytesOf l2) 9 n l3 _ (by omega) (by omega) (hE0.later hb2) (by rw [HL2]; exact h2)
        obtain ⟨r3, r4, le3⟩ := cutN_range (by omega) h2
        have hsz3 : (bytesOf l3).size ≤ 1000000 := by rw [bytesOf_size] at hsz2 ⊢; omega
        have CU : Hid (∀ e' l, supOk e' l = true → supT e' l = s → e' = e ∧ (l.length : Int) = n ∧ ∃ q, fieldsN l.length l3 = some (l, q)) := fun e' l h k => by
          obtain ⟨r1, r2, q, _, c1, c2, c3⟩ := sup_cuts h
          rw [k, HL1.out, h1] at c1
          simp only [Option.some.injEq, Prod.mk.injEq] at c1
          rw [← c1.2, h2] at c2
          simp only [Option.some.injEq, Prod.mk.injEq] at c2
          exact ⟨c1.1.symm, c2.1.symm, q, by rw [c2.2]; exact c3⟩
        go_wp2_with fail
        refine A2.mono ?_
        rintro x w3 ⟨rfl, hb3⟩
        have hb23 := bel_after hb2 hb3
        clear A2 h1 h2 hb2 hb3 HL HL2
        rw [bytesOf_size] at hsz3
        go_wp2
        go_loopw [4, 9, 42] (fun rv sv iv wr => ∃ (k : Nat) (xs : List Int) (q : List UInt8) (v0 : Value), iv = .int .i64 k ∧ (k : Int) ≤ max n 0 ∧ rv = .string (bytesOf q) ∧ v0 = sv ∧ xs.length = k ∧ k + q.length ≤ 1000000 ∧ wr.ownsRow (w.heap.size + 1) 2 1 v0 k (icells xs) ∧ Hid (fieldsN k l3 = some (xs, q)) ∧ Below (w.alloc (.cells #[.int .i64 0, .slice none 0 0, .slice none 0 0] 77)).heap.size (w.alloc (.cells #[.int .i64 0, .slice none 0 0, .slice none 0 0] 77)) wr) (fun _ _ iv _ => (n - intOf iv).toNat)
        case atStart => exact ⟨0, [], l3, _, rfl, by omega, rfl, rfl, rfl, by omega, World.ownsRow_nil _ _ _ _, rfl, hb23⟩
        case round =>
          obtain ⟨k, xs, q, sv, rfl, hkn, rfl, rfl, hxl, hkq, hown, hf, hb⟩ := hrel
          by_cases hlt : (k : Int) < n
          · have SN := fieldsN_snoc k _ _ _ hf.out
            have hszq : (bytesOf q).size < 4294967281 := by rw [bytesOf_size]; omega
            have HQ := bytesOf_list q
            cases hq : cutN q 9 with
            | none =>
              have A3 := ahead_no (bytesOf q) 9 wr hszq (by omega) (hE0.later hb) (by rw [HQ]; exact hq)
              rw [hq] at SN
              have G : Hid (supR s = none) := supR_none_of (fun e' l h t => by
                obtain ⟨_, c2, q', c3⟩ := CU.out e' l h t
                rw [fieldsN_le (k := k + 1) SN (by omega)] at c3
                cases c3)
              clear SN hq hf CU HQ
              go_wp2_with fail
              refine A3.mono ?_
              rintro x w4 ⟨⟨z, r, rfl⟩, hb4⟩
              have hbk := bel_after hb hb4
              obtain ⟨c0, c1, c2, f0, f1, f2, lt⟩ := hz0.later hbk
              clear hE hE0 hz0 P
              go_wp2
              exact bodyPost_ret (v := .tuple #[.agg #[.int .i64 0, .slice none 0 0, .slice none 0 0], .bool false]) (by simp [results, Tryz.results97, go_sem, c0, c1, c2]) rfl ⟨supOut_none G.out, zs_ends (bel_after hb0 hbk) (Nat.le_refl _) _ _ _⟩
            | some x3 =>
              obtain ⟨y, q2⟩ := x3
              have A3 := ahead_yes (bytesOf q) 9 y q2 wr hszq (by omega) (hE0.later hb) (by rw [HQ]; exact hq)
              rw [hq] at SN
              have HF : Hid (fieldsN (k + 1) l3 = some (xs ++ [y], q2)) := SN
              have hless := cutN_less hq
              clear SN hq hf HQ
              have hc : ∀ W : World, (W.alloc (.cells #[.int .i64 y] 2)).cell? ⟨W.heap.size, 0, none⟩ = some (.int .i64 y) := fun W => by simp
              have ei : Hid (icells (xs ++ [y]) = icells xs ++ [.int .i64 y]) := (by simp [icells] : icells (xs ++ [y]) = icells xs ++ [.int .i64 y])
              go_wp2_with fail
              refine A3.mono ?_
              rintro x w4 ⟨rfl, hb4⟩
              have hown2 := own_later (own_later hown hb4) (bel_one w4 (.cells #[.int .i64 y] 2))
              have hb2 := bel_after (bel_after hb hb4) (bel_one w4 (.cells #[.int .i64 y] 2))
              have hsz4 : w.heap.size + 1 ≤ (w4.alloc (.cells #[.int .i64 y] 2)).heap.size := by
                have h1 := hb2.size
                simp only [World.size_alloc] at h1 ⊢
                omega
              clear A3 hb4 hown hb
              go_wp2_with (at_builtin; refine app_int _ rfl _ _ rfl (w.heap.size + 1) _ k (icells xs) rfl hown2 _ 1 y rfl (hc _) (by omega) hsz4 ?_; intro v5 w5 hown5 hg5; have hb5 : Below (w.alloc (.cells #[.int .i64 0, .slice none 0 0, .slice none 0 0] 77)).heap.size (w.alloc (.cells #[.int .i64 0, .slice none 0 0, .slice none 0 0] 77)) w5 := by (have e0 : (w.alloc (.cells #[.int .i64 0, .slice none 0 0, .slice none 0 0] 77)).heap.size = w.heap.size + 1 := (by simp); rw [e0] at hb2 ⊢; exact own_grown hb2 hown2 hg5 hsz4))
              exact ⟨⟨k + 1, xs ++ [y], q2, _, by go_num, by omega, rfl, rfl, by simp [hxl], by omega, by rw [ei.out]; exact hown5, HF, hb5⟩, by simp [intOf]; omega⟩
          · have hkn2 : k = n.toNat := by omega
            have hown' : wr.ownsRow (w.heap.size + 1) 2 1 sv xs.length (icells xs) := by rw [hxl]; exact hown
            have ST := implSuper_any e sv xs wr (IR_of_owns hown') (by omega) (hE0.later hb).tb
            have HS2 : Hid (supOk e xs = true → supT e xs = s → supR s = some (e, xs)) := fun h1 h2 => supR_iff.2 ⟨h1, h2⟩
            have HS3 : Hid (¬ (supOk e xs = true ∧ supT e xs = s) → supR s = none) := fun hno => supR_none_of (fun e' l h t => by
              obtain ⟨c1, c2, q', c3⟩ := CU.out e' l h t
              have hlk : l.length = k := by omega
              rw [hlk, hf.out] at c3
              simp only [Option.some.injEq, Prod.mk.injEq] at c3
              rw [c1, ← c3.1] at h t
              exact hno ⟨h, t⟩)
            clear CU hf hown
            go_wp2_with fail
            refine ST.mono ?_
            rintro x w5 ⟨rfl, hb5⟩
            have hbk := bel_after hb hb5
            obtain ⟨c0, c1, c2, f0, f1, f2, lt⟩ := hz0.later hbk
            have hown5 := own_later hown' hb5
            clear ST hE hE0 hz0 P hown' hb
            cases hok : supOk e xs
            · rw [supT_no hok]
              have G : Hid (supR s = none) := HS3.out (fun h => by rw [hok] at h; simp at h)
              clear hok HS2 HS3
              go_wp2
              exact bodyPost_ret (v := .tuple #[.agg #[.int .i64 0, .slice none 0 0, .slice none 0 0], .bool false]) (by simp [results, Tryz.results97, go_sem, c0, c1, c2]) rfl ⟨supOut_none G.out, zs_ends (bel_after hb0 hbk) (Nat.le_refl _) _ _ _⟩
            · by_cases hts : supT e xs = s
              · have G : Hid (supR s = some (e, xs)) := HS2.out hok hts
                rw [hts]
                clear hok HS2 HS3 hts hkn2 hxl
                obtain ⟨so, scap, rfl, _⟩ := own_cell hown5
                go_wp2
                exact bodyPost_ret (v := .tuple #[.agg #[.int .i64 e, .slice so xs.length scap, .slice none 0 0], .bool true]) (by simp [results, Tryz.results97, go_sem, c0, c1, c2]) rfl ⟨supOut_some G.out (own_mono (own_store (own_store (own_store hown5 (by omega) _) (by omega) _) (by omega) _) (by omega)), zs_ends (bel_after hb0 hbk) (Nat.le_refl _) _ _ _⟩
              · have G : Hid (supR s = none) := HS3.out (fun h => hts h.2)
                have hn := str_ne' hts
                clear hok HS2 HS3 hts
                go_wp2
                exact bodyPost_ret (v := .tuple #[.agg #[.int .i64 0, .slice none 0 0, .slice none 0 0], .bool false]) (by simp [results, Tryz.results97, go_sem, c0, c1, c2]) rfl ⟨supOut_none G.out, zs_ends (bel_after hb0 hbk) (Nat.le_refl _) _ _ _⟩
  · have G : Hid (supR s = none) := (by unfold supR; rw [if_neg hh] : supR s = none)
    simp only [if_neg hh, decide_eq_false hh] at P
    go_enter Tryz.func97, Tryz.ntmps97
    go_wp2_with (go_at_call 121; refine (P _).mono ?_; rintro x w1 ⟨rfl, rfl⟩)
    exact bodyPost_ret (v := .tuple #[.agg #[.int .i64 0, .slice none 0 0, .slice none 0 0], .bool false]) (by simp [results, Tryz.results97, go_sem]) rfl ⟨supOut_none G.out, bel_one _ _⟩

end Go.Proofs.YtfcenohgfhefiaaGreatDoor

/- checkRange of the program. -/
namespace Go.Proofs.YtfcenohgfhefiaaGreatDoor
open Go.RowKit

/-- The error that checkRange makes, or none. -/
def rangeV (n e : Int) (b : ByteArray) (part : ByteArray) (ev : Value) : Value := if pgOk n e b = true then .nilIface else .iface 152 (.agg #[.string part, ev])
theorem rangeV_no {n e : Int} {b part : ByteArray} {ev : Value} (h : pgOk n e b = false) : rangeV n e b part ev = .iface 152 (.agg #[.string part, ev]) := by unfold rangeV; rw [if_neg (by rw [h]; simp)]
theorem rangeV_yes {n e : Int} {b part : ByteArray} {ev : Value} (h : pgOk n e b = true) : rangeV n e b part ev = .nilIface := by unfold rangeV; rw [if_pos h]

set_option maxRecDepth 100000 in
set_option maxHeartbeats 3200000 in
theorem checkRange_any (n e s : Int) (b : ByteArray) (te : TypeId) (pe : Addr) (w : World) (hv : w.cell? ⟨1, 0, none⟩ = some (.iface te (.pointer (some pe)))) :
    Calls Tryz.prog 115 #[pageV n e s b] w fun x w' => (∃ part, x = .returned (rangeV n e b part (.iface te (.pointer (some pe))))) ∧ Below w.heap.size w w' := by
  have hv1 : (w.alloc (.cells #[.int .i64 n, .int .i64 e, .int .i64 s, .string b] 134)).cell? ⟨1, 0, none⟩ = some (.iface te (.pointer (some pe))) := cell_later (bel_one _ _) hv
  clear hv
  unfold pageV
  by_cases h : pgOk n e b = true
  · obtain ⟨r1, r2, r3, r4, r5⟩ := pgOk_range h
    have H : Hid (pgOk n e b = true) := h
    clear h
    go_enter Tryz.func115, Tryz.ntmps115
    go_wp2
    go_ret
    exact ⟨⟨⟨#[]⟩, by rw [rangeV_yes H.out]; rfl⟩, bel_one _ _⟩
  · have H : Hid (pgOk n e b = false) := (by simpa using h : pgOk n e b = false)
    have hq : n < 0 ∨ 30 ≤ n ∨ (0 ≤ n ∧ n < 30) ∧ (e < 0 ∨ 999999999 < e ∨ (0 ≤ e ∧ e ≤ 999999999) ∧ 200 < b.size) := by
      unfold pgOk at h
      simp at h
      omega
    clear h
    rcases hq with hq | hq | ⟨⟨a1, a2⟩, hq⟩
    · go_enter Tryz.func115, Tryz.ntmps115
      go_wp2
      go_ret
      exact ⟨⟨_, by rw [rangeV_no H.out]; rfl⟩, bel_one _ _⟩
    · go_enter Tryz.func115, Tryz.ntmps115
      go_wp2
      go_ret
      exact ⟨⟨_, by rw [rangeV_no H.out]; rfl⟩, bel_one _ _⟩
    rcases hq with hq | hq | ⟨⟨b1, b2⟩, hq⟩
    · go_enter Tryz.func115, Tryz.ntmps115
      go_wp2
      go_ret
      exact ⟨⟨_, by rw [rangeV_no H.out]; rfl⟩, bel_one _ _⟩
    · go_enter Tryz.func115, Tryz.ntmps115
      go_wp2
      go_ret
      exact ⟨⟨_, by rw [rangeV_no H.out]; rfl⟩, bel_one _ _⟩
    · go_enter Tryz.func115, Tryz.ntmps115
      go_wp2
      go_ret
      exact ⟨⟨_, by rw [rangeV_no H.out]; rfl⟩, bel_one _ _⟩

end Go.Proofs.YtfcenohgfhefiaaGreatDoor

/- readPage of the program. -/
namespace Go.Proofs.YtfcenohgfhefiaaGreatDoor
open Go.RowKit

/-- What readPage answers of a text that has the form. -/
def formV (n e c : Int) (b : ByteArray) (a0 a1 : Addr) (part : ByteArray) : Value :=
  if pgOk n e b = true then (if crcS (headS n e ++ b) = c then .tuple #[pageV n e c b, .nilIface] else .tuple #[pageV 0 0 0 ⟨#[]⟩, errV part a1]) else .tuple #[pageV 0 0 0 ⟨#[]⟩, errV part a0]
theorem formV_range {n e c : Int} {b : ByteArray} {a0 a1 : Addr} {part : ByteArray} (h : pgOk n e b = false) : formV n e c b a0 a1 part = .tuple #[pageV 0 0 0 ⟨#[]⟩, errV part a0] := by unfold formV; rw [if_neg (by rw [h]; simp)]
theorem formV_sum {n e c : Int} {b : ByteArray} {a0 a1 : Addr} {part : ByteArray} (h : pgOk n e b = true) (k : ¬ crcS (headS n e ++ b) = c) : formV n e c b a0 a1 part = .tuple #[pageV 0 0 0 ⟨#[]⟩, errV part a1] := by unfold formV; rw [if_pos h, if_neg k]
theorem formV_is {n e c : Int} {b : ByteArray} {a0 a1 : Addr} {part : ByteArray} (h : pgOk n e b = true) (k : crcS (headS n e ++ b) = c) : formV n e c b a0 a1 part = .tuple #[pageV n e c b, .nilIface] := by unfold formV; rw [if_pos h, if_pos k]
/-- What readPage answers: the page and no error; or no page and one of the four errors. -/
def readV (s : ByteArray) (a0 a1 a2 a3 : Addr) (part : ByteArray) : Value :=
  if s = ⟨#[]⟩ then .tuple #[pageV 0 0 0 ⟨#[]⟩, errV part a2] else
  match formN s.data.toList with
  | none => .tuple #[pageV 0 0 0 ⟨#[]⟩, errV part a3]
  | some (n, e, c, b) => formV n e c (bytesOf b) a0 a1 part

theorem form_range {l : List UInt8} {n e c : Int} {b : List UInt8} (h : formN l = some (n, e, c, b)) :
    -1000000000000000000 ≤ n ∧ n ≤ 1000000000000000000 ∧ -1000000000000000000 ≤ e ∧ e ≤ 1000000000000000000 ∧ b.length ≤ l.length := by
  unfold formN at h
  split at h
  · cases h1 : cutN (l.drop 1) 9 with
    | none => rw [h1] at h; simp at h
    | some x1 =>
      obtain ⟨n', r1⟩ := x1
      rw [h1] at h
      simp only at h
      cases h2 : cutN r1 9 with
      | none => rw [h2] at h; simp at h
      | some x2 =>
        obtain ⟨e', r2⟩ := x2
        rw [h2] at h
        simp only at h
        cases h3 : cutN r2 10 with
        | none => rw [h3] at h; simp at h
        | some x3 =>
          obtain ⟨c', b'⟩ := x3
          rw [h3] at h
          simp only [Option.some.injEq, Prod.mk.injEq] at h
          obtain ⟨rfl, rfl, rfl, rfl⟩ := h
          obtain ⟨p1, p2, p3⟩ := cutN_range (by omega) h1
          obtain ⟨q1, q2, q3⟩ := cutN_range (by omega) h2
          obtain ⟨_, _, r3⟩ := cutN_range (by omega) h3
          rw [List.length_drop] at p3
          omega
  · simp at h

/-- The zero page stored over the zero page of block R. -/
theorem zp_ends {w w2 : World} {R : Nat} (h : Below w.heap.size w w2) (hR : w.heap.size ≤ R) (v0 v1 v2 v3 : Value) :
    Below w.heap.size w ((((w2.setCell ⟨R, 0, none⟩ v0).setCell ⟨R, 1, none⟩ v1).setCell ⟨R, 2, none⟩ v2).setCell ⟨R, 3, none⟩ v3) :=
  (((h.setCell (p := ⟨R, 0, none⟩) hR _).setCell (p := ⟨R, 1, none⟩) hR _).setCell (p := ⟨R, 2, none⟩) hR _).setCell (p := ⟨R, 3, none⟩) hR _

set_option maxRecDepth 100000 in
set_option maxHeartbeats 3200000 in
theorem readPage_err (s : ByteArray) (a : Addr) (w : World)
    (C : ∀ w', Below w.heap.size w w' → Calls Tryz.prog 143 #[.string s] w' fun e w'' => (∃ part, e = .returned (.tuple #[pageV 0 0 0 ⟨#[]⟩, errV part a])) ∧ Below w'.heap.size w' w'') :
    Calls Tryz.prog 132 #[.string s] w fun e w' => (∃ part, e = .returned (.tuple #[pageV 0 0 0 ⟨#[]⟩, errV part a])) ∧ Below w.heap.size w w' := by
  have hb0 := bel_one w (.cells #[.int .i64 0, .int .i64 0, .int .i64 0, .string ⟨#[]⟩] 134)
  have A := C _ hb0
  have hz0 := Zp.new w
  unfold pageV errV at A ⊢
  clear C
  go_enter Tryz.func132, Tryz.ntmps132
  go_wp2_with fail
  refine A.mono ?_
  rintro x w1 ⟨⟨part, rfl⟩, hb1⟩
  have Z := hz0.later hb1
  obtain ⟨c0, c1, c2, c3, f0, f1, f2, f3, lt⟩ := Z
  have hbw := bel_after hb0 hb1
  have ne1 : ¬ w.heap.size = w1.heap.size := by omega
  have ne2 : ¬ w1.heap.size = w.heap.size := by omega
  clear A hz0
  go_wp2
  exact bodyPost_ret (v := .tuple #[.agg #[.int .i64 0, .int .i64 0, .int .i64 0, .string ⟨#[]⟩], .iface 152 (.agg #[.string part, .iface 222 (.pointer (some a))])]) (by simp [results, Tryz.results132, go_sem, c0, c1, c2, c3, lt]) rfl ⟨⟨_, rfl⟩, (zp_ends hbw (Nat.le_refl _) _ _ _ _).alloc (by simp; omega) _⟩

set_option maxRecDepth 100000 in
set_option maxHeartbeats 3200000 in
theorem readPage_form (s : ByteArray) (n e c : Int) (b : ByteArray) (a0 a1 a2 a3 : Addr) (w : World) (hb : b.size ≤ 100000000000) (hE : Env w) (hR : Errs a0 a1 a2 a3 w)
    (k0 : -1000000000000000000 ≤ n) (k1 : n ≤ 1000000000000000000) (k2 : -1000000000000000000 ≤ e) (k3 : e ≤ 1000000000000000000)
    (C : ∀ w', Below w.heap.size w w' → Calls Tryz.prog 143 #[.string s] w' fun e' w'' => e' = .returned (.tuple #[pageV n e c b, .nilIface]) ∧ Below w'.heap.size w' w'') :
    Calls Tryz.prog 132 #[.string s] w fun x w' => (∃ part, x = .returned (formV n e c b a0 a1 part)) ∧ Below w.heap.size w w' := by
  have hb0 := bel_one w (.cells #[.int .i64 0, .int .i64 0, .int .i64 0, .string ⟨#[]⟩] 134)
  have A := C _ hb0
  have hz0 := Zp.new w
  have h3 := lt_of_cell hR.e1
  unfold pageV at A
  clear C
  go_enter Tryz.func132, Tryz.ntmps132
  go_wp2_with fail
  refine A.mono ?_
  rintro x w1 ⟨rfl, hb1⟩
  clear A
  have hbw := bel_after hb0 hb1
  have hbp := bel_one w1 (.cells #[.int .i64 n, .int .i64 e, .int .i64 c, .string b] 134)
  have CR := checkRange_any n e c b 222 a0 _ ((hR.later hbw).later hbp).e0
  unfold pageV at CR
  go_wp2_with fail
  refine CR.mono ?_
  rintro x w2 ⟨⟨part, rfl⟩, hb2⟩
  clear CR
  have hb12 := bel_after hbp hb2
  have Z := (hz0.later hb1).later hb12
  obtain ⟨c0, c1, c2, c3, f0, f1, f2, f3, lt⟩ := Z
  have hbw2 := bel_after hbw hb12
  have g := (hR.later hbw2).e1
  have n1 : ¬ 3 = w.heap.size := by omega
  have n2 : ¬ w.heap.size = 3 := by omega
  have p0 : w2.cell? ⟨w1.heap.size, 0, none⟩ = some (.int .i64 n) := cell_later hb2 (by simp)
  have p1 : w2.cell? ⟨w1.heap.size, 1, none⟩ = some (.int .i64 e) := cell_later hb2 (by simp)
  have p2 : w2.cell? ⟨w1.heap.size, 2, none⟩ = some (.int .i64 c) := cell_later hb2 (by simp)
  have p3 : w2.cell? ⟨w1.heap.size, 3, none⟩ = some (.string b) := cell_later hb2 (by simp)
  have ht2 := hE.tb.later hbw2
  have hlt1 : w.heap.size < w1.heap.size := (hz0.later hb1).lt
  clear hb0 hb1 hz0 hbp hR hE hbw hb12 hb2
  have ne1 : ¬ w.heap.size = w1.heap.size := by omega
  have ne2 : ¬ w1.heap.size = w.heap.size := by omega
  cases hpg : pgOk n e b
  · rw [rangeV_no hpg]
    have H : Hid (pgOk n e b = false) := hpg
    clear hpg
    go_wp2
    exact bodyPost_ret (v := .tuple #[.agg #[.int .i64 0, .int .i64 0, .int .i64 0, .string ⟨#[]⟩], .iface 152 (.agg #[.string part, .iface 222 (.pointer (some a0))])]) (by simp [results, Tryz.results132, go_sem, c0, c1, c2, c3]) rfl ⟨⟨part, by rw [formV_range H.out]; rfl⟩, zp_ends hbw2 (Nat.le_refl _) _ _ _ _⟩
  · rw [rangeV_yes hpg]
    have H : Hid (pgOk n e b = true) := hpg
    clear hpg
    have PS := fun w' => pageSum_any n e c b w' (by omega) (by omega) (by omega) (by omega) hb
    unfold pageV at PS
    go_wp2_with fail
    go_region_held3 (fun w' => Below w2.heap.size w2 w' ∧ w'.cell? ⟨w1.heap.size, 0, none⟩ = some (.int .i64 n) ∧ w'.cell? ⟨w1.heap.size, 1, none⟩ = some (.int .i64 e) ∧ w'.cell? ⟨w1.heap.size, 2, none⟩ = some (.int .i64 c) ∧ w'.cell? ⟨w1.heap.size, 3, none⟩ = some (.string b))
      (first | assumption | (refine ⟨(Below.refl _ _).drew, ?_, ?_, ?_, ?_⟩ <;> simp [p0, p1, p2, p3]) | (exact keep4 (by assumption) (by assumption)))
      (first
        | (go_at_call 117; refine (PS _ ?_).mono ?_; (focus (exact ht2.held (by assumption))); rintro x w3 ⟨rfl, hb3⟩))
    all_goals
      rename_i hHeld
      obtain ⟨hb23, d0, d1, d2, d3⟩ := hHeld
      have Z : Zp w.heap.size w3 := Zp.later ⟨c0, c1, c2, c3, f0, f1, f2, f3, lt⟩ hb23
      clear c0 c1 c2 c3 f0 f1 f2 f3 lt p0 p1 p2 p3
      obtain ⟨c0, c1, c2, c3, f0, f1, f2, f3, lt⟩ := Z
      have g3 := cell_later hb23 g
      have hbw3 := bel_after hbw2 hb23
      clear g hbw2 hb23 hb3 ht2 PS
      by_cases hcc : crcS (headS n e ++ b) = c
      · have HC : Hid (crcS (headS n e ++ b) = c) := hcc
        have hcc' : (c != crcS (headS n e ++ b)) = false := by simpa using hcc.symm
        clear hcc
        go_wp2
        exact bodyPost_ret (v := .tuple #[.agg #[.int .i64 n, .int .i64 e, .int .i64 c, .string b], .nilIface]) (by simp [results, Tryz.results132, go_sem, c0, c1, c2, c3]) rfl ⟨⟨⟨#[]⟩, by rw [formV_is H.out HC.out]; rfl⟩, zp_ends hbw3 (Nat.le_refl _) _ _ _ _⟩
      · have HC : Hid (¬ crcS (headS n e ++ b) = c) := hcc
        have hcc' : (c != crcS (headS n e ++ b)) = true := by simpa using fun e => hcc e.symm
        clear hcc
        go_wp2
        go_region
        all_goals go_wp2
        all_goals exact bodyPost_ret (v := .tuple #[.agg #[.int .i64 0, .int .i64 0, .int .i64 0, .string ⟨#[]⟩], .iface 152 (.agg #[.string ⟨#[115, 117, 109]⟩, .iface 222 (.pointer (some a1))])]) (by simp [results, Tryz.results132, go_sem, c0, c1, c2, c3]) rfl ⟨⟨⟨#[115, 117, 109]⟩, by rw [formV_sum H.out HC.out]; rfl⟩, (zp_ends hbw3 (Nat.le_refl _) _ _ _ _).drew⟩

theorem readPage_any (s : ByteArray) (a0 a1 a2 a3 : Addr) (w : World) (hs : s.size < 4294967281) (hE : Env w) (hR : Errs a0 a1 a2 a3 w) :
    Calls Tryz.prog 132 #[.string s] w fun x w' => (∃ part, x = .returned (readV s a0 a1 a2 a3 part)) ∧ Below w.heap.size w w' := by
  unfold readV
  by_cases h0 : s = ⟨#[]⟩
  · rw [h0]
    simp only [if_pos]
    exact readPage_err _ a2 w fun w' hb => split_empty a0 a1 a2 a3 w' (hR.later hb)
  simp only [if_neg h0]
  cases hf : formN s.data.toList with
  | none => exact readPage_err s a3 w fun w' hb => split_form s a0 a1 a2 a3 w' hs h0 (hE.later hb) (hR.later hb) hf
  | some x =>
    obtain ⟨n, e, c, b⟩ := x
    obtain ⟨k0, k1, k2, k3, k4⟩ := form_range hf
    simp only
    refine readPage_form s n e c (bytesOf b) a0 a1 a2 a3 w ?_ hE hR k0 k1 k2 k3 fun w' hb => split_yes s n e c b w' hs h0 (hE.later hb) hf
    rw [bytesOf_size]
    have k5 : s.data.toList.length = s.size := Array.length_toList
    omega

end Go.Proofs.YtfcenohgfhefiaaGreatDoor
