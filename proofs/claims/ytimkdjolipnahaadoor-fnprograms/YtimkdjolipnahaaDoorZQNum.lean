/- readNumber of the program, where no other variables are known than it reads. -/
import Derived.Test.YtimkdjolipnahaaDoorZNumer
import Derived.Test.YtimkdjolipnahaaDoorZShelf2
import Derived.Test.YtimkdjolipnahaaDoorZHead
namespace Go.Proofs.YtimkdjolipnahaaDoor
open Go.RowKit

/-- What the library's calls ask of the package-level variables. -/
structure Env (w : World) : Prop where
  tb : Tb w
  syn : ∃ t p, w.cell? ⟨1, 0, none⟩ = some (.iface t p)
  ran : ∃ t p, w.cell? ⟨2, 0, none⟩ = some (.iface t p)
theorem Env.later {w w' : World} (h : Env w) (hb : Below w.heap.size w w') : Env w' :=
  ⟨h.tb.later hb, let ⟨t, p, e⟩ := h.syn; ⟨t, p, cell_later hb e⟩, let ⟨t, p, e⟩ := h.ran; ⟨t, p, cell_later hb e⟩⟩

theorem trim_any (s : ByteArray) (w : World) : Calls Tryd.prog 40 #[.string s, .string ⟨#[45]⟩] w fun e w' => e = .returned (.string (bytesOf (bodyN s))) ∧ w' = w :=
  (Any.strings_TrimPrefix Tryd.lays101 s ⟨#[45]⟩ w).mono fun _ _ ⟨he, hw⟩ => ⟨by rw [he]; unfold bytesOf; rw [← trim_body], hw⟩
theorem parse_ok (s : ByteArray) (v : Int) (w : World) (hs : s.size ≤ 1000000000000) (h : Lib.parseIntB 64 s.data.toList = .ok v) :
    Calls Tryd.prog 41 #[.string s, .int .i64 10, .int .i64 64] w fun e w' => e = .returned (.tuple #[.int .i64 v, .nilIface]) ∧ Below w.heap.size w w' :=
  (Any.strconv_ParseInt_10_at64_ok Tryd.laysC174 s (by omega) v h w).mono fun _ _ ⟨he, hw⟩ => ⟨he, by
    rcases hw with rfl | ⟨t, rfl⟩
    · exact Below.refl _ _
    · exact Lib.bytesWorld_below _ _ _⟩
theorem parse_no (s : ByteArray) (w : World) (hs : s.size ≤ 1000000000000) (hE : Env w) (h : ∀ v, Lib.parseIntB 64 s.data.toList ≠ .ok v) :
    Calls Tryd.prog 41 #[.string s, .int .i64 10, .int .i64 64] w fun e w' => (∃ z tp p, e = .returned (.tuple #[.int .i64 z, .iface tp (.pointer (some p))])) ∧ Below w.heap.size w w' := by
  cases hp : Lib.parseIntB 64 s.data.toList with
  | ok v => exact absurd hp (h v)
  | «syntax» =>
    obtain ⟨t, p, hc⟩ := hE.syn
    exact (Any.strconv_ParseInt_10_at64_syntax Tryd.laysC174 s (by omega) hp _ w hc (.inr ⟨t, p, rfl⟩)).mono fun _ _ ⟨n, he, _, _, hb⟩ => ⟨⟨_, _, _, he⟩, hb⟩
  | range =>
    obtain ⟨t, p, hc⟩ := hE.ran
    exact (Any.strconv_ParseInt_10_at64_range Tryd.laysC174 s (by omega) hp _ w hc (.inr ⟨t, p, rfl⟩)).mono fun _ _ ⟨n, he, _, _, hb⟩ => ⟨⟨_, _, _, he⟩, hb⟩

theorem bytesOf_size (l : List UInt8) : (bytesOf l).size = l.length := by
  show l.toArray.size = _
  rw [List.size_toArray]
theorem str_ne' {s t : ByteArray} (h : s ≠ t) : (!s.toList == t.toList) = true := by
  simp
  intro e
  rw [ByteArray.toList_eq, ByteArray.toList_eq] at e
  exact h (ByteArray.ext (Array.toList_inj.1 e))

set_option maxRecDepth 100000 in
set_option maxHeartbeats 1000000 in
theorem readNumber_any (s : ByteArray) (d : Nat) (w : World) (hs : s.size ≤ 1000000000000) (hd : d ≤ 17) (hE : Env w) :
    Calls Tryd.prog 27 #[.string s, .int .i64 d] w fun e w' => e = .returned (.tuple #[.int .i64 (numV s d), .bool (numIs s d)]) ∧ Below w.heap.size w w' := by
  have hbz := bytesOf_size (bodyN s)
  by_cases hl : (bodyN s).length ≤ d
  · have hli : ¬ (d : Int) < ((bodyN s).length : Int) := by omega
    by_cases hp : ∃ v, Lib.parseIntB 64 s.data.toList = .ok v
    · obtain ⟨v, hp⟩ := hp
      obtain ⟨v0, v1⟩ := Lib.parseIntB_bounds hp
      have y0 : -9223372036854775808 ≤ v := by simpa using v0
      have y1 : v ≤ 9223372036854775807 := by
        have e : ((2 ^ (64 - 1) : Nat) : Int) = 9223372036854775808 := by decide
        rw [e] at v1
        omega
      clear v0 v1
      have PO := fun w => parse_ok s v w hs hp
      obtain ⟨i1, i2⟩ := num_itoa v d
      by_cases he : itoaB v = s
      · rw [he] at i1 i2
        have hi : numIs s d = true := by rw [i1]; exact decide_eq_true hl
        have HI : Hid (numIs s d = true) := hi
        have HV : Hid (numV s d = v) := i2 hi
        clear hi i1 i2 hp hl
        have HS : Hid (itoaB v = s) := he
        clear he
        go_enter Tryd.func27, Tryd.ntmps27
        go_wp2_with (first
          | (go_at_call 40; refine (trim_any _ _).mono ?_; rintro x w1 ⟨rfl, rfl⟩)
          | (go_at_call 41; refine (PO _).mono ?_; rintro x w2 ⟨rfl, hb2⟩)
          | (go_at_call 20; refine (fmt_any v _ y0 y1 (hE.tb.later hb2)).mono ?_; rintro x w3 ⟨rfl, hb3⟩; rw [HS.out]))
        exact bodyPost_ret (v := .tuple #[.int .i64 v, .bool true]) (by simp [results, Tryd.results27, go_sem]) rfl ⟨by rw [HI.out, HV.out], bel_after hb2 hb3⟩
      · have hi : Hid (numIs s d = false) := (by
          cases h : numIs s d
          · rfl
          · exact absurd (by
              have e := parse_num hd h
              rw [hp] at e
              have e2 : v = numV s d := by simpa using e
              rw [e2]
              exact itoa_num h) he : numIs s d = false)
        have hn := str_ne' he
        clear i1 i2 hp hl
        go_enter Tryd.func27, Tryd.ntmps27
        go_wp2_with (first
          | (go_at_call 40; refine (trim_any _ _).mono ?_; rintro x w1 ⟨rfl, rfl⟩)
          | (go_at_call 41; refine (PO _).mono ?_; rintro x w2 ⟨rfl, hb2⟩)
          | (go_at_call 20; refine (fmt_any v _ y0 y1 (hE.tb.later hb2)).mono ?_; rintro x w3 ⟨rfl, hb3⟩))
        exact bodyPost_ret (v := .tuple #[.int .i64 0, .bool false]) (by simp [results, Tryd.results27, go_sem]) rfl ⟨by rw [numV_not hi.out, hi.out], bel_after hb2 hb3⟩
    · have hi : Hid (numIs s d = false) := (by
        cases h : numIs s d
        · rfl
        · exact absurd ⟨_, parse_num hd h⟩ hp : numIs s d = false)
      have PN := fun w hE => parse_no s w hs hE (fun v e => hp ⟨v, e⟩)
      clear hp
      go_enter Tryd.func27, Tryd.ntmps27
      go_wp2_with (first
          | (go_at_call 40; refine (trim_any _ _).mono ?_; rintro x w1 ⟨rfl, rfl⟩)
          | (go_at_call 41; refine (PN _ hE).mono ?_; rintro x w2 ⟨⟨z, tp, p, rfl⟩, hb2⟩))
      exact bodyPost_ret (v := .tuple #[.int .i64 0, .bool false]) (by simp [results, Tryd.results27, go_sem]) rfl ⟨by rw [numV_not hi.out, hi.out], hb2⟩
  · have hli : (d : Int) < ((bodyN s).length : Int) := by omega
    have hi : Hid (numIs s d = false) := numIs_len (fun h => hl h.2)
    go_enter Tryd.func27, Tryd.ntmps27
    go_wp2_with (go_at_call 40; refine (trim_any _ _).mono ?_; rintro x w1 ⟨rfl, rfl⟩)
    exact bodyPost_ret (v := .tuple #[.int .i64 0, .bool false]) (by simp [results, Tryd.results27, go_sem]) rfl ⟨by rw [numV_not hi.out, hi.out], Below.refl _ _⟩

end Go.Proofs.YtimkdjolipnahaaDoor
