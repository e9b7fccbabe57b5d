/- l2Number of the model: a numeral read. -/
import Derived.Test.YtjclpbaiiklhcaaGreatDoorZV1
namespace Go.Proofs.YtjclpbaiiklhcaaGreatDoor
open Go.RowKit

def negB (s : ByteArray) : Bool := s.data.toList.head? == some 45
def offN (s : ByteArray) : Nat := if negB s = true then 1 else 0
def bodyN (s : ByteArray) : List UInt8 := s.data.toList.drop (offN s)
def isDig (b : UInt8) : Bool := decide (48 ≤ b.toNat ∧ b.toNat ≤ 57)
def dsv (l : List UInt8) : Nat := l.foldl (fun n b => n * 10 + (b.toNat - 48)) 0
def numIs (s : ByteArray) (most : Nat) : Bool := decide (1 ≤ (bodyN s).length ∧ (bodyN s).length ≤ most) && (bodyN s).all isDig && !((bodyN s).head? == some 48 && (negB s || decide (1 < s.size)))
def numV (s : ByteArray) (most : Nat) : Int := if numIs s most = true then (if negB s = true then -(dsv (bodyN s) : Int) else dsv (bodyN s)) else 0

theorem dsv_succ (l : List UInt8) (k : Nat) (h : k < l.length) : dsv (l.take (k + 1)) = dsv (l.take k) * 10 + (l[k].toNat - 48) := by
  unfold dsv
  rw [List.take_succ_eq_append_getElem h, List.foldl_append]
  rfl
theorem dsv_lt : ∀ (l : List UInt8), l.all isDig = true → dsv l < 10 ^ l.length := by
  intro l hl
  have key : ∀ (l : List UInt8) (c k : Nat), l.all isDig = true → c < 10 ^ k → l.foldl (fun n b => n * 10 + (b.toNat - 48)) c < 10 ^ (k + l.length) := by
    intro l
    induction l with
    | nil => intro c k _ h; exact h
    | cons x r ih =>
      intro c k ha h
      simp only [List.all_cons, Bool.and_eq_true] at ha
      obtain ⟨hx, hr⟩ := ha
      unfold isDig at hx
      simp at hx
      have h2 : c * 10 + (x.toNat - 48) < 10 ^ (k + 1) := by rw [Nat.pow_succ]; omega
      have h3 := ih (c * 10 + (x.toNat - 48)) (k + 1) hr h2
      rw [List.length_cons, List.foldl_cons]
      rw [show k + (r.length + 1) = k + 1 + r.length from by omega]
      exact h3
  have h := key l 0 0 hl (by simp)
  rw [Nat.zero_add] at h
  exact h
theorem numV_not {s : ByteArray} {most : Nat} (h : numIs s most = false) : numV s most = 0 := by unfold numV; rw [if_neg (by rw [h]; simp)]

theorem body_len (s : ByteArray) : (bodyN s).length = s.size - offN s := by
  unfold bodyN
  rw [List.length_drop, Array.length_toList]
  rfl
theorem body_get (s : ByteArray) (k : Nat) (h : k < s.size) (ho : offN s ≤ k) : ∃ h', (bodyN s)[k - offN s]'h' = s[k] := by
  have hl := body_len s
  refine ⟨by omega, ?_⟩
  unfold bodyN
  rw [List.getElem_drop]
  simp only [show offN s + (k - offN s) = k from by omega]
  rw [Array.getElem_toList]
  rfl

theorem body_head (s : ByteArray) (h : offN s < s.size) : (bodyN s).head? = some s[offN s] := by
  obtain ⟨h', e⟩ := body_get s (offN s) h (Nat.le_refl _)
  rw [← e]
  simp only [Nat.sub_self]
  rw [List.head?_eq_getElem?]
  exact List.getElem?_eq_getElem _
theorem neg_head (s : ByteArray) (h : 0 < s.size) : negB s = decide (s[0].toNat = 45) := by
  unfold negB
  have e : s.data.toList.head? = some s[0] := by
    rw [List.head?_eq_getElem?]
    have h2 : 0 < s.data.toList.length := by rw [Array.length_toList]; exact h
    rw [List.getElem?_eq_getElem h2, Array.getElem_toList]
    rfl
  rw [e]
  by_cases hb : s[0].toNat = 45
  · have : s[0] = 45 := UInt8.toNat_inj.1 hb
    simp [this]
  · have : ¬ s[0] = 45 := fun e => hb (by rw [e]; rfl)
    simp [this, hb]
theorem numIs_len {s : ByteArray} {most : Nat} (h : ¬ (1 ≤ (bodyN s).length ∧ (bodyN s).length ≤ most)) : numIs s most = false := by
  unfold numIs
  rw [decide_eq_false h]
  rfl
theorem numIs_dig {s : ByteArray} {most k : Nat} (hk : k < s.size) (ho : offN s ≤ k) (h : isDig s[k] = false) : numIs s most = false := by
  unfold numIs
  have h2 : (bodyN s).all isDig = false := by
    obtain ⟨h', e⟩ := body_get s k hk ho
    rw [List.all_eq_false]
    exact ⟨_, List.getElem_mem h', by rw [e, h]; simp⟩
  rw [h2]
  simp
theorem numIs_end {s : ByteArray} {most : Nat} (h1 : 1 ≤ (bodyN s).length ∧ (bodyN s).length ≤ most) (h2 : (bodyN s).all isDig = true) (ho : offN s < s.size) : numIs s most = !(decide (s[offN s].toNat = 48) && (negB s || decide (1 < s.size))) := by
  unfold numIs
  rw [decide_eq_true h1, h2, body_head s ho]
  have : (some s[offN s] == some (48 : UInt8)) = decide (s[offN s].toNat = 48) := by
    by_cases hb : s[offN s].toNat = 48
    · have : s[offN s] = 48 := UInt8.toNat_inj.1 hb
      simp [this]
    · have : ¬ s[offN s] = 48 := fun e => hb (by rw [e]; rfl)
      simp [this, hb]
  rw [this]
  simp
theorem numIs_at {s : ByteArray} {most o : Nat} (eo : offN s = o) (ho : o < s.size) (h1 : 1 ≤ (bodyN s).length ∧ (bodyN s).length ≤ most) (h2 : (bodyN s).all isDig = true) : numIs s most = !(decide (s[o].toNat = 48) && (negB s || decide (1 < s.size))) := by
  subst eo
  exact numIs_end h1 h2 ho
theorem numV_is {s : ByteArray} {most : Nat} (h : numIs s most = true) : numV s most = if negB s = true then -(dsv (bodyN s) : Int) else dsv (bodyN s) := by unfold numV; rw [if_pos h]
theorem take_body (s : ByteArray) : (bodyN s).take (s.size - offN s) = bodyN s := List.take_of_length_le (by rw [body_len]; exact Nat.le_refl _)

theorem all_snoc {s : ByteArray} {k : Nat} (hk : k < s.size) (ho : offN s ≤ k) (h : ((bodyN s).take (k - offN s)).all isDig = true) (hd : isDig s[k] = true) : ((bodyN s).take (k + 1 - offN s)).all isDig = true := by
  obtain ⟨h', e⟩ := body_get s k hk ho
  rw [show k + 1 - offN s = k - offN s + 1 from by omega, List.take_succ_eq_append_getElem h', List.all_append, h, e]
  simp [hd]
theorem dsv_snoc {s : ByteArray} {k : Nat} (hk : k < s.size) (ho : offN s ≤ k) : dsv ((bodyN s).take (k + 1 - offN s)) = dsv ((bodyN s).take (k - offN s)) * 10 + (s[k].toNat - 48) := by
  obtain ⟨h', e⟩ := body_get s k hk ho
  rw [show k + 1 - offN s = k - offN s + 1 from by omega, dsv_succ _ _ h', e]
theorem dsv_small {s : ByteArray} {k : Nat} (h : ((bodyN s).take (k - offN s)).all isDig = true) (hk : k - offN s ≤ 17) : dsv ((bodyN s).take (k - offN s)) < 100000000000000000 := by
  have h1 := dsv_lt _ h
  have h2 : ((bodyN s).take (k - offN s)).length ≤ 17 := by rw [List.length_take]; omega
  have h3 := Nat.pow_le_pow_right (n := 10) (by omega) h2
  omega
theorem dsv_full {s : ByteArray} {most : Nat} (hm : most ≤ 18) (h : (bodyN s).all isDig = true) (hk : (bodyN s).length ≤ most) : dsv (bodyN s) < 1000000000000000000 := by
  have h1 := dsv_lt _ h
  have h3 := Nat.pow_le_pow_right (n := 10) (by omega) (Nat.le_trans hk hm)
  omega

set_option maxRecDepth 100000 in
set_option maxHeartbeats 1000000 in
theorem l2Number_pos (s : ByteArray) (most : Nat) (w : World) (hs : s.size ≤ 1000000000000) (hm : most ≤ 18) (he : s ≠ ⟨#[]⟩) (hp : 0 < s.size) (hneg : negB s = false) :
    Calls Tryz.prog 94 #[.string s, .int .i64 most] w fun x w' => x = .returned (.tuple #[.int .i64 (numV s most), .bool (numIs s most)]) ∧ w' = w := by
  have q1 := str_nil he
  have q2 : s.toList.isEmpty = false := by simpa using q1
  have ho : offN s = 0 := by unfold offN; rw [hneg]; rfl
  have HO : Hid (offN s = 0) := ho
  have HNG : Hid (negB s = false) := hneg
  have t0 : ((s[0].toNat : Int) == 45) = false := by
    have h := neg_head s hp
    rw [hneg] at h
    have := of_decide_eq_false h.symm
    simp
    omega
  have hbl := body_len s
  rw [ho, Nat.sub_zero] at hbl
  have HBL : Hid ((bodyN s).length = s.size) := hbl
  clear ho hneg hbl he
  by_cases hl : s.size ≤ most
  · have h1i : ¬ (s.size : Int) < 1 := by omega
    have h2i : ¬ (most : Int) < (s.size : Int) := by omega
    go_enter Tryz.func94, Tryz.ntmps94
    go_wp2
    go_loopw [8, 9] (fun n kv wr => ∃ k : Nat, k ≤ s.size ∧ kv = .int .i64 k ∧ n = .int .i64 (dsv ((bodyN s).take (k - offN s)) : Nat) ∧ Hid (((bodyN s).take (k - offN s)).all isDig = true) ∧ wr = w) (fun _ kv _ => s.size - (intOf kv).toNat)
    case atStart => exact ⟨0, by omega, rfl, by rw [HO.out]; rfl, (by rw [HO.out]; rfl : ((bodyN s).take (0 - offN s)).all isDig = true), rfl⟩
    case round =>
      obtain ⟨k, hk, rfl, rfl, ha, rfl⟩ := hrel
      by_cases hlt : k < s.size
      · have HE : Hid (dsv ((bodyN s).take (k + 1 - offN s)) = dsv ((bodyN s).take (k - offN s)) * 10 + (s[k].toNat - 48)) := dsv_snoc hlt (by rw [HO.out]; omega)
        have hsm := dsv_small ha.out (by rw [HO.out]; omega)
        generalize dsv ((bodyN s).take (k - offN s)) = n at *
        by_cases hlo : s[k].toNat < 48
        · have G : Hid (numIs s most = false) := numIs_dig hlt (by rw [HO.out]; omega) (by unfold isDig; simp; omega)
          go_wp2
          exact bodyPost_ret (v := .tuple #[.int .i64 0, .bool false]) (by simp [results, Tryz.results94, go_sem]) rfl ⟨by rw [numV_not G.out, G.out], rfl⟩
        by_cases hhi : 57 < s[k].toNat
        · have G : Hid (numIs s most = false) := numIs_dig hlt (by rw [HO.out]; omega) (by unfold isDig; simp; omega)
          go_wp2
          exact bodyPost_ret (v := .tuple #[.int .i64 0, .bool false]) (by simp [results, Tryz.results94, go_sem]) rfl ⟨by rw [numV_not G.out, G.out], rfl⟩
        have HA : Hid (((bodyN s).take (k + 1 - offN s)).all isDig = true) := all_snoc hlt (by rw [HO.out]; omega) ha.out (by unfold isDig; simp; omega)
        go_wp2
        go_roundw
        case rel => exact ⟨k + 1, by omega, by go_num, congrArg (Value.int .i64) (by rw [HE.out]; omega), HA, trivial⟩
        case measure => simp [intOf]; omega
      · obtain rfl : k = s.size := by omega
        have ha' := ha.out
        rw [take_body] at ha' ⊢
        have hdf := dsv_full hm ha' (by rw [HBL.out]; exact hl)
        have G := numIs_at (most := most) HO.out hp ⟨by rw [HBL.out]; omega, by rw [HBL.out]; exact hl⟩ ha'
        rw [HNG.out] at G
        have HG : Hid (numIs s most = !(decide (s[0].toNat = 48) && (false || decide (1 < s.size)))) := G
        clear G ha'
        by_cases hz : s[0].toNat = 48
        · have hzi : (s[0].toNat : Int) = 48 := by omega
          by_cases h1s : 1 < s.size
          · have G : Hid (numIs s most = false) := (by rw [HG.out]; simp [hz, h1s] : numIs s most = false)
            have h1i : (1 : Int) < (s.size : Int) := by omega
            go_wp2
            exact bodyPost_ret (v := .tuple #[.int .i64 0, .bool false]) (by simp [results, Tryz.results94, go_sem]) rfl ⟨by rw [numV_not G.out, G.out], rfl⟩
          · have G : Hid (numIs s most = true) := (by rw [HG.out]; simp [h1s] : numIs s most = true)
            have h1i : ¬ (1 : Int) < (s.size : Int) := by omega
            go_wp2
            exact bodyPost_ret (v := .tuple #[.int .i64 (dsv (bodyN s) : Nat), .bool true]) (by simp [results, Tryz.results94, go_sem]) rfl ⟨by rw [numV_is G.out, G.out, HNG.out]; rfl, rfl⟩
        · have G : Hid (numIs s most = true) := (by rw [HG.out]; simp [hz] : numIs s most = true)
          have hzi : ¬ (s[0].toNat : Int) = 48 := by omega
          go_wp2
          exact bodyPost_ret (v := .tuple #[.int .i64 (dsv (bodyN s) : Nat), .bool true]) (by simp [results, Tryz.results94, go_sem]) rfl ⟨by rw [numV_is G.out, G.out, HNG.out]; rfl, rfl⟩
  · have G : Hid (numIs s most = false) := numIs_len (by rw [HBL.out]; omega)
    go_enter Tryz.func94, Tryz.ntmps94
    go_wp2
    exact bodyPost_ret (v := .tuple #[.int .i64 0, .bool false]) (by simp [results, Tryz.results94, go_sem]) rfl ⟨by rw [numV_not G.out, G.out], rfl⟩

set_option maxRecDepth 100000 in
set_option maxHeartbeats 1000000 in
theorem l2Number_neg (s : ByteArray) (most : Nat) (w : World) (hs : s.size ≤ 1000000000000) (hm : most ≤ 18) (he : s ≠ ⟨#[]⟩) (hp : 0 < s.size) (hneg : negB s = true) :
    Calls Tryz.prog 94 #[.string s, .int .i64 most] w fun x w' => x = .returned (.tuple #[.int .i64 (numV s most), .bool (numIs s most)]) ∧ w' = w := by
  have q1 := str_nil he
  have q2 : s.toList.isEmpty = false := by simpa using q1
  have ho : offN s = 1 := by unfold offN; rw [hneg]; rfl
  have HO : Hid (offN s = 1) := ho
  have HNG : Hid (negB s = true) := hneg
  have t0 : ((s[0].toNat : Int) == 45) = true := by
    have h := neg_head s hp
    rw [hneg] at h
    have := of_decide_eq_true h.symm
    simp
    omega
  have hbl := body_len s
  rw [ho] at hbl
  have HBL : Hid ((bodyN s).length = s.size - 1) := hbl
  clear ho hneg hbl he
  by_cases hl : 2 ≤ s.size ∧ s.size - 1 ≤ most
  · go_enter Tryz.func94, Tryz.ntmps94
    go_wp2
    go_loopw [8, 9] (fun n kv wr => ∃ k : Nat, 1 ≤ k ∧ k ≤ s.size ∧ kv = .int .i64 k ∧ n = .int .i64 (dsv ((bodyN s).take (k - offN s)) : Nat) ∧ Hid (((bodyN s).take (k - offN s)).all isDig = true) ∧ wr = w) (fun _ kv _ => s.size - (intOf kv).toNat)
    case atStart => exact ⟨1, by omega, by omega, rfl, by rw [HO.out]; rfl, (by rw [HO.out]; rfl : ((bodyN s).take (1 - offN s)).all isDig = true), rfl⟩
    case round =>
      obtain ⟨k, hk1, hk, rfl, rfl, ha, rfl⟩ := hrel
      by_cases hlt : k < s.size
      · have HE : Hid (dsv ((bodyN s).take (k + 1 - offN s)) = dsv ((bodyN s).take (k - offN s)) * 10 + (s[k].toNat - 48)) := dsv_snoc hlt (by rw [HO.out]; omega)
        have hsm := dsv_small ha.out (by rw [HO.out]; omega)
        generalize dsv ((bodyN s).take (k - offN s)) = n at *
        by_cases hlo : s[k].toNat < 48
        · have G : Hid (numIs s most = false) := numIs_dig hlt (by rw [HO.out]; omega) (by unfold isDig; simp; omega)
          go_wp2
          exact bodyPost_ret (v := .tuple #[.int .i64 0, .bool false]) (by simp [results, Tryz.results94, go_sem]) rfl ⟨by rw [numV_not G.out, G.out], rfl⟩
        by_cases hhi : 57 < s[k].toNat
        · have G : Hid (numIs s most = false) := numIs_dig hlt (by rw [HO.out]; omega) (by unfold isDig; simp; omega)
          go_wp2
          exact bodyPost_ret (v := .tuple #[.int .i64 0, .bool false]) (by simp [results, Tryz.results94, go_sem]) rfl ⟨by rw [numV_not G.out, G.out], rfl⟩
        have HA : Hid (((bodyN s).take (k + 1 - offN s)).all isDig = true) := all_snoc hlt (by rw [HO.out]; omega) ha.out (by unfold isDig; simp; omega)
        go_wp2
        go_roundw
        case rel => exact ⟨k + 1, by omega, by omega, by go_num, congrArg (Value.int .i64) (by rw [HE.out]; omega), HA, trivial⟩
        case measure => simp [intOf]; omega
      · obtain rfl : k = s.size := by omega
        have ha' := ha.out
        rw [take_body] at ha' ⊢
        have hdf := dsv_full hm ha' (by rw [HBL.out]; exact hl.2)
        have G := numIs_at (most := most) HO.out (by omega) ⟨by rw [HBL.out]; omega, by rw [HBL.out]; exact hl.2⟩ ha'
        rw [HNG.out] at G
        have HG : Hid (numIs s most = !(decide (s[1].toNat = 48) && (true || decide (1 < s.size)))) := G
        clear G ha'
        by_cases hz : s[1].toNat = 48
        · have hzi : (s[1].toNat : Int) = 48 := by omega
          have G : Hid (numIs s most = false) := (by rw [HG.out]; simp [hz] : numIs s most = false)
          go_wp2
          exact bodyPost_ret (v := .tuple #[.int .i64 0, .bool false]) (by simp [results, Tryz.results94, go_sem]) rfl ⟨by rw [numV_not G.out, G.out], rfl⟩
        · have G : Hid (numIs s most = true) := (by rw [HG.out]; simp [hz] : numIs s most = true)
          have hzi : ¬ (s[1].toNat : Int) = 48 := by omega
          go_wp2
          exact bodyPost_ret (v := .tuple #[.int .i64 (-(dsv (bodyN s) : Int)), .bool true]) (by simp [results, Tryz.results94, go_sem]) rfl ⟨by rw [numV_is G.out, G.out, HNG.out]; rfl, rfl⟩
  · have G : Hid (numIs s most = false) := numIs_len (by rw [HBL.out]; omega)
    by_cases h1s : s.size = 1
    · have h1i : (s.size : Int) - 1 < 1 := by omega
      go_enter Tryz.func94, Tryz.ntmps94
      go_wp2
      exact bodyPost_ret (v := .tuple #[.int .i64 0, .bool false]) (by simp [results, Tryz.results94, go_sem]) rfl ⟨by rw [numV_not G.out, G.out], rfl⟩
    have h1i : ¬ (s.size : Int) - 1 < 1 := by omega
    have h2i : (most : Int) < (s.size : Int) - 1 := by omega
    go_enter Tryz.func94, Tryz.ntmps94
    go_wp2
    exact bodyPost_ret (v := .tuple #[.int .i64 0, .bool false]) (by simp [results, Tryz.results94, go_sem]) rfl ⟨by rw [numV_not G.out, G.out], rfl⟩

theorem l2Number_any (s : ByteArray) (most : Nat) (w : World) (hs : s.size ≤ 1000000000000) (hm : most ≤ 18) :
    Calls Tryz.prog 94 #[.string s, .int .i64 most] w fun x w' => x = .returned (.tuple #[.int .i64 (numV s most), .bool (numIs s most)]) ∧ w' = w := by
  by_cases he : s = ⟨#[]⟩
  · subst he
    have G : numIs ⟨#[]⟩ most = false := numIs_len (fun h => by have e : (bodyN ⟨#[]⟩).length = 0 := rfl; omega)
    rw [numV_not G, G]
    go_enter Tryz.func94, Tryz.ntmps94
    go_wp2
    exact bodyPost_ret (v := .tuple #[.int .i64 0, .bool false]) (by simp [results, Tryz.results94, go_sem]) rfl ⟨rfl, rfl⟩
  have hp : 0 < s.size := by have := size_pos he; omega
  cases hneg : negB s
  · exact l2Number_pos s most w hs hm he hp hneg
  · exact l2Number_neg s most w hs hm he hp hneg

end Go.Proofs.YtjclpbaiiklhcaaGreatDoor
