/- tornText of the program: the head of a text and behind it the rest of what was there. -/
import Derived.Test.YtfcenohgfhefiaaGreatDoorZDTexts
namespace Go.Proofs.YtfcenohgfhefiaaGreatDoor.Disk
open Go.RowKit Go.Deep

def torn (t th : ByteArray) : ByteArray := ⟨(part t 0 (t.size / 2) ++ part th (t.size / 2) th.size).toArray⟩

theorem torn_short (t th : ByteArray) (h : th.size ≤ t.size / 2) : (⟨(part t 0 (t.size / 2)).toArray⟩ : ByteArray) = torn t th := by
  have e : part th (t.size / 2) th.size = [] := by
    apply List.eq_nil_of_length_eq_zero
    rw [part_length th _ _ (Nat.le_refl _)]
    omega
  unfold torn
  rw [e, List.append_nil]

theorem Tryz.info5 : (Tryz.prog.info? 5).map (fun i => (i.zero, i.size, i.bytes)) = some (some (.int .u8 0), 1, 1) := by kernel_rfl
theorem Tryz.under73 : Tryz.prog.underlying 22 = some (.slice 5) := by kernel_rfl

def bcells (l : List UInt8) : List Value := l.map fun b => Value.int .u8 (b.toNat : Int)
theorem bcells_length (l : List UInt8) : (bcells l).length = l.length * 1 := by simp [bcells]
theorem bcells_at {w : World} {a : Addr} {l : List UInt8} (h : BytesAt w a l) : ∀ j u, (bcells l)[j]? = some u → w.cell? (a.add j) = some u := fun j u hu => by
  have hj := getElem?_lt hu
  rw [bcells_length, Nat.mul_one] at hj
  rw [h j hj, ← hu]
  simp [bcells, hj]
theorem bcells_one (l : List UInt8) : ∀ u ∈ bcells l, u.oneCell' = true := fun u hu => by
  obtain ⟨b, _, rfl⟩ := List.mem_map.1 hu
  rfl

theorem bytes_owned {w : World} {B b n cap : Nat} {l : List UInt8} (hn : n = l.length) (h : w.ownsRow B 5 1 (.slice (some ⟨b, 0, none⟩) n cap) n (bcells l)) : BytesAt w ⟨b, 0, none⟩ l := by
  obtain ⟨N, f, hr, hN, _⟩ := owned_row (fun i => Value.int .u8 ((l.getD i 0).toNat : Int)) h (fun i hi => by
    rw [bcells_length, Nat.mul_one] at hi
    simp [bcells, hi])
  intro j hj
  rw [Addr.add_lit, Nat.zero_add, hr.cell (by omega), if_pos (by omega)]
  simp [hj]

theorem torn_conv (t th : ByteArray) {w3 : World} {B n m : Nat} {v' : Value} (hn : n = (part t 0 (t.size / 2)).length) (hm : m = (part th (t.size / 2) th.size).length) (h0 : 0 < n + m)
    (hown : w3.ownsRow B 5 1 v' (n + m) (bcells (part t 0 (t.size / 2)) ++ bcells (part th (t.size / 2) th.size))) :
    ∃ g cp, v' = .slice (some ⟨g, 0, none⟩) (n + m) cp ∧ (convert 22 9 (.slice (some ⟨g, 0, none⟩) (n + m) cp)).run Tryz.prog w3 = .ok (.string (torn t th)) w3 := by
  obtain ⟨g, cp, rfl⟩ : ∃ g cp, v' = .slice (some ⟨g, 0, none⟩) (n + m) cp := by
    rcases hown.2 with ⟨_, h⟩ | ⟨g, cp, _, hv, _⟩
    · omega
    · exact ⟨g, cp, hv⟩
  have hl : n + m = (part t 0 (t.size / 2) ++ part th (t.size / 2) th.size).length := by rw [List.length_append, hn, hm]
  have hown' : w3.ownsRow B 5 1 (.slice (some ⟨g, 0, none⟩) (n + m) cp) (n + m) (bcells (part t 0 (t.size / 2) ++ part th (t.size / 2) th.size)) := by
    unfold bcells at hown ⊢
    rw [List.map_append]
    exact hown
  exact ⟨g, cp, rfl, conv_back w3 ⟨g, 0, none⟩ cp _ (n + m) hl (bytes_owned hl hown')⟩

set_option maxRecDepth 100000 in
set_option maxHeartbeats 1000000 in
theorem tornText_any (t th : ByteArray) (w : World) (ht : t.size ≤ 256) (hth : th.size ≤ 256) :
    Calls Tryz.prog 100 #[.string t, .string th] w fun e w' => e = .returned (.string (torn t th)) ∧ Below w.heap.size w w' := by
  have hh : ((t.size : Int) / 2) = ((t.size / 2 : Nat) : Int) := by omega
  have HH : Hid (((t.size : Int) / 2) = ((t.size / 2 : Nat) : Int)) := hh
  clear hh
  obtain ⟨i0, hi, hzz⟩ := Option.map_eq_some_iff.1 Tryz.info5
  simp only [Prod.mk.injEq] at hzz
  obtain ⟨hz0, hz1, hz2⟩ := hzz
  have HI : Hid (Tryz.prog.info? 5 = some i0 ∧ i0.zero = some (.int .u8 0) ∧ i0.size = 1 ∧ i0.bytes = 1) := ⟨hi, hz0, hz1, hz2⟩
  clear hi hz0 hz1 hz2
  go_enter Tryz.func100, Tryz.ntmps100
  go_wp2_with (fail)
  rw [HH.out]
  refine (textPart_any t 0 (t.size / 2) _ (by omega) (by omega) (by omega)).mono ?_
  rintro e w1 ⟨a, n, rfl, hn, hB, hb⟩
  have HN : Hid (n = (part t 0 (t.size / 2)).length) := hn
  clear hn
  by_cases hlt : th.size ≤ t.size / 2
  · have hcv := conv_back w1 a n (part t 0 (t.size / 2)) n HN.out hB
    rw [torn_short t th hlt] at hcv
    have hge : ((th.size : Int) ≤ ((t.size / 2 : Nat) : Int)) := by omega
    go_wp2
    go_ret
    exact ⟨rfl, hb⟩
  · have hge : ¬ ((th.size : Int) ≤ ((t.size / 2 : Nat) : Int)) := by omega
    go_wp2_with (fail)
    refine (textPart_any th (t.size / 2) th.size _ (by omega) (by omega) (Nat.le_refl _)).mono ?_
    rintro e w2 ⟨a', m, rfl, hm, hB', hb'⟩
    have HM : Hid (m = (part th (t.size / 2) th.size).length) := hm
    clear hm
    have hbw := bel_then hb hb.size hb'
    have l1 := part_length t 0 (t.size / 2) (by omega)
    have l2 := part_length th (t.size / 2) th.size (Nat.le_refl _)
    have HL : Hid ((part t 0 (t.size / 2)).length = t.size / 2 - 0 ∧ (part th (t.size / 2) th.size).length = th.size - t.size / 2) := ⟨l1, l2⟩
    have hB2 := hB.later hb'
    clear l1 l2 hB hb hb'
    go_wp2_with (first | (at_builtin; refine wpList_append_grows _ rfl _ _ 22 rfl 5 i0 (.int .u8 0) 1 1 Tryz.under73 HI.out.1 HI.out.2.1 HI.out.2.2.1 HI.out.2.2.2 rfl (by decide) (some a) n n (bcells (part t 0 (t.size / 2))) rfl (by intro h; cases h) (by rw [bcells_length, HN.out]) (by intro b hb j u hu; cases hb; exact bcells_at hB2 j u hu) a' m m (bcells (part th (t.size / 2) th.size)) rfl (by rw [bcells_length, HM.out]) (bcells_at hB') (bcells_one _) (by have := HL.out; have := HM.out; omega) (by have := HL.out; have := HM.out; have := HN.out; unfold maxLen; omega) (by have := HL.out; have := HM.out; have := HN.out; omega) ?_; intro v' w3 hown hg; obtain ⟨g, cp, rfl, hcv2⟩ := torn_conv t th HN.out HM.out (by have := HL.out; have := HM.out; omega) hown))
    have hb3 : Below w.heap.size w w3 := hbw.grown hg hbw.size (fun k e => by cases e)
    go_ret
    exact ⟨rfl, hb3⟩

end Go.Proofs.YtfcenohgfhefiaaGreatDoor.Disk
