/- Heaps in plain words: objects one behind the other, what a right heap is, and that both ways to tell it say the same. -/
import Derived.Test.YtgacacbncefeaaaGreatZWords
namespace Go.Proofs.YtgacacbncefeaaaGreat
open Go.RowKit

structure Hp where
  words : List Int
  roots : List Int
  old : Int
  eden : Int
  surv : Int
  flip : Bool
  hash : Int
  kept : List Int

def gw (W : List Int) (a : Nat) : Int := W.getD a 0
def nx (W : List Int) (a : Nat) : Nat := a + 4 + (gw W a).toNat
def headB (W : List Int) (a : Nat) : Bool := decide (0 ≤ gw W a ∧ gw W a ≤ 60) && (decide (0 ≤ gw W (a + 1) ∧ gw W (a + 1) ≤ 99) && decide (0 ≤ gw W (a + 3) ∧ gw W (a + 3) ≤ 15))
def objB (W : List Int) (a : Nat) : Bool := headB W a && decide (1 ≤ gw W (a + 2))
def it (W : List Int) (f : Nat) : Nat → Nat
  | 0 => f
  | n + 1 => nx W (it W f n)
def its (W : List Int) (f n : Nat) : List Nat := (List.range n).map (it W f)
def ints (l : List Nat) : List Int := l.map fun a : Nat => (a : Int)

theorem ints_length (l : List Nat) : (ints l).length = l.length := by simp [ints]
theorem ints_append (l m : List Nat) : ints (l ++ m) = ints l ++ ints m := by simp [ints]
theorem its_length (W : List Int) (f n : Nat) : (its W f n).length = n := by simp [its]
theorem its_succ (W : List Int) (f n : Nat) : its W f (n + 1) = its W f n ++ [it W f n] := by simp [its, List.range_succ]
theorem its_zero (W : List Int) (f : Nat) : its W f 0 = [] := rfl
theorem mem_its {W : List Int} {f n a : Nat} : a ∈ its W f n ↔ ∃ i, i < n ∧ it W f i = a := by simp [its]

theorem it_step (W : List Int) (f n : Nat) : it W f n + 4 ≤ it W f (n + 1) := by
  show it W f n + 4 ≤ nx W (it W f n)
  unfold nx
  omega
theorem it_le (W : List Int) (f n d : Nat) : it W f n + 4 * d ≤ it W f (n + d) := by
  induction d with
  | zero => simp
  | succ d ih =>
    have h := it_step W f (n + d)
    rw [show n + (d + 1) = (n + d) + 1 from rfl]
    omega
theorem it_mono (W : List Int) (f : Nat) {n m : Nat} (h : n ≤ m) : it W f n + 4 * (m - n) ≤ it W f m := by
  have := it_le W f n (m - n)
  rwa [show n + (m - n) = m from by omega] at this
theorem it_base (W : List Int) (f n : Nat) : f + 4 * n ≤ it W f n := by
  have := it_le W f 0 n
  rwa [Nat.zero_add] at this
theorem it_inj {W : List Int} {f n m : Nat} (h : it W f n = it W f m) : n = m := by
  rcases Nat.lt_trichotomy n m with k | k | k
  · have := it_mono W f (Nat.le_of_lt k); omega
  · exact k
  · have := it_mono W f (Nat.le_of_lt k); omega
theorem it_lt {W : List Int} {f n m : Nat} (h : it W f n < it W f m) : n < m := by
  rcases Nat.lt_or_ge n m with k | k
  · exact k
  · have := it_mono W f k; omega
theorem it_next {W : List Int} {f n m : Nat} (h : n < m) : it W f (n + 1) ≤ it W f m := by
  have := it_mono W f (show n + 1 ≤ m from h)
  omega

/-- From f to t by n objects. -/
def Goes (W : List Int) (f t n : Nat) : Prop := it W f n = t ∧ ∀ i, i < n → headB W (it W f i) = true

theorem Goes.eq {W : List Int} {f t n m : Nat} (h : Goes W f t n) (k : Goes W f t m) : n = m := it_inj (h.1.trans k.1.symm)
theorem no_goes {W : List Int} {f t n : Nat} (hlt : it W f n < t) (hn : ¬ (it W f n + 4 ≤ t ∧ headB W (it W f n) = true ∧ it W f (n + 1) ≤ t)) : ∀ m, ¬ Goes W f t m := by
  rintro m ⟨rfl, h⟩
  have k := it_lt hlt
  have h1 := it_next (W := W) (f := f) k
  have h2 := it_step W f n
  exact hn ⟨by omega, h n k, h1⟩

def survB (flip : Bool) : Nat := if flip = true then 2900 else 2600

/-- The used parts are objects without a gap: these. -/
def PartsAt (h : Hp) (l : List Nat) : Prop :=
  h.words.length = 3200 ∧ (0 ≤ h.old ∧ h.old ≤ 2000) ∧ (2000 ≤ h.eden ∧ h.eden ≤ 2600) ∧ ((survB h.flip : Int) ≤ h.surv ∧ h.surv ≤ (survB h.flip : Int) + 300) ∧
  ∃ n0 n1 n2, Goes h.words 0 h.old.toNat n0 ∧ Goes h.words 2000 h.eden.toNat n1 ∧ Goes h.words (survB h.flip) h.surv.toNat n2 ∧ l = its h.words 0 n0 ++ its h.words 2000 n1 ++ its h.words (survB h.flip) n2

theorem PartsAt.eq {h : Hp} {l m : List Nat} (a : PartsAt h l) (b : PartsAt h m) : l = m := by
  obtain ⟨_, _, _, _, n0, n1, n2, g0, g1, g2, rfl⟩ := a
  obtain ⟨_, _, _, _, m0, m1, m2, k0, k1, k2, rfl⟩ := b
  rw [g0.eq k0, g1.eq k1, g2.eq k2]

def inUse (h : Hp) (i : Nat) : Prop := (i : Int) < h.old ∨ (2000 ≤ i ∧ (i : Int) < h.eden) ∨ (survB h.flip ≤ i ∧ (i : Int) < h.surv)
def noughts (h : Hp) : Prop := ∀ i, i < 3200 → ¬ inUse h i → gw h.words i = 0

def fitB (l : List Nat) (x : Int) : Bool := decide (kindW x = 1) || (decide (kindW x = 2) && (ints l).contains (x / 2))
def fieldsFit (W : List Int) (l : List Nat) (a : Nat) : Prop := ∀ k, a + 4 ≤ k → k < nx W a → fitB l (gw W k) = true
def youngB (x : Int) : Bool := decide (kindW x = 2) && decide (2000 ≤ x / 2)
def flds (W : List Int) (a : Nat) : List Int := (List.range (gw W a).toNat).map fun i => gw W (a + 4 + i)
def hasY (W : List Int) (a : Nat) : Bool := (flds W a).any youngB
def keptOf (W : List Int) (l : List Nat) : List Int := ints (l.filter fun a => decide (a < 2000) && hasY W a)
def hashesOf (W : List Int) (l : List Nat) : List Int := l.map fun a => gw W (a + 2)

/-- A right heap whose objects are these. -/
def RightAt (h : Hp) (l : List Nat) : Prop :=
  PartsAt h l ∧ noughts h ∧ (1 ≤ h.hash ∧ h.hash ≤ 1000000000) ∧ (∀ a, a ∈ l → 1 ≤ gw h.words (a + 2)) ∧ ((∀ a, a ∈ l → gw h.words (a + 2) < h.hash) ∧ (hashesOf h.words l).Nodup) ∧
  h.roots.length ≤ 20 ∧ (∀ x, x ∈ h.roots → fitB l x = true) ∧ (∀ a, a ∈ l → fieldsFit h.words l a) ∧ keptOf h.words l = h.kept

theorem RightAt.eq {h : Hp} {l m : List Nat} (a : RightAt h l) (b : RightAt h m) : l = m := a.1.eq b.1

/-- From b on objects are found up to e, n of them, and then no more. -/
def Stops (W : List Int) (e b n : Nat) : Prop := (∀ i, i < n → objB W (it W b i) = true ∧ it W b (i + 1) ≤ e) ∧ ¬ (it W b n + 4 ≤ e ∧ objB W (it W b n) = true ∧ it W b (n + 1) ≤ e)

theorem Stops.eq {W : List Int} {e b n m : Nat} (h : Stops W e b n) (k : Stops W e b m) : n = m := by
  rcases Nat.lt_trichotomy n m with q | q | q
  · have := k.1 n q
    exact absurd ⟨by have := it_step W b n; omega, this⟩ h.2
  · exact q
  · have := h.1 m q
    exact absurd ⟨by have := it_step W b m; omega, this⟩ k.2

theorem headB_of {W : List Int} {a : Nat} (h : objB W a = true) : headB W a = true := by
  unfold objB at h
  rw [Bool.and_eq_true] at h
  exact h.1
theorem hash_of {W : List Int} {a : Nat} (h : objB W a = true) : 1 ≤ gw W (a + 2) := by
  unfold objB at h
  rw [Bool.and_eq_true] at h
  exact of_decide_eq_true h.2
theorem objB_of {W : List Int} {a : Nat} (h : headB W a = true) (k : 1 ≤ gw W (a + 2)) : objB W a = true := by
  unfold objB
  rw [h, decide_eq_true k]
  rfl

theorem space_to {W : List Int} {b e u n : Nat} (hg : Goes W b u n) (hu : u ≤ e) (hz : ∀ i, u ≤ i → i < e → gw W i = 0) (hh : ∀ a, a ∈ its W b n → 1 ≤ gw W (a + 2)) : Stops W e b n ∧ it W b n = u := by
  refine ⟨⟨fun i hi => ⟨objB_of (hg.2 i hi) (hh _ (mem_its.2 ⟨i, hi, rfl⟩)), ?_⟩, ?_⟩, hg.1⟩
  · have := it_next (W := W) (f := b) hi
    rw [hg.1] at this
    omega
  · rintro ⟨h1, h2, _⟩
    have h3 := hash_of h2
    have h4 := hg.1
    rw [hz (it W b n + 2) (by omega) (by omega)] at h3
    omega
theorem stops_le {W : List Int} {b e n : Nat} (h : Stops W e b n) (hb : b ≤ e) : it W b n ≤ e := by
  cases n with
  | zero => exact hb
  | succ n => exact (h.1 n (by omega)).2
theorem space_from {W : List Int} {b e u n : Nat} (h : Stops W e b n) (hb : b ≤ e) (hu : it W b n = u) : Goes W b u n ∧ u ≤ e ∧ (∀ a, a ∈ its W b n → 1 ≤ gw W (a + 2)) := by
  refine ⟨⟨hu, fun i hi => headB_of (h.1 i hi).1⟩, ?_, fun a ha => ?_⟩
  · rw [← hu]
    exact stops_le h hb
  · obtain ⟨i, hi, rfl⟩ := mem_its.1 ha
    exact hash_of (h.1 i hi).1

/-- What laidObjects finds. -/
def LaidAt (h : Hp) (l : List Nat) : Prop :=
  ∃ n0 n1 n2 n3, (Stops h.words 2000 0 n0 ∧ Stops h.words 2600 2000 n1 ∧ Stops h.words 2900 2600 n2 ∧ Stops h.words 3200 2900 n3) ∧
  ((it h.words 0 n0 : Int) = h.old ∧ (it h.words 2000 n1 : Int) = h.eden ∧ (it h.words 2600 n2 : Int) = (if h.flip = true then 2600 else h.surv) ∧ (it h.words 2900 n3 : Int) = (if h.flip = true then h.surv else 2900)) ∧
  ((∀ i, it h.words 0 n0 ≤ i → i < 2000 → gw h.words i = 0) ∧ (∀ i, it h.words 2000 n1 ≤ i → i < 2600 → gw h.words i = 0) ∧ (∀ i, it h.words 2600 n2 ≤ i → i < 2900 → gw h.words i = 0) ∧ (∀ i, it h.words 2900 n3 ≤ i → i < 3200 → gw h.words i = 0)) ∧
  l = its h.words 0 n0 ++ its h.words 2000 n1 ++ its h.words 2600 n2 ++ its h.words 2900 n3

theorem empty_space {W : List Int} {b e : Nat} (hbe : b + 4 ≤ e) (hz : ∀ i, b ≤ i → i < e → gw W i = 0) : Stops W e b 0 := by
  refine ⟨fun i hi => by omega, ?_⟩
  rintro ⟨_, h2, _⟩
  have h3 := hash_of h2
  rw [hz (it W b 0 + 2) (by show b ≤ b + 2; omega) (by show b + 2 < e; omega)] at h3
  omega
theorem nat_of {u : Int} {n : Nat} (h : 0 ≤ u) (k : n = u.toNat) : (n : Int) = u := by omega

theorem laid_iff {h : Hp} {l : List Nat} (hw : h.words.length = 3200) : LaidAt h l ↔ (PartsAt h l ∧ noughts h ∧ ∀ a, a ∈ l → 1 ≤ gw h.words (a + 2)) := by
  cases hf : h.flip with
  | false =>
    have sb : survB false = 2600 := rfl
    unfold LaidAt PartsAt noughts inUse
    simp only [sb, hf, Bool.false_eq_true, if_false]
    constructor
    · rintro ⟨n0, n1, n2, n3, ⟨s0, s1, s2, s3⟩, ⟨u0, u1, u2, u3⟩, ⟨z0, z1, z2, z3⟩, rfl⟩
      obtain ⟨g0, le0, h0⟩ := space_from s0 (by omega) rfl
      obtain ⟨g1, le1, h1⟩ := space_from s1 (by omega) rfl
      obtain ⟨g2, le2, h2⟩ := space_from s2 (by omega) rfl
      have b0 := it_base h.words 0 n0
      have b1 := it_base h.words 2000 n1
      have b2 := it_base h.words 2600 n2
      have b3 := it_base h.words 2900 n3
      obtain rfl : n3 = 0 := by omega
      have t0 : it h.words 0 n0 = h.old.toNat := by omega
      have t1 : it h.words 2000 n1 = h.eden.toNat := by omega
      have t2 : it h.words 2600 n2 = h.surv.toNat := by omega
      rw [t0] at g0 z0
      rw [t1] at g1 z1
      rw [t2] at g2 z2
      refine ⟨⟨hw, by omega, by omega, by omega, n0, n1, n2, g0, g1, g2, by simp [its_zero]⟩, fun i hi hn => ?_, fun a ha => ?_⟩
      · rcases Nat.lt_or_ge i 2000 with k | k
        · exact z0 i (by omega) k
        rcases Nat.lt_or_ge i 2600 with k | k
        · exact z1 i (by omega) k
        rcases Nat.lt_or_ge i 2900 with k | k
        · exact z2 i (by omega) k
        · exact z3 i (by show 2900 ≤ i; omega) hi
      · simp only [its_zero, List.append_nil, List.mem_append] at ha
        rcases ha with (ha | ha) | ha
        · exact h0 a ha
        · exact h1 a ha
        · exact h2 a ha
    · rintro ⟨⟨_, r0, r1, r2, n0, n1, n2, g0, g1, g2, rfl⟩, hz, hh⟩
      have z0 : ∀ i, h.old.toNat ≤ i → i < 2000 → gw h.words i = 0 := fun i a b => hz i (by omega) (by omega)
      have z1 : ∀ i, h.eden.toNat ≤ i → i < 2600 → gw h.words i = 0 := fun i a b => hz i (by omega) (by omega)
      have z2 : ∀ i, h.surv.toNat ≤ i → i < 2900 → gw h.words i = 0 := fun i a b => hz i (by omega) (by omega)
      have z3 : ∀ i, 2900 ≤ i → i < 3200 → gw h.words i = 0 := fun i a b => hz i (by omega) (by omega)
      obtain ⟨s0, t0⟩ := space_to g0 (e := 2000) (by omega) z0 (fun a ha => hh a (by simp [ha]))
      obtain ⟨s1, t1⟩ := space_to g1 (e := 2600) (by omega) z1 (fun a ha => hh a (by simp [ha]))
      obtain ⟨s2, t2⟩ := space_to g2 (e := 2900) (by omega) z2 (fun a ha => hh a (by simp [ha]))
      refine ⟨n0, n1, n2, 0, ⟨s0, s1, s2, empty_space (by omega) z3⟩, ⟨nat_of r0.1 t0, nat_of (by omega) t1, nat_of (by omega) t2, rfl⟩, ⟨by rw [t0]; exact z0, by rw [t1]; exact z1, by rw [t2]; exact z2, z3⟩, by simp [its_zero]⟩
  | true =>
    have sb : survB true = 2900 := rfl
    unfold LaidAt PartsAt noughts inUse
    simp only [sb, hf, if_true]
    constructor
    · rintro ⟨n0, n1, n2, n3, ⟨s0, s1, s2, s3⟩, ⟨u0, u1, u2, u3⟩, ⟨z0, z1, z2, z3⟩, rfl⟩
      obtain ⟨g0, le0, h0⟩ := space_from s0 (by omega) rfl
      obtain ⟨g1, le1, h1⟩ := space_from s1 (by omega) rfl
      obtain ⟨g3, le3, h3⟩ := space_from s3 (by omega) rfl
      have b0 := it_base h.words 0 n0
      have b1 := it_base h.words 2000 n1
      have b2 := it_base h.words 2600 n2
      have b3 := it_base h.words 2900 n3
      obtain rfl : n2 = 0 := by omega
      have t0 : it h.words 0 n0 = h.old.toNat := by omega
      have t1 : it h.words 2000 n1 = h.eden.toNat := by omega
      have t3 : it h.words 2900 n3 = h.surv.toNat := by omega
      rw [t0] at g0 z0
      rw [t1] at g1 z1
      rw [t3] at g3 z3
      refine ⟨⟨hw, by omega, by omega, by omega, n0, n1, n3, g0, g1, g3, by simp [its_zero]⟩, fun i hi hn => ?_, fun a ha => ?_⟩
      · rcases Nat.lt_or_ge i 2000 with k | k
        · exact z0 i (by omega) k
        rcases Nat.lt_or_ge i 2600 with k | k
        · exact z1 i (by omega) k
        rcases Nat.lt_or_ge i 2900 with k | k
        · exact z2 i (by show 2600 ≤ i; omega) k
        · exact z3 i (by omega) hi
      · simp only [its_zero, List.append_nil, List.mem_append] at ha
        rcases ha with (ha | ha) | ha
        · exact h0 a ha
        · exact h1 a ha
        · exact h3 a ha
    · rintro ⟨⟨_, r0, r1, r2, n0, n1, n3, g0, g1, g3, rfl⟩, hz, hh⟩
      have z0 : ∀ i, h.old.toNat ≤ i → i < 2000 → gw h.words i = 0 := fun i a b => hz i (by omega) (by omega)
      have z1 : ∀ i, h.eden.toNat ≤ i → i < 2600 → gw h.words i = 0 := fun i a b => hz i (by omega) (by omega)
      have z2 : ∀ i, 2600 ≤ i → i < 2900 → gw h.words i = 0 := fun i a b => hz i (by omega) (by omega)
      have z3 : ∀ i, h.surv.toNat ≤ i → i < 3200 → gw h.words i = 0 := fun i a b => hz i (by omega) (by omega)
      obtain ⟨s0, t0⟩ := space_to g0 (e := 2000) (by omega) z0 (fun a ha => hh a (by simp [ha]))
      obtain ⟨s1, t1⟩ := space_to g1 (e := 2600) (by omega) z1 (fun a ha => hh a (by simp [ha]))
      obtain ⟨s3, t3⟩ := space_to g3 (e := 3200) (by omega) z3 (fun a ha => hh a (by simp [ha]))
      refine ⟨n0, n1, 0, n3, ⟨s0, s1, empty_space (by omega) z2, s3⟩, ⟨nat_of r0.1 t0, nat_of (by omega) t1, rfl, nat_of (by omega) t3⟩, ⟨by rw [t0]; exact z0, by rw [t1]; exact z1, z2, by rw [t3]; exact z3⟩, by simp [its_zero]⟩

/-- Objects rise. -/
theorem its_sorted (W : List Int) (f n : Nat) : (its W f n).Pairwise (· < ·) := by
  unfold its
  rw [List.pairwise_map]
  refine List.Pairwise.imp ?_ List.pairwise_lt_range
  intro a b h
  have := it_mono W f (Nat.le_of_lt h)
  omega
theorem its_between {W : List Int} {e b n a : Nat} (h : Stops W e b n) (ha : a ∈ its W b n) : b ≤ a ∧ a + 4 ≤ e ∧ nx W a ≤ e ∧ objB W a = true := by
  obtain ⟨i, hi, rfl⟩ := mem_its.1 ha
  obtain ⟨h1, h2⟩ := h.1 i hi
  have := it_base W b i
  have := it_step W b i
  exact ⟨by omega, by omega, h2, h1⟩
theorem LaidAt.sorted {h : Hp} {l : List Nat} (k : LaidAt h l) : l.Pairwise (· < ·) := by
  obtain ⟨n0, n1, n2, n3, ⟨s0, s1, s2, s3⟩, _, _, rfl⟩ := k
  rw [List.pairwise_append, List.pairwise_append, List.pairwise_append]
  refine ⟨⟨⟨its_sorted _ _ _, its_sorted _ _ _, fun a ha b hb => ?_⟩, its_sorted _ _ _, fun a ha b hb => ?_⟩, its_sorted _ _ _, fun a ha b hb => ?_⟩
  · have := its_between s0 ha; have := its_between s1 hb; omega
  · rw [List.mem_append] at ha
    rcases ha with ha | ha
    · have := its_between s0 ha; have := its_between s2 hb; omega
    · have := its_between s1 ha; have := its_between s2 hb; omega
  · rw [List.mem_append, List.mem_append] at ha
    rcases ha with (ha | ha) | ha
    · have := its_between s0 ha; have := its_between s3 hb; omega
    · have := its_between s1 ha; have := its_between s3 hb; omega
    · have := its_between s2 ha; have := its_between s3 hb; omega
theorem LaidAt.obj {h : Hp} {l : List Nat} (k : LaidAt h l) {a : Nat} (ha : a ∈ l) : a + 4 ≤ 3200 ∧ nx h.words a ≤ 3200 ∧ objB h.words a = true := by
  obtain ⟨n0, n1, n2, n3, ⟨s0, s1, s2, s3⟩, _, _, rfl⟩ := k
  rw [List.mem_append, List.mem_append, List.mem_append] at ha
  rcases ha with ((ha | ha) | ha) | ha
  · have := its_between s0 ha; exact ⟨by omega, by omega, this.2.2.2⟩
  · have := its_between s1 ha; exact ⟨by omega, by omega, this.2.2.2⟩
  · have := its_between s2 ha; exact ⟨by omega, by omega, this.2.2.2⟩
  · have := its_between s3 ha; exact ⟨by omega, by omega, this.2.2.2⟩
theorem PartsAt.obj {h : Hp} {l : List Nat} (k : PartsAt h l) {a : Nat} (ha : a ∈ l) : a + 4 ≤ 3200 ∧ nx h.words a ≤ 3200 ∧ headB h.words a = true := by
  obtain ⟨_, r0, r1, r2, n0, n1, n2, g0, g1, g2, rfl⟩ := k
  have hs : survB h.flip ≤ 2900 := by unfold survB; split <;> omega
  have go : ∀ b u n, Goes h.words b u n → u ≤ 3200 → a ∈ its h.words b n → a + 4 ≤ 3200 ∧ nx h.words a ≤ 3200 ∧ headB h.words a = true := fun b u n g hu ha => by
    obtain ⟨i, hi, rfl⟩ := mem_its.1 ha
    have h1 := it_next (W := h.words) (f := b) hi
    have h2 := it_step h.words b i
    rw [g.1] at h1
    exact ⟨by omega, by show it h.words b (i + 1) ≤ 3200; omega, g.2 i hi⟩
  rw [List.mem_append, List.mem_append] at ha
  rcases ha with (ha | ha) | ha
  · exact go _ _ _ g0 (by omega) ha
  · exact go _ _ _ g1 (by omega) ha
  · exact go _ _ _ g2 (by omega) ha
theorem PartsAt.short {h : Hp} {l : List Nat} (k : PartsAt h l) : l.length ≤ 3200 := by
  obtain ⟨_, r0, r1, r2, n0, n1, n2, g0, g1, g2, rfl⟩ := k
  have hs : survB h.flip ≤ 2900 := by unfold survB; split <;> omega
  have b0 := it_base h.words 0 n0
  have b1 := it_base h.words 2000 n1
  have b2 := it_base h.words (survB h.flip) n2
  rw [g0.1] at b0
  rw [g1.1] at b1
  rw [g2.1] at b2
  simp only [List.length_append, its_length]
  omega
theorem LaidAt.short {h : Hp} {l : List Nat} (hw : h.words.length = 3200) (k : LaidAt h l) : l.length ≤ 3200 := ((laid_iff hw).1 k).1.short

theorem fld_mem {W : List Int} {a : Nat} {p : Int → Bool} : (∀ x, x ∈ flds W a → p x = true) ↔ (∀ k, a + 4 ≤ k → k < nx W a → p (gw W k) = true) := by
  unfold flds nx
  constructor
  · intro q k h1 h2
    have := q (gw W (a + 4 + (k - (a + 4)))) (List.mem_map.2 ⟨k - (a + 4), by rw [List.mem_range]; omega, rfl⟩)
    rwa [show a + 4 + (k - (a + 4)) = k from by omega] at this
  · intro q x hx
    obtain ⟨i, hi, rfl⟩ := List.mem_map.1 hx
    rw [List.mem_range] at hi
    exact q _ (by omega) (by omega)
theorem size_of {W : List Int} {a : Nat} (h : headB W a = true) : 0 ≤ gw W a ∧ gw W a ≤ 60 := by
  unfold headB at h
  rw [Bool.and_eq_true] at h
  exact of_decide_eq_true h.1

/-- Whether a heap is right, the program's way. -/
theorem right_iff {h : Hp} {l : List Nat} (hw : h.words.length = 3200) : RightAt h l ↔ (LaidAt h l ∧ ((1 ≤ h.hash ∧ h.hash ≤ 1000000000) ∧ (∀ a, a ∈ l → gw h.words (a + 2) < h.hash) ∧ (hashesOf h.words l).Nodup) ∧ (h.roots.length ≤ 20 ∧ (∀ x, x ∈ h.roots → fitB l x = true) ∧ (∀ a, a ∈ l → fieldsFit h.words l a)) ∧ keptOf h.words l = h.kept) := by
  unfold RightAt
  constructor
  · rintro ⟨a, b, c, d, e, f, g, i, j⟩
    exact ⟨(laid_iff hw).2 ⟨a, b, d⟩, ⟨c, e⟩, ⟨f, g, i⟩, j⟩
  · rintro ⟨a, ⟨c, e⟩, ⟨f, g, i⟩, j⟩
    obtain ⟨p, q, r⟩ := (laid_iff hw).1 a
    exact ⟨p, q, c, r, e, f, g, i, j⟩

end Go.Proofs.YtgacacbncefeaaaGreat
