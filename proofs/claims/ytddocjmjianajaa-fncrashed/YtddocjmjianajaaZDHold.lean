/- Hold of the model: the late writes are done in order. -/
import Derived.Test.YtddocjmjianajaaZDCopy2
namespace Go.Proofs.Ytddocjmjianajaa.Disk
open Go.RowKit Go.Deep

def stepH (ss : List ByteArray) (x : Wr) : List ByteArray := ss.set x.1.toNat x.2
def holdN (ss : List ByteArray) (ws : List Wr) (j : Nat) : List ByteArray := (ws.take j).foldl stepH ss
def holdS (ss : List ByteArray) (ws : List Wr) : List ByteArray := if okD ss ws = true then holdN ss ws ws.length else []

theorem stepH_length (ss : List ByteArray) (x : Wr) : (stepH ss x).length = ss.length := by simp [stepH]
theorem foldH_length (ws : List Wr) : ∀ ss : List ByteArray, (ws.foldl stepH ss).length = ss.length := by
  induction ws with
  | nil => intro ss; rfl
  | cons x r ih => intro ss; rw [List.foldl_cons, ih, stepH_length]
theorem holdN_length (ss : List ByteArray) (ws : List Wr) (j : Nat) : (holdN ss ws j).length = ss.length := foldH_length _ _
theorem holdN_zero (ss : List ByteArray) (ws : List Wr) : holdN ss ws 0 = ss := by simp [holdN]
theorem holdN_succ (ss : List ByteArray) (ws : List Wr) (j : Nat) (h : j < ws.length) : holdN ss ws (j + 1) = stepH (holdN ss ws j) (ws.getD j wr0) := by
  unfold holdN
  rw [List.take_succ_eq_append_getElem h, List.foldl_append]
  simp [h]

theorem okD_all {ss : List ByteArray} {ws : List Wr} (h : okD ss ws = true) : ss.length = 64 ∧ ws.length ≤ 200 ∧ (∀ k, k < ss.length → (ss.getD k ByteArray.empty).size ≤ 256) ∧ ∀ k, k < ws.length → okW (ws.getD k wr0) = true := by
  unfold okD at h
  simp only [Bool.and_eq_true, decide_eq_true_eq, List.all_eq_true] at h
  obtain ⟨⟨⟨h1, h2⟩, h3⟩, h4⟩ := h
  refine ⟨h1, h2, fun k hk => ?_, fun k hk => ?_⟩
  · have := h3 ss[k] (List.getElem_mem hk)
    rw [List.getD_eq_getElem?_getD, List.getElem?_eq_getElem hk]
    simpa [okS] using this
  · have := h4 ws[k] (List.getElem_mem hk)
    rw [List.getD_eq_getElem?_getD, List.getElem?_eq_getElem hk]
    exact this

theorem okW_range {x : Wr} (h : okW x = true) : 0 ≤ x.1 ∧ x.1 ≤ 63 ∧ x.2.size ≤ 256 := by simpa [okW] using h

/-- A text stored into a row of texts. -/
theorem NS.put {B : Nat} {w : World} {b n cap k : Nat} {ss : List ByteArray} (t : ByteArray) (h : NS B w (.slice (some ⟨b, 0, none⟩) n cap) ss) (hk : k < ss.length) :
    NS B (w.setCell ⟨b, k, none⟩ (.string t)) (.slice (some ⟨b, 0, none⟩) n cap) (ss.set k t) := by
  obtain ⟨⟨ao, cp, e, ho⟩, ⟨ao', cp', e', hs⟩, hB⟩ := h
  simp only [Value.slice.injEq] at e e'
  obtain ⟨rfl, rfl, rfl⟩ := e
  obtain ⟨rfl, _, rfl⟩ := e'
  have hl : (ss.set k t).length = ss.length := by simp
  obtain ⟨b', N, f, eb, hN, hr⟩ := ho.resolve_left (by omega)
  simp only [Option.some.injEq, Addr.mk.injEq, and_true] at eb
  obtain rfl := eb
  refine ⟨⟨_, _, by rw [hl], .inr ⟨b, N, _, rfl, by rw [hl]; exact hN, hr.set k _⟩⟩, ⟨_, _, by rw [hl], fun i hi => ⟨b, 0, rfl, ?_⟩⟩, by rw [hl]; exact hB⟩
  rw [hl] at hi
  rw [Nat.zero_add]
  obtain ⟨b1, o1, e1, hc⟩ := hs i hi
  simp only [Option.some.injEq, Addr.mk.injEq, and_true] at e1
  obtain ⟨rfl, rfl⟩ := e1
  rw [Nat.zero_add] at hc
  by_cases hik : i = k
  · subst hik
    rw [World.cell?_setCell_same _ _ _ hc]
    simp [hi]
  · rw [World.cell?_setCell_other _ _ _ _ (by simp), hc]
    simp [List.getD_eq_getElem?_getD, Ne.symm hik]

/-- The block, a cell and its mark of a row of texts that is not empty. -/
theorem NS.form {B : Nat} {w : World} {v : Value} {ss : List ByteArray} (h : NS B w v ss) (hn : 0 < ss.length) : ∃ b cap, v = .slice (some ⟨b, 0, none⟩) ss.length cap ∧ B ≤ b ∧ b < w.heap.size ∧ (∀ k, k < ss.length → w.cell? ⟨b, k, none⟩ = some (.string (ss.getD k ByteArray.empty))) ∧ ∀ k, w.frozen? ⟨b, k, none⟩ = false := by
  obtain ⟨⟨ao, cp, rfl, ho⟩, ⟨ao', cp', e', hs⟩, hB⟩ := h
  obtain ⟨b, N, f, rfl, hN, hr⟩ := ho.resolve_left (by omega)
  simp only [Value.slice.injEq] at e'
  obtain ⟨rfl, _, rfl⟩ := e'
  refine ⟨b, cp, rfl, hB b (by rw [rowOf, if_neg (by omega)]; rfl), hr.lt, fun k hk => ?_, fun k => hr.frozen k⟩
  obtain ⟨b1, o1, e1, hc⟩ := hs k hk
  simp only [Option.some.injEq, Addr.mk.injEq, and_true] at e1
  obtain ⟨rfl, rfl⟩ := e1
  rwa [Nat.zero_add] at hc

theorem nd_zero (B : Nat) (w : World) : ND B w (.slice none 0 0) (.slice none 0 0) [] [] :=
  ⟨⟨_, _, rfl, .inl rfl⟩, ⟨_, _, rfl, .inl rfl⟩, ⟨_, _, rfl, fun i hi => by simp at hi⟩, ⟨_, _, rfl, fun i hi => by simp at hi⟩, fun b e => by simp [rowOf] at e, fun b e => by simp [rowOf] at e⟩

theorem cell_put {w : World} {b k b' o' : Nat} {u v : Value} (hne : b' ≠ b) (h : w.cell? ⟨b', o', none⟩ = some v) : (w.setCell ⟨b, k, none⟩ u).cell? ⟨b', o', none⟩ = some v :=
  (grown_set w b k u).cell h (by simp only [ne_eq, Option.some.injEq]; exact hne)

theorem NS.aside {B : Nat} {w : World} {b n cap c o : Nat} {ss : List ByteArray} (u : Value) (h : NS B w (.slice (some ⟨b, 0, none⟩) n cap) ss) (hne : b ≠ c) : NS B (w.setCell ⟨c, o, none⟩ u) (.slice (some ⟨b, 0, none⟩) n cap) ss := by
  have he : (Value.slice (some ⟨b, 0, none⟩) n cap).ownBlock ≠ some c := by simp [Value.ownBlock, hne]
  exact ⟨h.1.grown (grown_set w c o u) (.inr he), h.2.1.grown (grown_set w c o u) (.inr he), h.2.2⟩

theorem nw_empty (B : Nat) (w : World) (ao : Option Addr) (cap : Nat) : NW B w (.slice ao 0 cap) [] :=
  ⟨⟨_, _, rfl, .inl rfl⟩, ⟨_, _, rfl, fun i hi => by simp at hi⟩, fun b e => by simp [rowOf] at e⟩

theorem Res.put {R : Nat} {w : World} {b k : Nat} {u : Value} (h : Res R w) (hne : R ≠ b) : Res R (w.setCell ⟨b, k, none⟩ u) :=
  ⟨cell_put hne h.1, cell_put hne h.2.1, by rw [World.frozen?_setCell]; exact h.2.2.1, by rw [World.frozen?_setCell]; exact h.2.2.2.1, by simpa using h.2.2.2.2⟩


end Go.Proofs.Ytddocjmjianajaa.Disk
