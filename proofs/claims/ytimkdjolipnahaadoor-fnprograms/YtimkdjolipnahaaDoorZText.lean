/- textPart, copyText, copyTexts of the program. -/
import Derived.Test.YtimkdjolipnahaaDoorZHead
import Derived.Deep.OwnRows
import Derived.Laws.IdiomStrings
namespace Go.Proofs.YtimkdjolipnahaaDoor
open Go.RowKit

theorem add_eq' (b o i : Nat) : (⟨b, o, none⟩ : Addr).add i = ⟨b, o + i, none⟩ := Addr.add_lit _ _ _

theorem cell_later' {w w' : World} {a : Addr} {v : Value} (hb : Below w.heap.size w w') (h : w.cell? a = some v) : w'.cell? a = some v := by
  have hlt : a.block < w.heap.size := by
    rcases Nat.lt_or_ge a.block w.heap.size with h' | h'
    · exact h'
    · simp [World.cell?, Array.getElem?_eq_none h'] at h
  rw [hb.cell hlt]
  exact h

theorem conv_bytes (w : World) (s : ByteArray) : (convert 9 22 (.string s)).run Tryd.prog w = .ok (.slice (some ⟨w.heap.size, 0, none⟩) s.size (grownCap w s.size 0 5))
      (w.drew.alloc (.cells (bytesRow s (grownCap w s.size 0 5)) 5 ((bytesRow s (grownCap w s.size 0 5)).size, (bytesRow s (grownCap w s.size 0 5)).size + 1))) :=
  run_bytes_of_string w 9 22 5 s (by kernel_rfl) (by kernel_rfl) (by kernel_rfl)

/-- The bytes l lie from a on. -/
def BytesAt (w : World) (a : Addr) (l : List UInt8) : Prop := ∀ j (hj : j < l.length), w.cell? (a.add j) = some (.int .u8 (l[j].toNat : Int))
theorem BytesAt.later {w w' : World} {a : Addr} {l : List UInt8} (h : BytesAt w a l) (hb : Below w.heap.size w w') : BytesAt w' a l := fun j hj => cell_later' hb (h j hj)

def part (s : ByteArray) (f t : Nat) : List UInt8 := (s.data.toList.take t).drop f
theorem part_length (s : ByteArray) (f t : Nat) (h : t ≤ s.size) : (part s f t).length = t - f := by
  have : s.data.size = s.size := rfl
  simp [part]
  omega

theorem row_bytes (w : World) (s : ByteArray) (C f t : Nat) (fr : Nat × Nat) (h : t ≤ s.size) : BytesAt ((w.alloc (.cells (bytesRow s C) 5 fr)).drew) ⟨w.heap.size, f, none⟩ (part s f t) := by
  intro j hj
  have hsz : s.data.size = s.size := rfl
  rw [part_length s f t h] at hj
  rw [add_eq']
  show (w.alloc (.cells (bytesRow s C) 5 fr)).cell? _ = _
  rw [World.cell?_alloc_mark, bytesRow_at s C (f + j) (by omega)]
  simp [part]

set_option maxHeartbeats 400000 in
theorem textPart_any (s : ByteArray) (f t : Nat) (w : World) (_hs : s.size ≤ 1000000000000000) (h1 : f ≤ t) (h2 : t ≤ s.size) :
    Calls Tryd.prog 37 #[.string s, .int .i64 f, .int .i64 t] w fun e w' => ∃ a n, e = .returned (.slice (some a) n n) ∧ n = (part s f t).length ∧ BytesAt w' a (part s f t) ∧ Below w.heap.size w w' := by
  have hcv := conv_bytes
  have hcap : s.size ≤ grownCap w s.size 0 5 := grownCap_ge _ _ _ _
  generalize hC : grownCap w s.size 0 5 = C at *
  have hl := part_length s f t h2
  have HL : Hid ((part s f t).length = t - f) := hl
  have R := row_bytes w s C f t ((bytesRow s C).size, (bytesRow s C).size + 1) h2
  have G := ((Below.refl _ w).alloc (Nat.le_refl _) (.cells (bytesRow s C) 5 ((bytesRow s C).size, (bytesRow s C).size + 1))).drew
  clear hl
  go_enter Tryd.func37, Tryd.ntmps37
  go_wp2
  · go_ret
    have hl0 := part_length s f f (by omega)
    refine ⟨⟨w.heap.size, 0, none⟩, 0, rfl, by omega, fun j hj => ?_, G⟩
    omega
  · go_ret
    exact ⟨⟨w.heap.size, f, none⟩, t - f, rfl, HL.out.symm, R, G⟩

theorem part_all (s : ByteArray) : part s 0 s.size = s.data.toList := by
  unfold part
  rw [List.drop_zero]
  exact List.take_of_length_le (by rw [Array.length_toList]; exact Nat.le_refl _)

theorem conv_back (w : World) (a : Addr) (cap : Nat) (l : List UInt8) (n : Nat) (hn : n = l.length) (h : BytesAt w a l) : (convert 22 9 (.slice (some a) n cap)).run Tryd.prog w = .ok (.string ⟨l.toArray⟩) w := by
  subst hn
  exact run_convert_bytes_back w 22 9 5 a cap l (by kernel_rfl) (by kernel_rfl) (by kernel_rfl) h

set_option maxHeartbeats 400000 in
theorem copyText_any (s : ByteArray) (w : World) (hs : s.size ≤ 1000000000000000) :
    Calls Tryd.prog 19 #[.string s] w fun e w' => e = .returned (.string s) ∧ Below w.heap.size w w' := by
  go_enter Tryd.func19, Tryd.ntmps19
  go_wp2_with (fail)
  refine (textPart_any s 0 s.size _ hs (by omega) (Nat.le_refl _)).mono ?_
  rintro e w1 ⟨a, n, rfl, hn, hB, hb⟩
  have hcv := conv_back w1 a n (part s 0 s.size) n hn hB
  rw [part_all] at hcv
  clear hn hB
  go_wp2
  go_ret
  exact ⟨rfl, hb⟩

end Go.Proofs.YtimkdjolipnahaaDoor
