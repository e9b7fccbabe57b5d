import Derived.Test.YtddocjmjianajaaZMA
import Derived.Deep.OwnRows
import Derived.Laws.IdiomStrings
import Derived.Test.YtddocjmjianajaaZMC
import Derived.WalkKit
import Derived.LaidEql
import Derived.Stop.Asserts
import Derived.RowKitTokens
/- textPart, copyText, copyTexts of the program. -/
namespace Go.Proofs.Ytddocjmjianajaa
open Go.RowKit

theorem add_eq' (b o i : Nat) : (⟨b, o, none⟩ : Addr).add i = ⟨b, o + i, none⟩ := Addr.add_lit _ _ _

theorem cell_later' {w w' : World} {a : Addr} {v : Value} (hb : Below w.heap.size w w') (h : w.cell? a = some v) : w'.cell? a = some v := by
  have hlt : a.block < w.heap.size := by
    rcases Nat.lt_or_ge a.block w.heap.size with h' | h'
    · exact h'
    · simp [World.cell?, Array.getElem?_eq_none h'] at h
  rw [hb.cell hlt]
  exact h

theorem conv_bytes (w : World) (s : ByteArray) : (convert 9 22 (.string s)).run Try.prog w = .ok (.slice (some ⟨w.heap.size, 0, none⟩) s.size (grownCap w s.size 0 5))
      (w.drew.alloc (.cells (bytesRow s (grownCap w s.size 0 5)) 5 ((bytesRow s (grownCap w s.size 0 5)).size, (bytesRow s (grownCap w s.size 0 5)).size + 1))) :=
  run_bytes_of_string w 9 22 5 s (by kernel_rfl) (by kernel_rfl) (by kernel_rfl)

/-- The bytes l lie from a on. -/
def BytesAt (w : World) (a : Addr) (l : List UInt8) : Prop := ∀ j (hj : j < l.length), w.cell? (a.add j) = some (.int .u8 (l[j].toNat : Int))
theorem BytesAt.later {w w' : World} {a : Addr} {l : List UInt8} (h : BytesAt w a l) (hb : Below w.heap.size w w') : BytesAt w' a l := fun j hj => cell_later' hb (h j hj)

def part (s : ByteArray) (f t : Nat) : List UInt8 := (s.data.toList.take t).drop f
theorem part_length (s : ByteArray) (f t : Nat) (h : t ≤ s.size) : (part s f t).length = t - f := by
  have : s.data.size = s.size := rfl
  simp [part]
  omega

theorem row_bytes (w : World) (s : ByteArray) (C f t : Nat) (fr : Nat × Nat) (h : t ≤ s.size) : BytesAt ((w.alloc (.cells (bytesRow s C) 5 fr)).drew) ⟨w.heap.size, f, none⟩ (part s f t) := by
  intro j hj
  have hsz : s.data.size = s.size := rfl
  rw [part_length s f t h] at hj
  rw [add_eq']
  show (w.alloc (.cells (bytesRow s C) 5 fr)).cell? _ = _
  rw [World.cell?_alloc_mark, bytesRow_at s C (f + j) (by omega)]
  simp [part]

set_option maxHeartbeats 400000 in
theorem textPart_any (s : ByteArray) (f t : Nat) (w : World) (_hs : s.size ≤ 1000000000000000) (h1 : f ≤ t) (h2 : t ≤ s.size) :
    Calls Try.prog 39 #[.string s, .int .i64 f, .int .i64 t] w fun e w' => ∃ a n, e = .returned (.slice (some a) n n) ∧ n = (part s f t).length ∧ BytesAt w' a (part s f t) ∧ Below w.heap.size w w' := by
  have hcv := conv_bytes
  have hcap : s.size ≤ grownCap w s.size 0 5 := grownCap_ge _ _ _ _
  generalize hC : grownCap w s.size 0 5 = C at *
  have hl := part_length s f t h2
  have HL : Hid ((part s f t).length = t - f) := hl
  have R := row_bytes w s C f t ((bytesRow s C).size, (bytesRow s C).size + 1) h2
  have G := ((Below.refl _ w).alloc (Nat.le_refl _) (.cells (bytesRow s C) 5 ((bytesRow s C).size, (bytesRow s C).size + 1))).drew
  clear hl
  go_enter Try.func39, Try.ntmps39
  go_wp2
  · go_ret
    have hl0 := part_length s f f (by omega)
    refine ⟨⟨w.heap.size, 0, none⟩, 0, rfl, by omega, fun j hj => ?_, G⟩
    omega
  · go_ret
    exact ⟨⟨w.heap.size, f, none⟩, t - f, rfl, HL.out.symm, R, G⟩

theorem part_all (s : ByteArray) : part s 0 s.size = s.data.toList := by
  unfold part
  rw [List.drop_zero]
  exact List.take_of_length_le (by rw [Array.length_toList]; exact Nat.le_refl _)

theorem conv_back (w : World) (a : Addr) (cap : Nat) (l : List UInt8) (n : Nat) (hn : n = l.length) (h : BytesAt w a l) : (convert 22 9 (.slice (some a) n cap)).run Try.prog w = .ok (.string ⟨l.toArray⟩) w := by
  subst hn
  exact run_convert_bytes_back w 22 9 5 a cap l (by kernel_rfl) (by kernel_rfl) (by kernel_rfl) h

set_option maxHeartbeats 400000 in
theorem copyText_any (s : ByteArray) (w : World) (hs : s.size ≤ 1000000000000000) :
    Calls Try.prog 25 #[.string s] w fun e w' => e = .returned (.string s) ∧ Below w.heap.size w w' := by
  go_enter Try.func25, Try.ntmps25
  go_wp2_with (fail)
  refine (textPart_any s 0 s.size _ hs (by omega) (Nat.le_refl _)).mono ?_
  rintro e w1 ⟨a, n, rfl, hn, hB, hb⟩
  have hcv := conv_back w1 a n (part s 0 s.size) n hn hB
  rw [part_all] at hcv
  clear hn hB
  go_wp2
  go_ret
  exact ⟨rfl, hb⟩

end Go.Proofs.Ytddocjmjianajaa

/- errors.As at the program's own kind of error, and at none: the library's text walked. -/
namespace Go.Proofs.Ytddocjmjianajaa
open Go.RowKit Go.Extern.Stop Go.Stop Go.Extern


theorem rlm (z : Sem Value) (f : TypeId → Addr → Nat → Nat → Sem Value) (v : Value) :
    ReflectliteValue.method z f #[v] = (do match ← ReflectliteValue.parts v with | none => z | some (t, a, fl) => f t a fl (fl % 32)) := rfl
theorem Try.parts60 (a : Addr) (w : World) : (ReflectliteValue.parts (.agg #[.pointer (some ⟨0, 0, none⟩), .pointer (some a), .int .u64 150])).run Try.prog w = .ok (some (0, a, 150)) w := by kernel_rfl
theorem Try.isNil60 (a p : Addr) (W : World) (ha : W.cell? a = some (.pointer (some p))) :
    (ReflectliteValue.method (ReflectliteValue.valueError "reflectlite.Value.IsNil" 0) ReflectliteValue.isNil #[.agg #[.pointer (some ⟨0, 0, none⟩), .pointer (some a), .int .u64 150]]).run Try.prog W = .ok (.bool false) W := by
  rw [rlm]
  simp only [Sem.run_bind, Try.parts60, Result.andThen]
  simp [ReflectliteValue.isNil, loadVar, isAgg, underlying, Try.underlying0, ha, Result.andThen]



theorem Try.assignable56 (w : World) : (ReflectliteType.relation "AssignableTo" ReflectliteType.assignableTo #[.agg #[.pointer (some ⟨0, 0, none⟩)], .iface 0 (.agg #[.pointer (some ⟨0, 0, none⟩)])]).run Try.prog w = .ok (.bool true) w := by kernel_rfl
theorem rls (v x : Value) : ReflectliteValue.set #[v, x] = (do
    let (some (dst, a, fl), some (src, b, _)) := (← ReflectliteValue.parts v, ← ReflectliteValue.parts x)
      | unsupported (.noEntry "extern/(internal/reflectlite.Value).Set.zeroValue")
    if fl / ReflectliteValue.flagAddr % 2 == 0 then unsupported (.noEntry "extern/(internal/reflectlite.Value).Set.unaddressable")
    let val ← loadVar src b
    if ← Rtype.directlyAssignable dst src then storeVar dst a val
    else if ← Rtype.implements dst src then
      if (← Rtype.kind src) == 20 then
        match val with
        | .nilIface => unsupported (.noEntry "extern/reflectlite: a nil value of one interface type handed on as a value of another")
        | _ => storeVar dst a val
      else storeVar dst a (.iface src val)
    else panicString ("reflectlite.Set: value of type " ++ (← Rtype.spelt src) ++ " is not assignable to type " ++ (← Rtype.spelt dst))
    pure (.tuple #[])) := rfl
theorem Try.parts56a (a : Addr) (w : World) : (ReflectliteValue.parts (.agg #[.pointer (some ⟨0, 0, none⟩), .pointer (some a), .int .u64 409])).run Try.prog w = .ok (some (0, a, 409)) w := by kernel_rfl
theorem Try.parts56 (a : Addr) (w : World) : (ReflectliteValue.parts (.agg #[.pointer (some ⟨0, 0, none⟩), .pointer (some a), .int .u64 153])).run Try.prog w = .ok (some (0, a, 153)) w := by kernel_rfl
theorem Try.direct56 (w : World) : (Rtype.directlyAssignable 0 0).run Try.prog w = .ok true w := by kernel_rfl
end Go.Proofs.Ytddocjmjianajaa

/- errors.As at the program's own kind of error: the library's text walked. -/
namespace Go.Proofs.Ytddocjmjianajaa
open Go.RowKit Go.Extern.Stop Go.Stop Go.Extern

end Go.Proofs.Ytddocjmjianajaa

/- errors.Is at an error of the program's own kind that wraps a sentinel: the library's text walked. -/
namespace Go.Proofs.Ytddocjmjianajaa
open Go.RowKit Go.Extern.Stop Go.Stop Go.Extern

theorem Try.isSize : (Try.prog.info? 0).map (·.size) = some 1 := by kernel_rfl
end Go.Proofs.Ytddocjmjianajaa

/- damageCode and OpenPage of the program. -/
namespace Go.Proofs.Ytddocjmjianajaa
open Go.RowKit

/-- The errors' own rows: each a block that no one shares. -/
structure Rws (a0 a1 a2 a3 : Addr) (w : World) : Prop where
  r0 : ∃ c t, w.heap[a0.block]? = some (.cells c t (0, 0))
  r1 : ∃ c t, w.heap[a1.block]? = some (.cells c t (0, 0))
  r2 : ∃ c t, w.heap[a2.block]? = some (.cells c t (0, 0))
  r3 : ∃ c t, w.heap[a3.block]? = some (.cells c t (0, 0))
theorem row_later {w w' : World} {k : Nat} (hb : Below w.heap.size w w') (h : ∃ c t, w.heap[k]? = some (.cells c t (0, 0))) : ∃ c t, w'.heap[k]? = some (.cells c t (0, 0)) := by
  obtain ⟨c, t, h⟩ := h
  refine ⟨c, t, ?_⟩
  have hlt : k < w.heap.size := by
    rcases Nat.lt_or_ge k w.heap.size with h' | h'
    · exact h'
    · rw [Array.getElem?_eq_none h'] at h; cases h
  rw [hb.block k hlt]
  exact h
theorem Rws.later {a0 a1 a2 a3 : Addr} {w w' : World} (h : Rws a0 a1 a2 a3 w) (hb : Below w.heap.size w w') : Rws a0 a1 a2 a3 w' :=
  ⟨row_later hb h.r0, row_later hb h.r1, row_later hb h.r2, row_later hb h.r3⟩
/-- The four are four. -/
structure Four (a0 a1 a2 a3 : Addr) : Prop where
  n01 : a0 ≠ a1
  n02 : a0 ≠ a2
  n03 : a0 ≠ a3
  n12 : a1 ≠ a2
  n13 : a1 ≠ a3
  n23 : a2 ≠ a3
/-- Where the handle of the type error lies. -/
def Hd (w : World) : Prop := w.cell? ⟨0, 0, none⟩ = some (.iface 0 (.agg #[.pointer (some ⟨0, 0, none⟩)]))



theorem two_set {W : World} {R : Nat} {u0 u1 : Value} (c0 : W.cell? ⟨R, 0, none⟩ = some u0) (c1 : W.cell? ⟨R, 1, none⟩ = some u1) (v0 v1 : Value) :
    ((W.setCell ⟨R, 0, none⟩ v0).setCell ⟨R, 1, none⟩ v1).cell? ⟨R, 0, none⟩ = some v0 ∧ ((W.setCell ⟨R, 0, none⟩ v0).setCell ⟨R, 1, none⟩ v1).cell? ⟨R, 1, none⟩ = some v1 := by
  have h1 : (W.setCell ⟨R, 0, none⟩ v0).cell? ⟨R, 1, none⟩ = some u1 := by rw [World.cell?_setCell_other _ _ _ _ (by simp)]; exact c1
  refine ⟨?_, World.cell?_setCell_same _ _ _ h1⟩
  rw [World.cell?_setCell_other _ _ _ _ (by simp)]
  exact World.cell?_setCell_same _ _ _ c0





end Go.Proofs.Ytddocjmjianajaa

/- OpenPage of the program. -/
namespace Go.Proofs.Ytddocjmjianajaa
open Go.RowKit

end Go.Proofs.Ytddocjmjianajaa
