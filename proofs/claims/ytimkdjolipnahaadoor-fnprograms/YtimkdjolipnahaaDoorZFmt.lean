/- strconv.FormatInt and strconv.Itoa at base 10, by the shelf, and the table that they read. -/
import Derived.Test.YtimkdjolipnahaaDoorZShelf
import Derived.Test.YtimkdjolipnahaaDoorZPack
namespace Go.Proofs.YtimkdjolipnahaaDoor
open Go.RowKit

def powName : String := (Rows.fnProgramsRow.laid.map (·.1)).getD 2 ""
/-- The table of the powers of ten holds what its initialiser lays. -/
def Tb (w : World) : Prop := Lib.TabIs Tryd.prog w powName .u64 Lib.pow10Tab

theorem Tb.later {w w' : World} (h : Tb w) (hb : Below w.heap.size w w') : Tb w' := by
  unfold Tb Lib.TabIs World.var? at *
  cases hg : Tryd.prog.globalNamed powName with
  | none => simp [hg] at h
  | some g =>
    simp only [hg, Option.bind_some] at h ⊢
    have hlt : g < w.heap.size := by
      rcases Nat.lt_or_ge g w.heap.size with h' | h'
      · exact h'
      · rw [Array.getElem?_eq_none h'] at h; simp at h
    rw [hb.block g hlt]
    exact h

theorem bel_grow (w : World) (q : Nat) (os : Array Obj) : Below w.heap.size w (Sort.grow (w.drewN q) os) :=
  ⟨rfl, rfl, rfl, by simp [Sort.grow], fun i hi => by
    show ((w.drewN q).heap ++ os)[i]? = _
    rw [Array.getElem?_append_left (by show i < w.heap.size; omega)]
    rfl⟩

theorem fmt_any (n : Int) (w : World) (h0 : -9223372036854775808 ≤ n) (h1 : n ≤ 9223372036854775807) (ht : Tb w) :
    Calls Tryd.prog 20 #[.int .i64 n, .int .i64 10] w fun e w' => e = .returned (.string (itoaB n)) ∧ Below w.heap.size w w' :=
  (Any.strconv_FormatInt_10 Tryd.laysM173 n h0 h1 w ht).mono fun _ _ ⟨he, _, _, hw⟩ => ⟨he, by rw [hw]; exact bel_grow _ _ _⟩
theorem itoa_any (n : Int) (w : World) (h0 : -9223372036854775808 ≤ n) (h1 : n ≤ 9223372036854775807) (ht : Tb w) :
    Calls Tryd.prog 70 #[.int .i64 n] w fun e w' => e = .returned (.string (itoaB n)) ∧ Below w.heap.size w w' :=
  (Any.strconv_Itoa Tryd.laysM171 n h0 h1 w ht).mono fun _ _ ⟨he, _, _, hw⟩ => ⟨he, by rw [hw]; exact bel_grow _ _ _⟩

end Go.Proofs.YtimkdjolipnahaaDoor
