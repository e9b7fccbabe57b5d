import Derived.Test.YtjclpbaiiklhcaaGreatDoorZV1
import Derived.Deep.RegionWith
import Derived.Deep.OwnRows
import Derived.WalkLawsBesides
import Derived.Laws.AppendOwn
/- Rows of numbers: what a slice reads as; toInt64S, eqInt64S, slices.Index, slices.Contains. -/
namespace Go.Proofs.YtjclpbaiiklhcaaGreatDoor
open Go.RowKit

/-- The numbers that a slice reads as. -/
def IR (w : World) (v : Value) (l : List Int) : Prop :=
  ∃ ao cap, v = .slice ao l.length cap ∧ l.length ≤ cap ∧ ∀ i, i < l.length → ∃ b o, ao = some ⟨b, o, none⟩ ∧ w.cell? ⟨b, o + i, none⟩ = some (.int .i64 (l.getD i 0))
theorem IR.later {w w' : World} {v : Value} {l : List Int} (h : IR w v l) (hb : Below w.heap.size w w') : IR w' v l := by
  obtain ⟨ao, cap, rfl, hle, h⟩ := h
  exact ⟨ao, cap, rfl, hle, fun i hi => by obtain ⟨b, o, e, hc⟩ := h i hi; exact ⟨b, o, e, cell_later hb hc⟩⟩

theorem ilists_eq {a b : List Int} (hl : a.length = b.length) (h : ∀ j, j < a.length → a.getD j 0 = b.getD j 0) : a = b := by
  refine List.ext_getElem hl fun i h1 h2 => ?_
  have := h i h1
  simpa [List.getD_eq_getElem?_getD, h1, h2] using this
theorem all_upto {p : Nat → Prop} {k : Nat} (h : ∀ j, j < k → p j) (hk : p k) : ∀ j, j < k + 1 → p j := fun j hj => by
  by_cases e : j = k
  · subst e; exact hk
  · exact h j (by omega)
theorem ret_bool {a b : Bool} (h : a = b) : Ending.returned (.bool a) = .returned (.bool b) := by rw [h]
theorem below_drewN {B : Nat} {a w : World} (h : Below B a w) (n : Nat) : Below B a (w.drewN n) := ⟨h.os, h.tape, h.output, h.size, h.block⟩

theorem Tryz.info2 : (Tryz.prog.info? 2).map (fun i => (i.zero, i.size, i.bytes)) = some (some (.int .i64 0), 1, 8) := by kernel_rfl
theorem make28 (n : Nat) (hn : n ≤ 10000000000000) (w : World) : (Instr.makeSlice 35 (.int .i64 (n : Int)) (.int .i64 (n : Int))).run Tryz.prog w = .ok (.slice (some ⟨w.heap.size, 0, none⟩) n n) (w.alloc (.cells (madeCells #[.int .i64 0] n) 2)) :=
  run_make_row' (P := Tryz.prog) 35 2 (.int .i64 0) 8 Tryz.underlying35 Tryz.info2 rfl .i64 .i64 n (by omega) (by omega) w
theorem row_any (w : World) (C : Array Value) (t : TypeId) : (w.alloc (.cells C t)).rowIs w.heap.size t C.size (fun i => C[i]?.getD undef) :=
  World.rowIs_alloc w C t _ (fun i hi => by simp [hi])
theorem made_ints (w : World) (n : Nat) : ∃ f, (w.alloc (.cells (madeCells #[.int .i64 0] n) 2)).rowIs w.heap.size 2 n f := by
  have h := row_any w (madeCells #[.int .i64 0] n) 2
  rw [size_madeCells] at h
  exact ⟨_, h⟩
theorem row_copy {w : World} {b N j : Nat} {t : TypeId} {g f : Nat → Value} (h : w.rowIs b t N (fun i => if i < j then g i else f i)) (v : Value) (hv : v = g j) :
    (w.setCell ⟨b, j, none⟩ v).rowIs b t N (fun i => if i < j + 1 then g i else f i) := by
  refine (h.set j _).congr fun i _ => ?_
  by_cases e : i = j
  · subst e; simp [hv]
  · by_cases e' : i < j
    · rw [if_neg e, if_pos e', if_pos (by omega)]
    · rw [if_neg e, if_neg e', if_neg (by omega)]
def icell (l : List Int) (i : Nat) : Value := .int .i64 (l.getD i 0)


theorem not_mem_of {l : List Int} {x : Int} (h : ∀ j, j < l.length → l.getD j 0 ≠ x) : l.contains x = false := by
  rw [Bool.eq_false_iff]
  intro hc
  rw [List.contains_iff_mem] at hc
  obtain ⟨i, hi, e⟩ := List.getElem_of_mem hc
  exact h i hi (by simp [hi, e])
theorem mem_of {l : List Int} {x : Int} {k : Nat} (hk : k < l.length) (h : l.getD k 0 = x) : l.contains x = true := by
  rw [List.contains_iff_mem, ← h]
  simp [hk]

/-- Where the number stands first, or -1: all that is asked of it is its sign. -/
theorem index_any (v : Value) (l : List Int) (x : Int) (w : World) (hv : IR w v l) (h1 : l.length ≤ 1000000000000000) :
    Calls Tryz.prog 90 #[v, .int .i64 x] w fun e w' => (∃ z : Int, e = .returned (.int .i64 z) ∧ decide (0 ≤ z) = l.contains x) ∧ w' = w := by
  obtain ⟨ao, cap, rfl, _, hv⟩ := hv
  go_enter Tryz.func90, Tryz.ntmps90
  go_wp2
  go_loopw [8] (fun a wr => ∃ (k : Nat), a = .int .i64 k ∧ k ≤ l.length ∧ Hid (∀ j, j < k → l.getD j 0 ≠ x) ∧ wr = w) (fun a _ => (l.length - (intOf a).toNat))
  case atStart => exact ⟨0, rfl, Nat.zero_le _, fun j hj => absurd hj (by omega), rfl⟩
  case round =>
    obtain ⟨k, rfl, hk, hj, rfl⟩ := hrel
    by_cases hlt : k < l.length
    · obtain ⟨b, o, rfl, hc⟩ := hv k hlt
      by_cases hx : l.getD k 0 = x
      · have HM : Hid (l.contains x = true) := mem_of hlt hx
        rw [hx] at hc
        clear hv hx
        go_wp2
        go_ret
        exact ⟨⟨k, rfl, by rw [HM.out]; simp⟩, rfl⟩
      · have HX : Hid (∀ j, j < k + 1 → l.getD j 0 ≠ x) := all_upto hj.out hx
        clear hj
        generalize l.getD k 0 = y at *
        have hx' : (x == y) = false := by simp; exact fun e => hx e.symm
        clear hv hx
        go_wp2
        go_roundw
        case rel => exact ⟨k + 1, by go_num, by omega, HX, trivial⟩
        case measure => simp [intOf]; omega
    · obtain rfl : k = l.length := by omega
      have HM : Hid (l.contains x = false) := not_mem_of hj.out
      go_wp2
      go_ret
      exact ⟨⟨-1, rfl, by rw [HM.out]; rfl⟩, rfl⟩

theorem contains_any (v : Value) (l : List Int) (x : Int) (w : World) (hv : IR w v l) (h1 : l.length ≤ 1000000000000000) :
    Calls Tryz.prog 74 #[v, .int .i64 x] w fun e w' => e = .returned (.bool (l.contains x)) ∧ w' = w := by
  have C := index_any v l x w hv h1
  go_enter Tryz.func74, Tryz.ntmps74
  go_wp2_with fail
  refine C.mono ?_
  rintro e w1 ⟨⟨z, rfl, hz⟩, rfl⟩
  have HZ : Hid (decide (0 ≤ z) = l.contains x) := hz
  clear hz C
  go_wp2
  go_ret
  exact ⟨ret_bool HZ.out, rfl⟩

end Go.Proofs.YtjclpbaiiklhcaaGreatDoor

/- Rows of numbers and of texts of the call's own, grown by append. -/
namespace Go.Proofs.YtjclpbaiiklhcaaGreatDoor
open Go.RowKit

def icells (l : List Int) : List Value := l.map fun z => .int .i64 z
def tcells (l : List ByteArray) : List Value := l.map fun s => .string s
theorem icells_length (l : List Int) : (icells l).length = l.length := by simp [icells]
theorem tcells_length (l : List ByteArray) : (tcells l).length = l.length := by simp [tcells]
theorem own_none (w : World) (B e size : Nat) (hB : B ≤ w.heap.size) : (w.alloc (.cells #[] e)).ownsRow B e size (.slice (some ⟨w.heap.size, 0, none⟩) 0 0) 0 [] :=
  ⟨by simp, .inr ⟨w.heap.size, 0, #[], rfl, hB, heap_alloc_new w _, Nat.le_refl _, by unfold maxLen; omega, by simp, by simp⟩⟩
theorem own_later {w w' : World} {B e size : Nat} {v : Value} {n : Nat} {xs : List Value} (h : w.ownsRow B e size v n xs) (hb : Below w.heap.size w w') : w'.ownsRow B e size v n xs := by
  obtain ⟨hl, h⟩ := h
  refine ⟨hl, ?_⟩
  rcases h with h | ⟨g, cap, cur, hv, hB, hh, h1, h2, h3, h4⟩
  · exact .inl h
  · refine .inr ⟨g, cap, cur, hv, hB, ?_, h1, h2, h3, h4⟩
    have hlt : g < w.heap.size := by
      rcases Nat.lt_or_ge g w.heap.size with h' | h'
      · exact h'
      · rw [Array.getElem?_eq_none h'] at hh; cases hh
    rw [hb.block g hlt]
    exact hh
theorem own_cell {w : World} {B e : Nat} {v : Value} {n : Nat} {xs : List Value} (h : w.ownsRow B e 1 v n xs) : ∃ ao cap, v = .slice ao n cap ∧ n ≤ cap ∧ ∀ i, i < n → ∃ b, ao = some ⟨b, 0, none⟩ ∧ w.cell? ⟨b, i, none⟩ = xs[i]? := by
  obtain ⟨hl, h⟩ := h
  rcases h with ⟨rfl, rfl⟩ | ⟨g, cap, cur, rfl, hB, hh, h1, h2, h3, h4⟩
  · exact ⟨none, 0, rfl, Nat.le_refl _, fun i hi => by omega⟩
  · refine ⟨_, cap, rfl, h1, fun i hi => ⟨g, rfl, ?_⟩⟩
    rw [← h4, List.getElem?_take_of_lt (by omega)]
    simp [World.cell?, hh]
theorem IR_of_owns {w : World} {B : Nat} {v : Value} {l : List Int} (h : w.ownsRow B 2 1 v l.length (icells l)) : IR w v l := by
  obtain ⟨ao, cap, rfl, h1, h2⟩ := own_cell h
  refine ⟨ao, cap, rfl, h1, fun i hi => ?_⟩
  obtain ⟨b, rfl, hc⟩ := h2 i hi
  refine ⟨b, 0, rfl, ?_⟩
  rw [Nat.zero_add, hc]
  simp [icells, hi]

theorem Tryz.infoI : (Tryz.prog.info? 2).map (fun i => (i.zero, i.size, i.bytes)) = some (some (.int .i64 0), 1, 8) := by kernel_rfl
theorem Tryz.infoS : (Tryz.prog.info? 9).map (fun i => (i.zero, i.size, i.bytes)) = some (some (.string ⟨#[]⟩), 1, 16) := by kernel_rfl

theorem app_int {ops : Array Oper} {rest : List Oper} {o : Oper} {a : Act} {Q : Exit → Act → World → Prop} (w : World) (hgd : o.guard = none) (s x : Operand)
    (ho : o.op = .call { callee := .builtin .append, args := #[s, x], argTypes := #[35, 35] }) (B : Nat) (v : Value) (n : Nat) (xs : List Value) (hs : a.eval s = v) (hown : w.ownsRow B 2 1 v n xs)
    (g c : Nat) (z : Int) (hx : a.eval x = .slice (some ⟨g, 0, none⟩) 1 c) (hc : w.cell? ⟨g, 0, none⟩ = some (.int .i64 z)) (hn : n ≤ 1000000000000) (hB : B ≤ w.heap.size)
    (h : ∀ v' w', w'.ownsRow B 2 1 v' (n + 1) (xs ++ [.int .i64 z]) → w.grownBy w' v.ownBlock → wpList Tryz.prog ops Q rest (a.put o.dst v') w') : wpList Tryz.prog ops Q (o :: rest) a w := by
  obtain ⟨i, hi, hzz⟩ := Option.map_eq_some_iff.1 Tryz.infoI
  simp only [Prod.mk.injEq] at hzz
  obtain ⟨hz, hsz, hby⟩ := hzz
  refine wpList_append_own w hgd s x 35 ho B 2 i _ 1 8 Tryz.underlying35 hi hz hsz hby rfl (by omega) v n xs hs hown ⟨g, 0, none⟩ 1 c [.int .i64 z] hx rfl (fun j u hj => ?_) (fun u hu => ?_) (by unfold maxLen; omega) (by omega) hB (fun v' w' h1 h2 _ => h v' w' h1 h2)
  · match j, hj with
    | 0, hj => simp at hj; subst hj; simpa [Addr.add] using hc
  · simp at hu; subst hu; rfl
theorem app_text {ops : Array Oper} {rest : List Oper} {o : Oper} {a : Act} {Q : Exit → Act → World → Prop} (w : World) (hgd : o.guard = none) (s x : Operand)
    (ho : o.op = .call { callee := .builtin .append, args := #[s, x], argTypes := #[24, 24] }) (B : Nat) (v : Value) (n : Nat) (xs : List Value) (hs : a.eval s = v) (hown : w.ownsRow B 9 1 v n xs)
    (g c : Nat) (z : ByteArray) (hx : a.eval x = .slice (some ⟨g, 0, none⟩) 1 c) (hc : w.cell? ⟨g, 0, none⟩ = some (.string z)) (hn : n ≤ 1000000000000) (hB : B ≤ w.heap.size)
    (h : ∀ v' w', w'.ownsRow B 9 1 v' (n + 1) (xs ++ [.string z]) → w.grownBy w' v.ownBlock → wpList Tryz.prog ops Q rest (a.put o.dst v') w') : wpList Tryz.prog ops Q (o :: rest) a w := by
  obtain ⟨i, hi, hzz⟩ := Option.map_eq_some_iff.1 Tryz.infoS
  simp only [Prod.mk.injEq] at hzz
  obtain ⟨hz, hsz, hby⟩ := hzz
  refine wpList_append_own w hgd s x 24 ho B 9 i _ 1 16 Tryz.underlying24 hi hz hsz hby rfl (by omega) v n xs hs hown ⟨g, 0, none⟩ 1 c [.string z] hx rfl (fun j u hj => ?_) (fun u hu => ?_) (by unfold maxLen; omega) (by omega) hB (fun v' w' h1 h2 _ => h v' w' h1 h2)
  · match j, hj with
    | 0, hj => simp at hj; subst hj; simpa [Addr.add] using hc
  · simp at hu; subst hu; rfl
/-- What was below the row's ground stays where the row has grown. -/
theorem own_grown {w0 w w' : World} {B e size n : Nat} {v : Value} {xs : List Value} (hb : Below B w0 w) (hown : w.ownsRow B e size v n xs) (hg : w.grownBy w' v.ownBlock) (hB : B ≤ w.heap.size) : Below B w0 w' := by
  refine Below.grown hb hg hB (fun k hk => ?_)
  obtain ⟨_, h⟩ := hown
  rcases h with ⟨rfl, _⟩ | ⟨g, cap, cur, rfl, hg, _⟩
  · cases hk
  · cases hk; exact hg

end Go.Proofs.YtjclpbaiiklhcaaGreatDoor

/- The draw kit of the model: bytes drawn off a code, and never past it. -/
namespace Go.Proofs.YtjclpbaiiklhcaaGreatDoor
open Go.RowKit

/-- The bytes that a slice reads as. -/
def BR (w : World) (v : Value) (l : List UInt8) : Prop :=
  ∃ ao cap, v = .slice ao l.length cap ∧ l.length ≤ cap ∧ ∀ i (h : i < l.length), ∃ b o, ao = some ⟨b, o, none⟩ ∧ w.cell? ⟨b, o + i, none⟩ = some (.int .u8 (l[i].toNat : Int))
theorem BR.later {w w' : World} {v : Value} {l : List UInt8} (h : BR w v l) (hb : Below w.heap.size w w') : BR w' v l := by
  obtain ⟨ao, cap, rfl, hle, h⟩ := h
  exact ⟨ao, cap, rfl, hle, fun i hi => by obtain ⟨b, o, e, hc⟩ := h i hi; exact ⟨b, o, e, cell_later hb hc⟩⟩

theorem and255 (a : Int) : 0 ≤ bits .and .i64 a 255 ∧ bits .and .i64 a 255 ≤ 255 := by
  have key : bits .and .i64 a 255 = (((BitVec.ofInt 64 a) &&& (BitVec.ofInt 64 255)).toNat : Int) := by
    unfold bits
    show IntKind.wrap .i64 ((((BitVec.ofInt 64 a) &&& (BitVec.ofInt 64 255)).toNat : Nat) : Int) = _
    have hle : ((BitVec.ofInt 64 a) &&& (BitVec.ofInt 64 255)).toNat ≤ 255 := by
      rw [BitVec.toNat_and]
      exact Nat.le_trans Nat.and_le_right (by decide)
    generalize ((BitVec.ofInt 64 a) &&& (BitVec.ofInt 64 255)).toNat = k at *
    simp [IntKind.wrap, IntKind.bits, IntKind.signed]
    omega
  have hle : ((BitVec.ofInt 64 a) &&& (BitVec.ofInt 64 255)).toNat ≤ 255 := by
    rw [BitVec.toNat_and]
    exact Nat.le_trans Nat.and_le_right (by decide)
  rw [key]
  omega

theorem gdrew {w w' : World} {r : Option Nat} (h : w.grownBy w' r) : w.grownBy w'.drew r := ⟨h.os, h.tape, h.output, h.size, h.block⟩
theorem gtrans {a w w' : World} {r : Option Nat} (h : a.grownBy w r) (k : w.grownBy w' r) : a.grownBy w' r :=
  ⟨k.os.trans h.os, k.tape.trans h.tape, k.output.trans h.output, Nat.le_trans h.size k.size, fun b hb e => (k.block b (Nat.lt_of_lt_of_le hb h.size) e).trans (h.block b hb e)⟩
theorem gset1 (w : World) (b i : Nat) (v : Value) : w.grownBy (w.setCell ⟨b, i, none⟩ v) (some b) :=
  ⟨rfl, rfl, rfl, by simp [World.setCell], fun k _ hr => Below.heap_setCell _ _ _ _ (fun e => hr (by rw [e]))⟩
theorem gset {w w' : World} {N : Nat} (h : w.grownBy w' (some N)) (i : Nat) (v : Value) : w.grownBy (w'.setCell ⟨N, i, none⟩ v) (some N) := gtrans h (gset1 _ _ _ _)

/-- A code being drawn from, in block N. -/
structure Dr (N : Nat) (cv : Value) (n : Nat) (w : World) : Prop where
  c0 : w.cell? ⟨N, 0, none⟩ = some cv
  c1 : ∃ p : Nat, p ≤ n ∧ w.cell? ⟨N, 1, none⟩ = some (.int .i64 p)
  c2 : ∃ h : Int, w.cell? ⟨N, 2, none⟩ = some (.int .i64 h)
  f1 : w.frozen? ⟨N, 1, none⟩ = false
  f2 : w.frozen? ⟨N, 2, none⟩ = false

theorem Dr.drew {N n : Nat} {cv : Value} {w : World} (h : Dr N cv n w) : Dr N cv n w.drew := ⟨h.c0, h.c1, h.c2, h.f1, h.f2⟩
theorem Dr.set2 {N n : Nat} {cv : Value} {w : World} (h : Dr N cv n w) (H : Int) : Dr N cv n (w.setCell ⟨N, 2, none⟩ (.int .i64 H)) := by
  obtain ⟨c0, ⟨p, hp, c1⟩, ⟨h, c2⟩, f1, f2⟩ := h
  exact ⟨(World.cell?_setCell_other _ _ _ _ (by simp)).trans c0, ⟨p, hp, (World.cell?_setCell_other _ _ _ _ (by simp)).trans c1⟩, ⟨H, World.cell?_setCell_same _ _ _ c2⟩, (World.frozen?_setCell ..).trans f1, (World.frozen?_setCell ..).trans f2⟩
theorem Dr.set1 {N n : Nat} {cv : Value} {w : World} (h : Dr N cv n w) (q : Int) (p : Nat) (e : q = p) (hp : p ≤ n) : Dr N cv n (w.setCell ⟨N, 1, none⟩ (.int .i64 q)) := by
  obtain ⟨c0, ⟨p', hp', c1⟩, ⟨h, c2⟩, f1, f2⟩ := h
  subst e
  exact ⟨(World.cell?_setCell_other _ _ _ _ (by simp)).trans c0, ⟨p, hp, World.cell?_setCell_same _ _ _ c1⟩, ⟨h, (World.cell?_setCell_other _ _ _ _ (by simp)).trans c2⟩, (World.frozen?_setCell ..).trans f1, (World.frozen?_setCell ..).trans f2⟩

set_option maxRecDepth 100000 in
set_option maxHeartbeats 3200000 in
theorem l1Byte_any (N : Nat) (cv : Value) (cs : List UInt8) (w : World) (hc : BR w cv cs) (hn : cs.length ≤ 4096) (hd : Dr N cv cs.length w) (hlow : ∀ a n c, cv = .slice (some a) n c → 0 < n → a.block ≠ N) :
    Calls Tryz.prog 64 #[.pointer (some ⟨N, 0, none⟩)] w fun x w' => (∃ z : Int, x = .returned (.int .i64 z) ∧ 0 ≤ z ∧ z ≤ 255) ∧ w.grownBy w' (some N) ∧ Dr N cv cs.length w' := by
  have HD : Hid (Dr N cv cs.length w) := hd
  obtain ⟨c0, ⟨p, hp, c1⟩, ⟨h, c2⟩, f1, f2⟩ := hd
  obtain ⟨ao, cap, rfl, hcap, hr⟩ := hc
  by_cases hlt : p < cs.length
  · obtain ⟨b, o, rfl, hx⟩ := hr p hlt
    have hbN : ¬ b = N := hlow _ _ _ rfl (by omega)
    have hNb : ¬ N = b := fun e => hbN e.symm
    have hlt' : decide ((p : Int) < (cs.length : Int)) = true := by simp; omega
    clear hr hlow
    go_enter Tryz.func64, Tryz.ntmps64
    go_wp2
    generalize wrap64 (wrap64 (h * 6364136223846793005) + 1442695040888963407) = H
    go_region
    all_goals go_wp2
    all_goals generalize bits BinOp.and IntKind.i64 (bits BinOp.xor IntKind.i64 (H / 8589934592) (H / 35184372088832)) 255 = z
    all_goals go_region
    all_goals go_wp2
    all_goals go_region
    all_goals go_wp2
    all_goals
      have Z := and255 (wrap64 (z + wrap64 ↑cs[p].toNat))
      go_ret
      refine ⟨⟨_, rfl, Z.1, Z.2⟩, ?_, ?_⟩
      · first | exact gset (gset (World.grownBy.refl _ _) 2 _) 1 _ | exact gdrew (gset (gset (World.grownBy.refl _ _) 2 _) 1 _) | exact gdrew (gdrew (gset (gset (World.grownBy.refl _ _) 2 _) 1 _)) | exact gdrew (gdrew (gdrew (gset (gset (World.grownBy.refl _ _) 2 _) 1 _)))
      · first | exact ((HD.out.set2 H).set1 _ (p + 1) (by simp) (by omega)).drew.drew.drew | exact ((HD.out.set2 H).set1 _ (p + 1) (by simp) (by omega)).drew.drew | exact ((HD.out.set2 H).set1 _ (p + 1) (by simp) (by omega)).drew
  · obtain rfl : p = cs.length := by omega
    have hlt' : decide ((cs.length : Int) < (cs.length : Int)) = false := by simp
    clear hr hlow
    go_enter Tryz.func64, Tryz.ntmps64
    go_wp2
    generalize wrap64 (wrap64 (h * 6364136223846793005) + 1442695040888963407) = H
    have Z := and255 (bits BinOp.xor IntKind.i64 (H / 8589934592) (H / 35184372088832))
    go_region
    all_goals go_wp2
    all_goals generalize bits BinOp.and IntKind.i64 (bits BinOp.xor IntKind.i64 (H / 8589934592) (H / 35184372088832)) 255 = z at *
    all_goals go_region
    all_goals go_wp2
    all_goals go_ret
    all_goals
      refine ⟨⟨z, rfl, Z.1, Z.2⟩, ?_, ?_⟩
      · first | exact gset (World.grownBy.refl _ _) 2 _ | exact gdrew (gset (World.grownBy.refl _ _) 2 _) | exact gdrew (gdrew (gset (World.grownBy.refl _ _) 2 _))
      · first | exact (HD.out.set2 H).drew.drew | exact (HD.out.set2 H).drew | exact HD.out.set2 H

/-- The code lies apart from the block it is drawn in. -/
def Off (N : Nat) (cv : Value) : Prop := ∀ a n c, cv = .slice (some a) n c → 0 < n → a.block ≠ N
theorem BR.grown {w w' : World} {v : Value} {l : List UInt8} {N : Nat} (h : BR w v l) (hg : w.grownBy w' (some N)) (ho : Off N v) : BR w' v l := by
  obtain ⟨ao, cap, rfl, hle, h⟩ := h
  refine ⟨ao, cap, rfl, hle, fun i hi => ?_⟩
  obtain ⟨b, o, rfl, hc⟩ := h i hi
  exact ⟨b, o, rfl, hg.cell hc (fun e => ho _ _ _ rfl (by omega) (Option.some.inj e))⟩
/-- A draw: the code, its place and the block N. -/
structure Dw (N : Nat) (cv : Value) (cs : List UInt8) (w : World) : Prop where
  br : BR w cv cs
  len : cs.length ≤ 4096
  dr : Dr N cv cs.length w
  off : Off N cv
theorem Dw.byte {N : Nat} {cv : Value} {cs : List UInt8} {w : World} (h : Dw N cv cs w) :
    Calls Tryz.prog 64 #[.pointer (some ⟨N, 0, none⟩)] w fun x w' => (∃ z : Int, x = .returned (.int .i64 z) ∧ 0 ≤ z ∧ z ≤ 255) ∧ w.grownBy w' (some N) ∧ Dw N cv cs w' :=
  (l1Byte_any N cv cs w h.br h.len h.dr h.off).mono fun _ _ ⟨a, g, d⟩ => ⟨a, g, h.br.grown g h.off, h.len, d, h.off⟩

set_option maxRecDepth 100000 in
set_option maxHeartbeats 1600000 in
theorem Dw.below {N : Nat} {cv : Value} {cs : List UInt8} {w : World} (h : Dw N cv cs w) (n : Int) (h0 : 0 < n) (h1 : n ≤ 256) :
    Calls Tryz.prog 33 #[.pointer (some ⟨N, 0, none⟩), .int .i64 n] w fun x w' => (∃ z : Int, x = .returned (.int .i64 z) ∧ 0 ≤ z ∧ z < n) ∧ w.grownBy w' (some N) ∧ Dw N cv cs w' := by
  have B := h.byte
  have e1 : decide (n ≤ 0) = false := by simp; omega
  have e2 : decide (n ≤ 256) = true := by simp; omega
  go_enter Tryz.func33, Tryz.ntmps33
  go_wp2_with fail
  refine B.mono ?_
  rintro x w1 ⟨⟨z, rfl, z0, z1⟩, g1, d1⟩
  clear B
  have nz : ¬ n = 0 := by omega
  have hm : Int.tmod z n = z % n := Int.tmod_eq_emod_of_nonneg z0
  have hm0 : 0 ≤ z % n := Int.emod_nonneg z nz
  have hm1 : z % n < n := Int.emod_lt_of_pos z h0
  go_wp2

  go_ret
  exact ⟨⟨_, rfl, by first | omega | (rw [hm]; omega), by first | omega | (rw [hm]; omega)⟩, g1, d1⟩

end Go.Proofs.YtjclpbaiiklhcaaGreatDoor
