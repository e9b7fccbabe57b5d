/- Which elements are fleeting, and which old objects must be kept in mind: isFleeting, mustKeep of the program. -/
import Derived.Test.YtklafifiphbibaaGreatZFElem
namespace Go.Proofs.YtklafifiphbibaaGreat
open Go.RowKit

theorem part_some (p : String → Bool) (f : String → String) (s : String) (r : List String) : ∃ m, (Instr.least ((s :: r).partition p).2 <|> Instr.least (((s :: r).partition p).1.map f)) = some m := by
  have nn : ∀ (a : String) (b : List String), ∃ m, Instr.least (a :: b) = some m := fun a b => ⟨_, rfl⟩
  rw [List.partition_eq_filter_filter]
  show ∃ m, (Instr.least ((s :: r).filter (not ∘ p)) <|> Instr.least (((s :: r).filter p).map f)) = some m
  cases hp : p s
  · rw [List.filter_cons_of_pos (p := not ∘ p) (by simp [hp])]
    obtain ⟨m, e⟩ := nn s (r.filter (not ∘ p))
    rw [e]
    exact ⟨m, rfl⟩
  · rw [List.filter_cons_of_pos (p := p) hp, List.map_cons]
    obtain ⟨m, e⟩ := nn (f s) ((r.filter p).map f)
    rw [e]
    cases Instr.least (List.filter (not ∘ p) (s :: r)) with
    | none => exact ⟨m, rfl⟩
    | some m' => exact ⟨m', rfl⟩
def missL (P : Program) (aT t : TypeId) : Option (List String) :=
  match P.underlying aT, P.info? t with
  | some (.interface want), some i => some ((want.toList.filter fun (name, sig) => !i.methods.any fun m => m.name == name && m.sig == sig).map (·.1))
  | _, _ => none
theorem ta_no {P : Program} {aT t : TypeId} {s : String} {r : List String} (h : missL P aT t = some (s :: r)) (hz : (P.info? aT).bind (·.zero) = some .nilIface) (v : Value) (xT : TypeId) (w : World) :
    (Instr.typeAssert (.iface t v) xT aT true).run P w = .ok (.tuple #[.nilIface, .bool false]) w := by
  unfold missL at h
  split at h
  · rename_i want i hu hi
    injection h with h
    obtain ⟨m, hm⟩ : ∃ m, Instr.missingMethod want i.methods = some m := by
      unfold Instr.missingMethod
      rw [h]
      dsimp only
      exact part_some _ _ s r
    obtain ⟨ia, hia, hza⟩ := Option.bind_eq_some_iff.1 hz
    simp [Instr.typeAssert, run_underlying hu, typeInfo, hi, hm, zeroValue, hia, hza]
  · cases h
theorem taN (w : World) : (Instr.typeAssert (.iface 86 (.agg #[])) 60 125 true).run Tryz.prog w = .ok (.tuple #[.nilIface, .bool false]) w := ta_no (s := "loop.example/g00140/impl.leaves") (r := []) (by kernel_rfl) (by kernel_rfl) _ _ w
theorem taU (w : World) : (Instr.typeAssert (.iface 89 (.agg #[])) 60 125 true).run Tryz.prog w = .ok (.tuple #[.nilIface, .bool false]) w := ta_no (s := "loop.example/g00140/impl.leaves") (r := []) (by kernel_rfl) (by kernel_rfl) _ _ w
theorem taO (u : Value) (x : Int) (w : World) : (Instr.typeAssert (.iface 91 (.agg #[u, .int .i64 x])) 60 125 true).run Tryz.prog w = .ok (.tuple #[.nilIface, .bool false]) w := ta_no (s := "loop.example/g00140/impl.leaves") (r := []) (by kernel_rfl) (by kernel_rfl) _ _ w
theorem taY (u : Value) (x : Int) (w : World) : (Instr.typeAssert (.iface 93 (.agg #[u, .int .i64 x])) 60 125 true).run Tryz.prog w = .ok (.tuple #[.iface 93 (.agg #[u, .int .i64 x]), .bool true]) w := by kernel_rfl

theorem fleet_el (l : List Nat) (u : Value) (x : Int) (w : World) :
    Calls Tryz.prog 74 #[elV l u x] w fun e w' => e = .returned (.bool (fitB l x && youngB x)) ∧ w' = w := by
  unfold elV
  cases hf : fitB l x
  · have t := taN
    rw [if_neg (by simp)]
    go_enter Tryz.func74, Tryz.ntmps74
    go_wp2
    go_ret
    exact ⟨rfl, rfl⟩
  rw [if_pos rfl]
  by_cases k : kindW x = 2
  · rw [if_pos k]
    by_cases y : 2000 ≤ x / 2
    · have Y : Hid (youngB x = true) := (by rw [young_ref (decide_eq_true k)]; exact decide_eq_true y : youngB x = true)
      have t := taY u (x / 2)
      rw [if_pos y]
      clear k y
      go_enter Tryz.func74, Tryz.ntmps74
      go_wp2
      go_ret
      exact ⟨by rw [Y.out]; rfl, rfl⟩
    · have Y : Hid (youngB x = false) := (by rw [young_ref (decide_eq_true k)]; exact decide_eq_false y : youngB x = false)
      have t := taO u (x / 2)
      rw [if_neg y]
      clear k y
      go_enter Tryz.func74, Tryz.ntmps74
      go_wp2
      go_ret
      exact ⟨by rw [Y.out]; rfl, rfl⟩
  · have Y : Hid (youngB x = false) := (young_no (decide_eq_false k) : youngB x = false)
    have t := taU
    rw [if_neg k]
    clear k
    go_enter Tryz.func74, Tryz.ntmps74
    go_wp2
    go_ret
    exact ⟨by rw [Y.out]; rfl, rfl⟩

/-- The predicate that is handed to ContainsFunc. -/
theorem mustOne_any (B : Nat) (a1 oa : Option Addr) (n1 c1 oc : Nat) (l : List Nat) (x : Int) (w : World) (hB : w.cell? ⟨B, 0, none⟩ = some (.slice a1 n1 c1)) (hB1 : w.cell? ⟨B, 1, none⟩ = some (.slice oa l.length oc)) (ho : IR w (.slice oa l.length oc) (ints l)) (hs : l.Pairwise (· < ·)) (h1 : l.length ≤ 1000000000) :
    Calls Tryz.prog 76 #[.int .i64 x, .pointer (some ⟨B, 0, none⟩)] w fun e w' => e = .returned (.bool (fitB l x && youngB x)) ∧ Below w.heap.size w w' := by
  have E := elementOf_any a1 oa n1 c1 oc l x w ho hs h1
  have FL := fun W => fleet_el l (.slice a1 n1 c1) x W
  generalize elV l (.slice a1 n1 c1) x = ev at *
  generalize (fitB l x && youngB x) = r at *
  clear ho hs
  go_enter Tryz.func76, Tryz.ntmps76
  go_wp2_with fail
  refine E.mono ?_
  rintro e w1 ⟨rfl, hb1⟩
  go_wp2_with fail
  refine (FL _).mono ?_
  rintro e wq ⟨rfl, hq⟩
  obtain rfl := hq.symm
  go_wp2
  go_ret
  exact ⟨rfl, hb1⟩

end Go.Proofs.YtklafifiphbibaaGreat
