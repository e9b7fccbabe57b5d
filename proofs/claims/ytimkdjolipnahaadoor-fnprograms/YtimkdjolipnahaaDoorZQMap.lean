/- The map of the words: codeWords and wordOf of the program. -/
import Derived.Test.YtimkdjolipnahaaDoorZQPl
import Derived.Maps.OwnSet
import Derived.Maps.OwnOps
import Derived.Maps.AppendAt
import Derived.Maps.RangeWalk
import Derived.StringKeys
import Derived.Laws.RangeAny
namespace Go.Proofs.YtimkdjolipnahaaDoor
open Go.RowKit Go.Maps Go.WideMaps

theorem keyS : Keyed Tryd.prog 9 := string_keyed Tryd.underlying9
theorem zeroQ (w : World) : (zeroValue 2).run Tryd.prog w = .ok (.int .i64 0) w := by kernel_rfl
theorem wfQ {k : Int} (h0 : -9223372036854775808 ≤ k) (h1 : k ≤ 9223372036854775807) : (Lit.int .i64 k).wf = true := WalkArith.wf_i64 (by omega)
/-- What stands in a list of words and numbers. -/
def putL : List (ByteArray × Int) → ByteArray → Option Int
  | [], _ => none
  | p :: l, s => if s = p.1 then some p.2 else putL l s
/-- Block b is a map of at most n entries that gives f. -/
def SM (w : World) (b n : Nat) (f : ByteArray → Option Int) (D : DataW Unit) : Prop :=
  w.ownsMap Tryd.prog 9 (plainElem Tryd.prog 2) b n D ∧ ∀ s : ByteArray, Maps.has D (.string s.data.toList) = (f s).isSome ∧ D.atKey (.string s.data.toList) (.lit (.int .i64 0)) = .lit (.int .i64 ((f s).getD 0))
/-- A map being filled. -/
def ST (w0 : World) (w : World) (n : Nat) (l : List (ByteArray × Int)) : Prop := (∃ D, SM w w0.heap.size n (putL l) D) ∧ Below w0.heap.size w0 w
theorem ST.made (w : World) : ST w (w.alloc (.map #[] 0)) 0 [] := ⟨⟨.map [], World.ownsMap_made _ _ _ _, fun _ => ⟨rfl, rfl⟩⟩, qbel _ _⟩
theorem lit_ne {s t : ByteArray} (h : s ≠ t) : (Lit.string s.data.toList) ≠ .string t.data.toList := fun e => h (ba_ext (by simpa using e))
theorem ST.ins {w0 w : World} {n : Nat} {l : List (ByteArray × Int)} {ops : Array Oper} {rest : List Oper} {o : Oper} {a : Act} {Q : Exit → Act → World → Prop} (hS : ST w0 w n l) (hn : n ≤ 1000) (hg : o.guard = none) (m : Operand) (k : ByteArray) (v : Int)
    (hop : o.op = Op.insert 49 m (.const (.string k)) (.const (.int .i64 v))) (hm : a.eval m = .map (some w0.heap.size)) (hk : k.size ≤ 100) (h0 : 0 ≤ v ∧ v ≤ 100) (hd : o.dst = none)
    (h : ∀ w', ST w0 w' (n + 1) ((k, v) :: l) → wpList Tryd.prog ops Q rest a w') : wpList Tryd.prog ops Q (o :: rest) a w := by
  obtain ⟨⟨D, hown, hD⟩, hb⟩ := hS
  have hI : IsMap D := hown.isMap
  obtain ⟨w', hr, ho, hgr⟩ := hown.update keyS Tryd.underlying49 (by unfold maxLen; omega) (keyOf_string_mk (s := k) Tryd.underlying9 (by unfold maxLen; omega)) (plainElem_int Tryd.underlying2 (wfQ (k := v) (by omega) (by omega)))
  refine wpList_plain hg fun K hK => ?_
  unfold Oper.wp
  have e1 : a.eval (.const (.string k)) = .string k := rfl
  have e2 : a.eval (.const (.int .i64 v)) = .int .i64 v := rfl
  simp [execOp, hop, hm, e1, e2, hr, Result.andThen]
  refine hK _ _ ?_
  rw [hd]
  refine h w' ⟨⟨_, ho, fun s => ?_⟩, Below.grown hb hgr hb.size (fun k hk => by cases hk; exact Nat.le_refl _)⟩
  unfold putL
  by_cases e : s = k
  · subst e
    rw [if_pos rfl, has_put_same (k := .string s.data.toList) hI trivial, atKey_put_same (k := .string s.data.toList) hI trivial]
    exact ⟨rfl, rfl⟩
  · rw [if_neg e, has_put_other (lit_ne e), atKey_put_other (lit_ne e)]
    exact hD s

/-- The words, the last one first. -/
def wdP : List (ByteArray × Int) := [(⟨#[98, 97, 99, 107]⟩, 20), (⟨#[99, 97, 108, 108]⟩, 19), (⟨#[98, 101, 99, 111, 109, 101]⟩, 18), (⟨#[115, 119, 97, 112]⟩, 17), (⟨#[104, 97, 108, 116]⟩, 16), (⟨#[104, 97, 115, 104]⟩, 15), (⟨#[112, 114, 105, 110, 116]⟩, 14), (⟨#[100, 114, 111, 112]⟩, 13), (⟨#[100, 117, 112]⟩, 12), (⟨#[122, 101, 114, 111]⟩, 11), (⟨#[106, 117, 109, 112]⟩, 10), (⟨#[108, 101, 115, 115]⟩, 9), (⟨#[115, 117, 98]⟩, 8), (⟨#[97, 100, 100]⟩, 7), (⟨#[115, 101, 116]⟩, 6), (⟨#[103, 101, 116]⟩, 5), (⟨#[110, 101, 119]⟩, 4), (⟨#[115, 97, 118, 101]⟩, 3), (⟨#[108, 111, 97, 100]⟩, 2), (⟨#[112, 117, 115, 104]⟩, 1)]
set_option maxRecDepth 100000 in
set_option maxHeartbeats 4000000 in
theorem codeWords_any (w : World) :
    Calls Tryd.prog 26 #[] w fun e w' => e = .returned (.map (some w.heap.size)) ∧ ST w w' 20 wdP := by
  have hmm := @run_makeMap Tryd.prog
  have hS := ST.made w
  unfold wdP
  go_enter Tryd.func26, Tryd.ntmps26
  go_wp2_with (refine ST.ins hS (by omega) rfl _ _ _ rfl rfl (by decide) (by omega) rfl ?_; clear hS; intro w' hS)
  go_ret
  exact ⟨rfl, hS⟩

/-- A word of the map is the word of its number. -/
theorem put_wd0 : ∀ p ∈ wdP, 1 ≤ p.2 ∧ p.2 ≤ 20 ∧ p.1 = wdB p.2 := by decide +kernel
theorem put_mem : ∀ (l : List (ByteArray × Int)) (s : ByteArray) (x : Int), putL l s = some x → (s, x) ∈ l
  | [], _, _, h => by cases h
  | p :: l, s, x, h => by
    unfold putL at h
    split at h
    · rename_i e
      cases h
      rw [e]
      exact List.mem_cons_self
    · exact List.mem_cons_of_mem _ (put_mem l s x h)
theorem put_wd {s : ByteArray} {x : Int} (h : putL wdP s = some x) : 1 ≤ x ∧ x ≤ 20 ∧ s = wdB x := put_wd0 _ (put_mem _ _ _ h)
theorem wd_put0 : ∀ a : Fin 20, putL wdP (wdB (a.1 + 1 : Int)) = some (a.1 + 1 : Int) := by decide +kernel
theorem wd_put {op : Int} (h : 1 ≤ op ∧ op ≤ 20) : putL wdP (wdB op) = some op := by
  have := wd_put0 ⟨(op - 1).toNat, by omega⟩
  have e : (((op - 1).toNat : Nat) : Int) + 1 = op := by omega
  simpa only [e] using this
theorem has_of {w : World} {b n : Nat} {f : ByteArray → Option Int} {D : DataW Unit} (h : SM w b n f D) {s : ByteArray} {x : Int} (hs : f s = some x) : Maps.has D (.string s.data.toList) = true ∧ D.atKey (.string s.data.toList) (.lit (.int .i64 0)) = .lit (.int .i64 x) := by
  have := h.2 s
  rw [hs] at this
  exact this

theorem invKS (key : Value) (kl : Lit) (h : keyOf Tryd.prog 9 key = some kl) : ∃ x, key = Value.string x := by
  obtain ⟨s, rfl, _⟩ := string_of_keyOf Tryd.underlying9 h
  exact ⟨s, rfl⟩
theorem invVQ (v : Value) (y : DataW Unit × List MemPlace) (h : plainElem Tryd.prog 2 v = some y) : ∃ c, v = Value.int .i64 c := by
  obtain ⟨c, rfl, _⟩ := plainElem_int_inv Tryd.underlying2 h
  exact ⟨c, rfl⟩
/-- What has come is a word with its number. -/
theorem next_is {D : DataW Unit} {l : List (ByteArray × Int)} (hD : ∀ s : ByteArray, Maps.has D (.string s.data.toList) = (putL l s).isSome ∧ D.atKey (.string s.data.toList) (.lit (.int .i64 0)) = .lit (.int .i64 ((putL l s).getD 0)))
    {x : ByteArray} {c : Int} {kl : Lit} {y : DataW Unit × List MemPlace} (hk : keyOf Tryd.prog 9 (.string x) = some kl) (hy : plainElem Tryd.prog 2 (.int .i64 c) = some y) (hat : ∀ zd, D.atKey kl zd = y.1) : kl = .string x.data.toList ∧ c = (putL l x).getD 0 := by
  obtain ⟨s, e, rfl, _⟩ := string_of_keyOf Tryd.underlying9 hk
  cases e
  obtain ⟨c', e, rfl, _⟩ := plainElem_int_inv Tryd.underlying2 hy
  cases e
  have h1 := hat (.lit (.int .i64 0))
  rw [(hD x).2] at h1
  injection h1 with h1
  injection h1 with _ h1
  exact ⟨rfl, h1.symm⟩
theorem next_op {x : ByteArray} {op : Int} (ho : 1 ≤ op ∧ op ≤ 20) (h : op = (putL wdP x).getD 0) : x = wdB op := by
  cases hp : putL wdP x with
  | none => rw [hp] at h; simp at h; omega
  | some v =>
    rw [hp] at h
    simp at h
    rw [← h] at hp
    exact (put_wd hp).2.2
set_option maxRecDepth 100000 in
set_option maxHeartbeats 1000000 in
theorem wordOf_any (op : Int) (w : World) (ho : 1 ≤ op ∧ op ≤ 20) :
    Calls Tryd.prog 18 #[.int .i64 op] w fun e w' => e = .returned (.string (wdB op)) ∧ Below w.heap.size w w' := by
  have HW : Hid (∀ x : ByteArray, op = (putL wdP x).getD 0 → x = wdB op) := fun x h => next_op ho h
  have HP : Hid (putL wdP (wdB op) = some op) := wd_put ho
  clear ho
  generalize hW : wdB op = W at HW HP ⊢
  clear hW
  go_enter Tryd.func18, Tryd.ntmps18
  go_wp2_with (first
    | (go_at_call 26; refine (codeWords_any _).mono ?_; rintro e w1 ⟨rfl, ⟨D, hown, hD⟩, hb⟩; replace hD : Hid _ := hD)
    | (at_range; refine wpList_range_own _ rfl _ 49 rfl 9 2 keyS Tryd.underlying49 (plainElem Tryd.prog 2) w.heap.size 20 D rfl hown ?_; intro w0 hrg0 hg0 hs0))
  go_frame
  go_loopw [2, 3, 4] (fun _ _ _ wr => ∃ left cnt, wr.ranges Tryd.prog 9 (plainElem Tryd.prog 2) w.heap.size w1.heap.size 20 D left cnt ∧ left (.string W.data.toList) = true ∧ Below w.heap.size w wr) (fun _ _ _ wr => wr.rangeLeft w.heap.size w1.heap.size)
  case atStart =>
    refine ⟨_, _, hrg0, ?_, Below.grown hb hg0 hb.size (fun k hk => by cases hk)⟩
    rw [(hD.out W).1, HP.out]
    rfl
  case round =>
    obtain ⟨left, cnt, hrg, hl, hbr⟩ := hrel
    go_wp2_with ((at_next; refine wpList_next_ranges (α := ByteArray) (β := Int) _ rfl _ rfl 9 keyS (plainElem Tryd.prog 2) Value.string (Value.int .i64) invKS invVQ w.heap.size w1.heap.size 20 D left cnt rfl hrg (fun hc0 hl0 => absurd hl (by rw [hl0]; simp)) ?_; intro x c kl y w2 cnt2 hkx hlx hy hat hrg1 hlt hg1 hs1 hen; obtain ⟨rfl, hc⟩ := next_is hD.out hkx hy hat; clear hkx hy hat; replace hc : Hid _ := hc; by_cases hco : c = op))
    case roundEnd =>
      refine ⟨⟨_, _, hrg1, ?_, bel_set hbr hg1 hb.size⟩, by rw [hrg1.left_eq, hrg.left_eq]; exact hlt⟩
      have hne : ¬ W.data.toList = x.data.toList := fun e => hco (by
        have h1 := hc.out
        rw [← ba_ext e, HP.out] at h1
        exact h1)
      simp only [hl, Lit.sameKey, Bool.true_and]
      simpa using hne
    go_ret
    refine ⟨?_, bel_set hbr hg1 hb.size⟩
    rw [HW.out x (by rw [← hco]; exact hc.out)]
    rfl

end Go.Proofs.YtimkdjolipnahaaDoor
