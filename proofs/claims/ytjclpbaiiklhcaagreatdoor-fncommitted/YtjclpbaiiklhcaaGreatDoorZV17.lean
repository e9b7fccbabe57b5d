import Derived.Test.YtjclpbaiiklhcaaGreatDoorZSpecScr
import Derived.Test.YtjclpbaiiklhcaaGreatDoorRows
import Derived.WalkKit
import Derived.WalkSpells
import Derived.WalkLawsBesides
import Derived.WalkSmall
import Derived.Defers
import Derived.Recover
/- The writes of a commit fit a disk, and what a disk is once they are done. -/
namespace Go.Proofs.YtjclpbaiiklhcaaGreatDoor
open Go.RowKit

theorem itoa_sz (v : Int) (k : Nat) (h0 : 0 ≤ v) (h : v.toNat < 10 ^ (k + 1)) : (itoaB v).size ≤ k + 1 := by
  show (Lib.itoa v).toArray.size ≤ k + 1
  rw [List.size_toArray]
  unfold Lib.itoa
  rw [if_neg (by omega)]
  exact dec_len k v.toNat h
theorem packT_fit (n e : Int) (b : ByteArray) : (packT n e b).size ≤ 256 := by
  unfold packT
  split
  · rename_i h
    obtain ⟨r1, r2, r3, r4, r5⟩ := pgOk_range h
    obtain ⟨c1, c2⟩ := crcS_range (headS n e ++ b)
    have s1 := itoa_sz n 1 (by omega) (by omega)
    have s2 := itoa_sz e 8 (by omega) (by omega)
    have s3 := itoa_sz (crcS (headS n e ++ b)) 9 (by omega) (by omega)
    have e1 : semi.size = 1 := rfl
    have e2 : (⟨#[80]⟩ : ByteArray).size = 1 := rfl
    unfold packS
    rw [ByteArray.size_append, ByteArray.size_append, ByteArray.size_append, ByteArray.size_append]
    have : (headS n e).size ≤ 13 := by
      unfold headS
      rw [ByteArray.size_append, ByteArray.size_append, ByteArray.size_append]
      omega
    omega
  · exact Nat.zero_le _
theorem supL_fit : ∀ (l : List Int) (acc : ByteArray), (∀ x ∈ l, 2 ≤ x ∧ x ≤ 63) → (supL acc l).size ≤ acc.size + 3 * l.length
  | [], acc, _ => by show acc.size ≤ acc.size + 0; omega
  | x :: l, acc, h => by
    have h1 := supL_fit l (acc ++ itoaB x ++ semi) (fun y hy => h y (List.mem_cons_of_mem _ hy))
    have hx := h x (List.mem_cons_self ..)
    have s1 := itoa_sz x 1 (by omega) (by omega)
    have e1 : semi.size = 1 := rfl
    rw [ByteArray.size_append, ByteArray.size_append] at h1
    show (supL (acc ++ itoaB x ++ semi) l).size ≤ _
    rw [List.length_cons]
    omega
theorem supT_fit (e : Int) (l : List Int) : (supT e l).size ≤ 256 := by
  cases h : supOk e l
  · rw [supT_no h]; exact Nat.zero_le _
  · rw [supT_yes h]
    obtain ⟨p1, p2, p3, _⟩ := supOk_parts h
    have m := supL_fit l (supHead e l.length) (supOk_mem h)
    obtain ⟨c1, c2⟩ := crcS_range (supS e l)
    have s1 := itoa_sz (crcS (supS e l)) 9 (by omega) (by omega)
    have s2 := itoa_sz e 8 (by omega) (by omega)
    have s3 := itoa_sz (l.length : Int) 1 (by omega) (by omega)
    have e1 : semi.size = 1 := rfl
    have e2 : (⟨#[83]⟩ : ByteArray).size = 1 := rfl
    have hh : (supHead e l.length).size ≤ 14 := by
      unfold supHead
      rw [ByteArray.size_append, ByteArray.size_append, ByteArray.size_append, ByteArray.size_append]
      omega
    rw [ByteArray.size_append]
    unfold supS at *
    omega
theorem okW_mk {x : Int} {t : ByteArray} (h0 : 0 ≤ x) (h1 : x ≤ 63) (h2 : t.size ≤ 256) : Disk.okW (x, t) = true := by
  unfold Disk.okW
  exact decide_eq_true ⟨h0, h1, h2⟩
theorem scrK_okW (l : List Int) (old bs : List ByteArray) (e1 : Int) (hl : l.length ≤ 30) : ∀ k, k ≤ 31 → ∀ x ∈ (scrK l old bs e1 k).1, Disk.okW x = true
  | 0, _ => fun x hx => by cases hx
  | k + 1, hk => fun x hx => by
    have ih := scrK_okW l old bs e1 hl k (by omega)
    cases h : sameB old bs k
    · rw [scr_new h] at hx
      rcases List.mem_append.1 hx with hx | hx
      · exact ih x hx
      · rw [List.mem_singleton.1 hx]
        have := (scr_len l old bs e1 k).2
        have fl := freeL_length l
        obtain ⟨r1, r2, _⟩ := freeL_range l (j := (scrK l old bs e1 k).1.length) (by omega)
        exact okW_mk (by omega) r2 (packT_fit _ _ _)
    · rw [scr_same h] at hx
      exact ih x hx
theorem scrW_okW (ss bs : List ByteArray) (hb : bs.length ≤ 30) : ∀ x ∈ scrW ss bs, Disk.okW x = true := fun x hx => by
  unfold scrW at hx
  rcases List.mem_append.1 hx with hx | hx
  · exact scrK_okW _ _ _ _ (newR_ok ss).2 _ (by omega) x hx
  · rw [List.mem_singleton.1 hx]
    exact okW_mk (by omega) (by omega) (supT_fit _ _)
theorem at_okW {ws : List Disk.Wr} (h : ∀ x ∈ ws, Disk.okW x = true) {k : Nat} (hk : k < ws.length) : Disk.okW (ws.getD k Disk.wr0) = true := by
  rw [List.getD_eq_getElem?_getD, List.getElem?_eq_getElem hk]
  exact h _ (List.getElem_mem hk)
/-- The disk's sectors with some writes done, in order. -/
def doneS (ss : List ByteArray) (ws : List Disk.Wr) : List ByteArray := ws.foldl Disk.stepH ss
theorem fit_set {ss : List ByteArray} {i : Nat} {t : ByteArray} (h : ∀ s ∈ ss, s.size ≤ 256) (ht : t.size ≤ 256) : ∀ s ∈ ss.set i t, s.size ≤ 256 := fun s hs => by
  rcases List.mem_or_eq_of_mem_set hs with h' | h'
  · exact h s h'
  · rw [h']; exact ht
theorem fit_done : ∀ (ws : List Disk.Wr) (ss : List ByteArray), (∀ s ∈ ss, s.size ≤ 256) → (∀ x ∈ ws, Disk.okW x = true) → ∀ s ∈ doneS ss ws, s.size ≤ 256
  | [], _, h, _ => h
  | x :: ws, ss, h, hw => fit_done ws (Disk.stepH ss x) (fit_set h (Disk.okW_range (hw x (List.mem_cons_self ..))).2.2) (fun y hy => hw y (List.mem_cons_of_mem _ hy))
theorem okD_fit {ss : List ByteArray} {ws : List Disk.Wr} (h : Disk.okD ss ws = true) : ∀ s ∈ ss, s.size ≤ 256 := fun s hs => by
  obtain ⟨_, _, h3, _⟩ := Disk.okD_all h
  obtain ⟨i, hi, e⟩ := List.mem_iff_getElem.1 hs
  have := h3 i hi
  rw [List.getD_eq_getElem?_getD, List.getElem?_eq_getElem hi] at this
  rw [← e]
  exact this
theorem okD_mk {ss : List ByteArray} {ws : List Disk.Wr} (h1 : ss.length = 64) (h2 : ws.length ≤ 200) (h3 : ∀ s ∈ ss, s.size ≤ 256) (h4 : ∀ x ∈ ws, Disk.okW x = true) : Disk.okD ss ws = true :=
  Disk.okD_yes h1 h2 (fun k hk => by rw [List.getD_eq_getElem?_getD, List.getElem?_eq_getElem hk]; exact h3 _ (List.getElem_mem hk)) (fun k hk => at_okW h4 hk)
theorem doneS_length (ss : List ByteArray) (ws : List Disk.Wr) : (doneS ss ws).length = ss.length := Disk.foldH_length _ _
theorem okD_len64 {ss : List ByteArray} {ws : List Disk.Wr} (h : Disk.okD ss ws = true) : ss.length = 64 := (Disk.okD_all h).1
theorem hold_done {ss : List ByteArray} {ws : List Disk.Wr} (h : Disk.okD ss ws = true) : Disk.holdS ss ws = doneS ss ws := by
  unfold Disk.holdS
  rw [if_pos h]
  unfold Disk.holdN doneS
  rw [List.take_length]
/-- Other late writes in place of a right disk's own. -/
theorem okD_late' {ss : List ByteArray} {ws us : List Disk.Wr} (h : Disk.okD ss ws = true) (hl : us.length ≤ 200) (hu : ∀ x ∈ us, Disk.okW x = true) : Disk.okD ss us = true := okD_mk (okD_len64 h) hl (okD_fit h) hu
theorem okD_done {ss : List ByteArray} {ws us ts : List Disk.Wr} (h : Disk.okD ss ws = true) (hl : us.length ≤ 200) (hu : ∀ x ∈ us, Disk.okW x = true) (ht : ∀ x ∈ ts, Disk.okW x = true) : Disk.okD (doneS ss ts) us = true :=
  okD_mk (by rw [doneS_length]; exact okD_len64 h) hl (fit_done ts ss (okD_fit h) ht) hu
theorem done_split (ss : List ByteArray) (ws : List Disk.Wr) (p : Nat) : doneS (doneS ss (ws.take p)) (ws.drop p) = doneS ss ws := by
  unfold doneS
  rw [← List.foldl_append, List.take_append_drop]

def commitS (ss : List ByteArray) (ws : List Disk.Wr) (bs : List ByteArray) : List ByteArray := if scrOk ss ws bs = true then doneS ss (scrW ss bs) else []
theorem commitS_no {ss : List ByteArray} {ws : List Disk.Wr} {bs : List ByteArray} (h : scrOk ss ws bs = false) : commitS ss ws bs = [] := by unfold commitS; rw [if_neg (by rw [h]; simp)]
theorem commitS_yes {ss : List ByteArray} {ws : List Disk.Wr} {bs : List ByteArray} (h : scrOk ss ws bs = true) : commitS ss ws bs = doneS ss (scrW ss bs) := by unfold commitS; rw [if_pos h]
/-- The pages held, the superblock late. -/
theorem super_okD {ss : List ByteArray} {ws : List Disk.Wr} {bs : List ByteArray} (h : scrOk ss ws bs = true) (p : Nat) : Disk.okD ss ((scrW ss bs).take p) = true ∧ Disk.okD (doneS ss ((scrW ss bs).take p)) ((scrW ss bs).drop p) = true := by
  obtain ⟨o1, o2, _, _⟩ := scrOk_parts h
  have hw := scrW_okW ss bs o2
  have hl := (scrW_length ss bs).2
  have t : ∀ x ∈ (scrW ss bs).take p, Disk.okW x = true := fun x hx => hw x (List.mem_of_mem_take hx)
  exact ⟨okD_late' o1 (by rw [List.length_take]; omega) t, okD_done o1 (by rw [List.length_drop]; omega) (fun x hx => hw x (List.mem_of_mem_drop hx)) t⟩

end Go.Proofs.YtjclpbaiiklhcaaGreatDoor

/- What recovers at the faces of a commit. -/
namespace Go.Proofs.YtjclpbaiiklhcaaGreatDoor
open Go.RowKit

theorem scriptCatch (u : TypeId) (pv : Value) (older : List PanicEntry) (w : World) :
    CallsD Tryz.prog 31 #[] (.panicking ({ v := .iface u pv, recovered := false } :: older)) w fun e u' w' => e = .returned (.tuple #[]) ∧ u' = .panicking ({ v := .iface u pv, recovered := true } :: older) ∧ w' = w := by
  refine callsD_of_wpS Tryz.func31 rfl fun c₀ cs hu => ?_
  apply wpS_region
  simp [wpOpsS, go_sem, recoverD, hu, Tryz.ntmps31, bodyPostS, results, Tryz.results31]
theorem scriptIdle (w : World) :
    CallsD Tryz.prog 31 #[] .returning w fun e u' w' => e = .returned (.tuple #[]) ∧ u' = .returning ∧ w' = w := by
  refine callsD_of_wpS Tryz.func31 rfl fun c₀ cs hu => ?_
  apply wpS_region
  cases c₀
  simp_all [wpOpsS, go_sem, recoverD, Tryz.ntmps31, bodyPostS, results, Tryz.results31]
theorem commitCatch (u : TypeId) (pv : Value) (older : List PanicEntry) (w : World) :
    CallsD Tryz.prog 25 #[] (.panicking ({ v := .iface u pv, recovered := false } :: older)) w fun e u' w' => e = .returned (.tuple #[]) ∧ u' = .panicking ({ v := .iface u pv, recovered := true } :: older) ∧ w' = w := by
  refine callsD_of_wpS Tryz.func25 rfl fun c₀ cs hu => ?_
  apply wpS_region
  simp [wpOpsS, go_sem, recoverD, hu, Tryz.ntmps25, bodyPostS, results, Tryz.results25]
theorem commitIdle (w : World) :
    CallsD Tryz.prog 25 #[] .returning w fun e u' w' => e = .returned (.tuple #[]) ∧ u' = .returning ∧ w' = w := by
  refine callsD_of_wpS Tryz.func25 rfl fun c₀ cs hu => ?_
  apply wpS_region
  cases c₀
  simp_all [wpOpsS, go_sem, recoverD, Tryz.ntmps25, bodyPostS, results, Tryz.results25]
theorem cutCatch (u : TypeId) (pv : Value) (older : List PanicEntry) (w : World) :
    CallsD Tryz.prog 37 #[] (.panicking ({ v := .iface u pv, recovered := false } :: older)) w fun e u' w' => e = .returned (.tuple #[]) ∧ u' = .panicking ({ v := .iface u pv, recovered := true } :: older) ∧ w' = w := by
  refine callsD_of_wpS Tryz.func37 rfl fun c₀ cs hu => ?_
  apply wpS_region
  simp [wpOpsS, go_sem, recoverD, hu, Tryz.ntmps37, bodyPostS, results, Tryz.results37]
theorem cutIdle (w : World) :
    CallsD Tryz.prog 37 #[] .returning w fun e u' w' => e = .returned (.tuple #[]) ∧ u' = .returning ∧ w' = w := by
  refine callsD_of_wpS Tryz.func37 rfl fun c₀ cs hu => ?_
  apply wpS_region
  cases c₀
  simp_all [wpOpsS, go_sem, recoverD, Tryz.ntmps37, bodyPostS, results, Tryz.results37]

end Go.Proofs.YtjclpbaiiklhcaaGreatDoor
