/- Sorting in the program: merged and sorted. -/
import Derived.Test.YthdffigckohpoaaGreatZV5
import Derived.Test.YthdffigckohpoaaGreatZV14
import Derived.Test.YthdffigckohpoaaGreatZV6
namespace Go.Proofs.YthdffigckohpoaaGreat
open Go.RowKit
theorem isLower_any (a b : Int) (w : World) : Calls Tryz.prog 60 #[.int .i64 a, .int .i64 b] w fun e w' => e = .returned (.bool (decide (a < b))) /\ w' = w := by
 go_enter Tryz.func60, Tryz.ntmps60
 go_wp2
 go_ret
 exact ⟨rfl, rfl⟩
def leI (a b : Int) : Bool := decide (a <= b)
def lenV : Value -> Nat
 | .slice _ n _ => n
 | _ => 0
/-- A list without its first. -/
theorem IR.tail {w : World} {b o c : Nat} {x : Int} {l : List Int} (h : IR w (.slice (some ⟨b, o, none⟩) (l.length + 1) c) (x :: l)) (p : Option Addr) (c' : Nat) (hc : c' = c - 1) (hp : l = [] ∨ p = some ⟨b, o + 1, none⟩) : IR w (.slice p l.length c') l := by
 obtain ⟨ao, cap, e, hle, hcell⟩ := h
 simp only [List.length_cons, Value.slice.injEq, true_and] at e
 obtain ⟨rfl, rfl⟩ := e
 rw [List.length_cons] at hle
 refine ⟨p, c', rfl, by omega, fun i hi => ?_⟩
 obtain ⟨b', o', e', q⟩ := hcell (i + 1) (by rw [List.length_cons]; omega)
 simp only [Option.some.injEq, Addr.mk.injEq, and_true] at e'
 obtain ⟨rfl, rfl⟩ := e'
 rcases hp with rfl | rfl
 ·simp at hi
 ·refine ⟨b, o + 1, rfl, ?_⟩
  rw [show o + 1 + i = o + (i + 1) from by omega, q]
  simp
theorem IR.first {w : World} {v : Value} {x : Int} {l : List Int} (h : IR w v (x :: l)) : ∃ b o c, v = .slice (some ⟨b, o, none⟩) (l.length + 1) c /\ w.cell? ⟨b, o, none⟩ = some (.int .i64 x) /\ l.length + 1 <= c := by
 obtain ⟨ao, cap, rfl, hle, hcell⟩ := h
 obtain ⟨b, o, rfl, q⟩ := hcell 0 (by simp)
 exact ⟨b, o, cap, by simp, by simpa using q, by simpa using hle⟩
/-- What is known on the way of a merge. -/
structure MJ (w : World) (l1 l2 : List Int) (va vb vo : Value) (wr : World) : Prop where
 ex : ∃ (m1 m2 o : List Int) (g c : Nat), IR w va m1 /\ IR w vb m2 /\ vo = .slice (some ⟨g, 0, none⟩) o.length c /\ RI wr g o c /\ c <= maxLen /\ w.heap.size <= g /\ Below w.heap.size w wr /\ Hid (o ++ List.merge m1 m2 leI = List.merge l1 l2 leI /\ o.length + m1.length + m2.length = l1.length + l2.length)
set_option maxRecDepth 100000 in
set_option maxHeartbeats 3200000 in
theorem merged_any (v1 v2 : Value) (l1 l2 : List Int) (w : World) (h1 : IR w v1 l1) (h2 : IR w v2 l2) (n1 : l1.length <= 10000) (n2 : l2.length <= 10000) :
  Calls Tryz.prog 89 #[v1, v2, .func (.func 60) #[] #[]] w fun e w' => (∃ g c, e = .returned (.slice (some ⟨g, 0, none⟩) (l1.length + l2.length) c) /\ RI w' g (List.merge l1 l2 leI) c /\ w.heap.size <= g) /\ Below w.heap.size w w' := by
 obtain ⟨a1, c1, rfl, -⟩ := IRs h1
 obtain ⟨a2, c2, rfl, -⟩ := IRs h2
 obtain ⟨wm, hrun, hown, hbm⟩ := make_cap (l1.length + l2.length) w.heap.size (by omega) w (Nat.le_refl _)
 rw [show ((l1.length + l2.length : Nat) : Int) = (l1.length : Int) + (l2.length : Int) from by omega] at hrun
 obtain ⟨R0, gB0, mx0⟩ := RI.of_owns (l := []) hown
 have hmx : Tryz.prog.follows .mixedOrders = true := by kernel_rfl
 have s0 : Hid (([] : List Int) ++ List.merge l1 l2 leI = List.merge l1 l2 leI /\ ([] : List Int).length + l1.length + l2.length = l1.length + l2.length) := ⟨rfl, by simp⟩
 clear hown
 go_enter Tryz.func89, Tryz.ntmps89
 go_wp2
 go_loopw [0, 1, 7] (fun va vb vo wr => MJ w l1 l2 va vb vo wr) (fun va vb _ _ => lenV va + lenV vb)
 case atStart => exact ⟨⟨l1, l2, [], _, _, h1, h2, rfl, R0, mx0, gB0, hbm, s0⟩⟩
 case round =>
  clear s0 R0 gB0 mx0 hbm hrun
  obtain ⟨m1, m2, o, g, c, i1, i2, rfl, RO, hc, hg, hb, S⟩ := hrel.ex
  have tot := S.out.2
  have END : Hid (∀ (w3 : World) (g3 c3 : Nat), m1 = [] ∨ m2 = [] -> RI w3 g3 (o ++ m1 ++ m2) c3 -> w.heap.size <= g3 -> RI w3 g3 (List.merge l1 l2 leI) c3 /\ o.length + m1.length + m2.length = l1.length + l2.length) := fun w3 g3 c3 hm R3 _ => by
   refine ⟨?_, tot⟩
   rw [<- S.out.1]
   rcases hm with rfl | rfl
   ·rw [List.nil_merge]
    simpa using R3
   ·rw [List.merge_right]
    simpa using R3
  rcases m1 with _ | ⟨x, m1⟩
  ·obtain ⟨pa, ca, rfl, -⟩ := IRs i1
   obtain ⟨pb, cb, rfl, -⟩ := IRs i2
   have J1 := i1.later hb
   clear S
   go_wp2_with (at_builtin; first
    | (refine app_ri _ rfl _ _ rfl g c o.length o rfl rfl RO (by omega) hc _ _ 0 [] rfl rfl J1 (by simp) ?_; intro g3 c3 w3 R3 G3 wh3 mx3; have hb3 := Below.grown hb G3 hb.size (fun k e => by cases e; omega); have J2 := i2.later hb3; have lg3 : w.heap.size <= g3 := (by have := hb.size; rcases wh3 with e | e <;> omega); rw [List.append_nil] at R3)
    | (refine app_ri _ rfl _ _ rfl g3 c3 _ o rfl (by simp) R3 (by omega) mx3 _ _ m2.length m2 rfl rfl J2 (by omega) ?_; intro g4 c4 w4 R4 G4 wh4 mx4; have hb4 := Below.grown hb3 G4 hb3.size (fun k e => by cases e; omega); have lg4 : w.heap.size <= g4 := (by have := hb3.size; rcases wh4 with e | e <;> omega)))
   have E := END.out w4 g4 c4 (by simp) (by simpa using R4) lg4
   go_ret
   exact ⟨⟨_, _, by rw [<- E.2]; simp, E.1, lg4⟩, hb4⟩
  ·rcases m2 with _ | ⟨y, m2⟩
   ·obtain ⟨pa, ca, rfl, -⟩ := IRs i1
    obtain ⟨pb, cb, rfl, -⟩ := IRs i2
    have J1 := i1.later hb
    have tl : ((m1.length : Int) + 1) > 0 := by omega
    rw [List.length_cons] at tot
    have ml : (x :: m1).length <= 20000 := by rw [List.length_cons]; omega
    clear S
    go_wp2_with (at_builtin; first
     | (refine app_ri _ rfl _ _ rfl g c o.length o rfl rfl RO (by omega) hc _ _ (x :: m1).length (x :: m1) rfl rfl J1 (by omega) ?_; intro g3 c3 w3 R3 G3 wh3 mx3; have hb3 := Below.grown hb G3 hb.size (fun k e => by cases e; omega); have J2 := i2.later hb3; have lg3 : w.heap.size <= g3 := (by have := hb.size; rcases wh3 with e | e <;> omega))
     | (refine app_ri _ rfl _ _ rfl g3 c3 _ (o ++ (x :: m1)) rfl (by simp) R3 (by simp; omega) mx3 _ _ 0 [] rfl rfl J2 (by simp) ?_; intro g4 c4 w4 R4 G4 wh4 mx4; have hb4 := Below.grown hb3 G4 hb3.size (fun k e => by cases e; omega); have lg4 : w.heap.size <= g4 := (by have := hb3.size; rcases wh4 with e | e <;> omega)))
    have E := END.out w4 g4 c4 (by simp) R4 lg4
    go_ret
    exact ⟨⟨_, _, by rw [<- E.2]; simp, E.1, lg4⟩, hb4⟩
   ·clear END
    obtain ⟨ab, ao, ac, rfl, ax, al1⟩ := i1.first
    obtain ⟨bb, bo, bc, rfl, bx, bl1⟩ := i2.first
    rw [List.length_cons, List.length_cons] at tot
    have bx' := cell_later hb bx
    have ax' := cell_later hb ax
    have hs0 : Below wr.heap.size wr wr.drew := (Below.refl _ _).drew
    have lt1 : (0 : Int) < (m1.length : Int) + 1 := by omega
    have lt2 : (0 : Int) < (m2.length : Int) + 1 := by omega
    go_wp2_with fail
    refine Disk.z_plain 99 (fun W' => Below wr.heap.size wr W') hmx hs0 (fun hs => ?_)
    clear hs0
    generalize wr.drew = wd at hs ⊢
    refine Disk.zt0 0 22 (v := .func (.func 60) #[] #[]) rfl rfl hs ?_
    simp only [zA, zB, zC]
    refine Disk.zt0 1 23 (v := .slice (some ⟨bb, bo, none⟩) (m2.length + 1) bc) rfl rfl hs ?_
    simp only [zA, zB, zC]
    refine Disk.zt0 2 24 (v := .pointer (some ⟨bb, bo, none⟩)) rfl rfl hs ?_
    simp only [zA, zB, zC]
    refine Disk.zt 3 25 (v := .int .i64 y) rfl rfl hs (fun W' hSw => (by
     have q := cell_later hSw bx'
     go_simp; first | done | with_reducible rfl)) ?_
    simp only [zA, zB, zC]
    refine Disk.zt0 4 26 (v := .slice (some ⟨ab, ao, none⟩) (m1.length + 1) ac) rfl rfl hs ?_
    simp only [zA, zB, zC]
    refine Disk.zt0 5 27 (v := .pointer (some ⟨ab, ao, none⟩)) rfl rfl hs ?_
    simp only [zA, zB, zC]
    refine Disk.zt 6 28 (v := .int .i64 x) rfl rfl hs (fun W' hSw => (by
     have q := cell_later hSw ax'
     go_simp; first | done | with_reducible rfl)) ?_
    simp only [zA, zB, zC]
    refine Disk.zc 7 29 rfl rfl (f := 60) (args := #[.int .i64 y, .int .i64 x]) (w0 := wd) ?_
    refine (isLower_any y x wd).mono ?_
    rintro e wq ⟨rfl, eq⟩
    obtain rfl := eq.symm
    clear eq
    refine ⟨_, rfl, .inr hs, ?_⟩
    simp only [zA, zB, zC]
    refine Disk.z_done (by kernel_rfl) ?_ _
    have hbq := bel_after hb hs
    replace RO := RO.later hs
    have ax2 := cell_later hs ax'
    have bx2 := cell_later hs bx'
    generalize wd = wq at *
    clear hs hb ax' bx' ax bx
    by_cases hyx : y < x
    ·have al := bel_one wq (.cells #[.int .i64 y] 2)
     have RO2 := RO.later al
     have hbal := bel_after hbq al
     have I1 : IR (wq.alloc (.cells #[.int .i64 y] 2)) (.slice (some ⟨wq.heap.size, 0, none⟩) 1 1) [y] := ⟨_, 1, rfl, Nat.le_refl _, fun i hi => ⟨_, _, rfl, by
      obtain rfl : i = 0 := by simpa using hi
      simp⟩⟩
     go_wp2_with (at_builtin; refine app_ri _ rfl _ _ rfl g c o.length o rfl rfl RO2 (by omega) hc _ _ 1 [y] rfl rfl I1 (by simp) ?_; intro g1 c1 w3 R3 G3 wh3 mx3)
     have lg1 : w.heap.size <= g1 := by have := hbal.size; rcases wh3 with e | e <;> omega
     have hb3 := Below.grown hbal G3 hbal.size (fun k e => by cases e; omega)
     have S2 : Hid ((o ++ [y]) ++ List.merge (x :: m1) m2 leI = List.merge l1 l2 leI /\ (o ++ [y]).length + (x :: m1).length + m2.length = l1.length + l2.length) := (by
      refine ⟨?_, by simp; omega⟩
      rw [<- S.out.1, List.cons_merge_cons_neg _ _ _ (by unfold leI; simp; omega)]
      simp)
     by_cases hc1 : bc = 1
     ·have hm2 : m2 = [] := by
       rcases m2 with _ | ⟨z, m2⟩
       ·rfl
       ·simp only [List.length_cons] at bl1; omega
      subst hm2
      subst hc1
      go_wp2
      exact ⟨⟨⟨x :: m1, [], o ++ [y], g1, c1, i1, i2.tail _ _ rfl (.inl rfl), by simp, R3, mx3, lg1, hb3, S2⟩⟩, by simp [lenV]⟩
     ·have hcl : ¬ bc < 1 := by omega
      go_wp2
      exact ⟨⟨⟨x :: m1, m2, o ++ [y], g1, c1, i1, i2.tail _ _ rfl (.inr rfl), by simp, R3, mx3, lg1, hb3, S2⟩⟩, by simp [lenV]⟩
    ·have al := bel_one wq (.cells #[.int .i64 x] 2)
     have RO2 := RO.later al
     have hbal := bel_after hbq al
     have I1 : IR (wq.alloc (.cells #[.int .i64 x] 2)) (.slice (some ⟨wq.heap.size, 0, none⟩) 1 1) [x] := ⟨_, 1, rfl, Nat.le_refl _, fun i hi => ⟨_, _, rfl, by
      obtain rfl : i = 0 := by simpa using hi
      simp⟩⟩
     go_wp2_with (at_builtin; refine app_ri _ rfl _ _ rfl g c o.length o rfl rfl RO2 (by omega) hc _ _ 1 [x] rfl rfl I1 (by simp) ?_; intro g1 c1 w3 R3 G3 wh3 mx3)
     have lg1 : w.heap.size <= g1 := by have := hbal.size; rcases wh3 with e | e <;> omega
     have hb3 := Below.grown hbal G3 hbal.size (fun k e => by cases e; omega)
     have S2 : Hid ((o ++ [x]) ++ List.merge m1 (y :: m2) leI = List.merge l1 l2 leI /\ (o ++ [x]).length + m1.length + (y :: m2).length = l1.length + l2.length) := (by
      refine ⟨?_, by simp; omega⟩
      rw [<- S.out.1, List.cons_merge_cons_pos _ _ _ (by unfold leI; simp; omega)]
      simp)
     by_cases hc1 : ac = 1
     ·have hm1 : m1 = [] := by
       rcases m1 with _ | ⟨z, m1⟩
       ·rfl
       ·simp only [List.length_cons] at al1; omega
      subst hm1
      subst hc1
      go_wp2
      exact ⟨⟨⟨[], y :: m2, o ++ [x], g1, c1, i1.tail _ _ rfl (.inl rfl), i2, by simp, R3, mx3, lg1, hb3, S2⟩⟩, by simp [lenV]⟩
     ·have hcl : ¬ ac < 1 := by omega
      go_wp2
      exact ⟨⟨⟨m1, y :: m2, o ++ [x], g1, c1, i1.tail _ _ rfl (.inr rfl), i2, by simp, R3, mx3, lg1, hb3, S2⟩⟩, by simp [lenV]⟩
end Go.Proofs.YthdffigckohpoaaGreat
