/- What recovers at the faces of a commit. -/
import Derived.Test.YtfcenohgfhefiaaGreatDoorRows
import Derived.WalkKit
import Derived.WalkSpells
import Derived.WalkLawsBesides
import Derived.WalkSmall
import Derived.Defers
import Derived.Recover
namespace Go.Proofs.YtfcenohgfhefiaaGreatDoor
open Go.RowKit

theorem scriptCatch (u : TypeId) (pv : Value) (older : List PanicEntry) (w : World) :
    CallsD Tryz.prog 56 #[] (.panicking ({ v := .iface u pv, recovered := false } :: older)) w fun e u' w' => e = .returned (.tuple #[]) ∧ u' = .panicking ({ v := .iface u pv, recovered := true } :: older) ∧ w' = w := by
  refine callsD_of_wpS Tryz.func56 rfl fun c₀ cs hu => ?_
  apply wpS_region
  simp [wpOpsS, go_sem, recoverD, hu, Tryz.ntmps56, bodyPostS, results, Tryz.results56]
theorem scriptIdle (w : World) :
    CallsD Tryz.prog 56 #[] .returning w fun e u' w' => e = .returned (.tuple #[]) ∧ u' = .returning ∧ w' = w := by
  refine callsD_of_wpS Tryz.func56 rfl fun c₀ cs hu => ?_
  apply wpS_region
  cases c₀
  simp_all [wpOpsS, go_sem, recoverD, Tryz.ntmps56, bodyPostS, results, Tryz.results56]
theorem commitCatch (u : TypeId) (pv : Value) (older : List PanicEntry) (w : World) :
    CallsD Tryz.prog 50 #[] (.panicking ({ v := .iface u pv, recovered := false } :: older)) w fun e u' w' => e = .returned (.tuple #[]) ∧ u' = .panicking ({ v := .iface u pv, recovered := true } :: older) ∧ w' = w := by
  refine callsD_of_wpS Tryz.func50 rfl fun c₀ cs hu => ?_
  apply wpS_region
  simp [wpOpsS, go_sem, recoverD, hu, Tryz.ntmps50, bodyPostS, results, Tryz.results50]
theorem commitIdle (w : World) :
    CallsD Tryz.prog 50 #[] .returning w fun e u' w' => e = .returned (.tuple #[]) ∧ u' = .returning ∧ w' = w := by
  refine callsD_of_wpS Tryz.func50 rfl fun c₀ cs hu => ?_
  apply wpS_region
  cases c₀
  simp_all [wpOpsS, go_sem, recoverD, Tryz.ntmps50, bodyPostS, results, Tryz.results50]
theorem cutCatch (u : TypeId) (pv : Value) (older : List PanicEntry) (w : World) :
    CallsD Tryz.prog 62 #[] (.panicking ({ v := .iface u pv, recovered := false } :: older)) w fun e u' w' => e = .returned (.tuple #[]) ∧ u' = .panicking ({ v := .iface u pv, recovered := true } :: older) ∧ w' = w := by
  refine callsD_of_wpS Tryz.func62 rfl fun c₀ cs hu => ?_
  apply wpS_region
  simp [wpOpsS, go_sem, recoverD, hu, Tryz.ntmps62, bodyPostS, results, Tryz.results62]
theorem cutIdle (w : World) :
    CallsD Tryz.prog 62 #[] .returning w fun e u' w' => e = .returned (.tuple #[]) ∧ u' = .returning ∧ w' = w := by
  refine callsD_of_wpS Tryz.func62 rfl fun c₀ cs hu => ?_
  apply wpS_region
  cases c₀
  simp_all [wpOpsS, go_sem, recoverD, Tryz.ntmps62, bodyPostS, results, Tryz.results62]

end Go.Proofs.YtfcenohgfhefiaaGreatDoor
