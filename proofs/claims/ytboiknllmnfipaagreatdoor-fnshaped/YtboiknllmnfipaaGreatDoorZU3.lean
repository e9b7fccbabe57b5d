
import Derived.Test.YtboiknllmnfipaaGreatDoorZU1
import Derived.Laws.StructEq
import Derived.Laws.Tables
import Derived.Laws.Cover2
import Derived.KernelRfl
/- heapSpaces of the program. -/
namespace Go.Proofs.YtboiknllmnfipaaGreatDoor
open Go.RowKit
def su2 (h:Hp):Int:=if h.flip=true then 2600 else h.surv
def su3 (h:Hp):Int:=if h.flip=true then h.surv else 2900
set_option maxHeartbeats 1600000 in
theorem Xh (v:Value) (h:Hp) (w:World) (hv:HR w v h) :
  Calls Tryz.prog 75 #[v] w fun e w'=>e=.returned (.agg #[.int .i64 0,.int .i64 h.old,.int .i64 2000,.int .i64 2000,.int .i64 h.eden,.int .i64 2600,.int .i64 2600,.int .i64 (su2 h),.int .i64 2900,.int .i64 2900,.int .i64 (su3 h),.int .i64 3200])/\Below w.heap.size w w':=by
 obtain ⟨v1,v2,v3,rfl,i1,i2,i3⟩:=hv
 cases hf:h.flip
 ·have e2:Hid (su2 h=h.surv):=(by unfold su2;rw [hf];rfl:su2 h=h.surv)
  have e3:Hid (su3 h=2900):=(by unfold su3;rw [hf];rfl:su3 h=2900)
  clear i1 i2 i3
  go_enter Tryz.func75,Tryz.ntmps75
  go_wp2
  exact bodyPost_ret (v:=.agg #[.int .i64 0,.int .i64 h.old,.int .i64 2000,.int .i64 2000,.int .i64 h.eden,.int .i64 2600,.int .i64 2600,.int .i64 h.surv,.int .i64 2900,.int .i64 2900,.int .i64 2900,.int .i64 3200]) (by simp [results,Tryz.results75,go_sem]) rfl ⟨by rw [e2.out,e3.out],C3 (C3 (C5 _ _) (C5 _ _)) (C5 _ _)⟩
 ·have e2:Hid (su2 h=2600):=(by unfold su2;rw [hf];rfl:su2 h=2600)
  have e3:Hid (su3 h=h.surv):=(by unfold su3;rw [hf];rfl:su3 h=h.surv)
  clear i1 i2 i3
  go_enter Tryz.func75,Tryz.ntmps75
  go_wp2
  exact bodyPost_ret (v:=.agg #[.int .i64 0,.int .i64 h.old,.int .i64 2000,.int .i64 2000,.int .i64 h.eden,.int .i64 2600,.int .i64 2600,.int .i64 2600,.int .i64 2900,.int .i64 2900,.int .i64 h.surv,.int .i64 3200]) (by simp [results,Tryz.results75,go_sem]) rfl ⟨by rw [e2.out,e3.out],C3 (C3 (C5 _ _) (C5 _ _)) (C5 _ _)⟩
end Go.Proofs.YtboiknllmnfipaaGreatDoor
/- What it is for two arrays of spaces to be alike. -/
namespace Go.Proofs.YtboiknllmnfipaaGreatDoor
open Go.RowKit
theorem eqS (a b c d e f:Int) (w:World):(Op.equalIn 9999 102 (.agg #[.int .i64 a,.int .i64 b,.int .i64 c]) (.agg #[.int .i64 d,.int .i64 e,.int .i64 f])).run Tryz.prog w=.ok (a == d && (b == e && c == f)) w:=by
 have u2:=Tryz.underlying2
 have a2:=Tryz.isAgg2
 have z2:=Tryz.sizeOf2
 have hS:Tryz.prog.underlying 102=some (.struct (Tryz.prog.fieldsOf 102)):=by kernel_rfl
 have hp:Tryz.prog.stoodInHeld 102=false:=by kernel_rfl
 rw [show (9999:Nat)=9998+1 from rfl,run_equalIn_agg w 9998 102 _ _ hS hp]
 simp only [Program.fieldsOf,Tryz.underlying102]
 go_simp
 by_cases h1:a=d <;> by_cases h2:b=e <;> by_cases h3:c=f <;> simp [h1,h2,h3]
theorem eqA (a0 a1 a2 a3 u0 u1 u2 u3:Int) (w:World):(Op.equalIn 10000 103 (.agg #[.int .i64 0,.int .i64 a0,.int .i64 2000,.int .i64 2000,.int .i64 a1,.int .i64 2600,.int .i64 2600,.int .i64 a2,.int .i64 2900,.int .i64 2900,.int .i64 a3,.int .i64 3200]) (.agg #[.int .i64 0,.int .i64 u0,.int .i64 2000,.int .i64 2000,.int .i64 u1,.int .i64 2600,.int .i64 2600,.int .i64 u2,.int .i64 2900,.int .i64 2900,.int .i64 u3,.int .i64 3200])).run Tryz.prog w=.ok (a0 == u0 && (a1 == u1 && (a2 == u2 && a3 == u3))) w:=by
 have z61:=Tryz.sizeOf102
 have g61:=Tryz.isAgg102
 have e:=eqS
 rw [show (10000:Nat)=9999+1 from rfl,Op.equalIn]
 simp only [Sem.run_bind,run_underlying Tryz.underlying103,Result.andThen_ok]
 simp only [Std.Legacy.Range.forIn_eq_forIn_range',Std.Legacy.Range.size,Nat.sub_zero,Nat.add_sub_cancel,Nat.div_one,List.range'_succ,List.range'_zero,List.forIn_cons,List.forIn_nil]
 go_simp
 by_cases h1:a0=u0 <;> by_cases h2:a1=u1 <;> by_cases h3:a2=u2 <;> by_cases h4:a3=u3 <;> simp [h1,h2,h3,h4]
end Go.Proofs.YtboiknllmnfipaaGreatDoor
