import Derived.Test.YtgnbibinclepcaaGreatDoorZHImpS
import Derived.Laws.StructEq
import Derived.Laws.Tables
import Derived.Laws.Cover2
import Derived.KernelRfl
namespace Go.Proofs.YtgnbibinclepcaaGreatDoor
open Go.RowKit
theorem eqS (a b c d e f:Int) (w:World):(Op.equalIn 9999 207 (.agg #[.int .i64 a,.int .i64 b,.int .i64 c]) (.agg #[.int .i64 d,.int .i64 e,.int .i64 f])).run Tryz.prog w=.ok (a == d && (b == e && c == f)) w:=by
 have u2:=Tryz.underlying2
 have a2:=Tryz.isAgg2
 have z2:=Tryz.sizeOf2
 have hS:Tryz.prog.underlying 207=some (.struct (Tryz.prog.fieldsOf 207)):=by kernel_rfl
 have hp:Tryz.prog.stoodInHeld 207=false:=by kernel_rfl
 rw [show (9999:Nat)=9998+1 from rfl,run_equalIn_agg w 9998 207 _ _ hS hp]
 simp only [Program.fieldsOf,Tryz.underlying207]
 go_simp
 by_cases h1:a=d <;> by_cases h2:b=e <;> by_cases h3:c=f <;> simp [h1,h2,h3]
theorem eqA (a0 a1 a2 a3 u0 u1 u2 u3:Int) (w:World):(Op.equalIn 10000 208 (.agg #[.int .i64 0,.int .i64 a0,.int .i64 2000,.int .i64 2000,.int .i64 a1,.int .i64 2600,.int .i64 2600,.int .i64 a2,.int .i64 2900,.int .i64 2900,.int .i64 a3,.int .i64 3200]) (.agg #[.int .i64 0,.int .i64 u0,.int .i64 2000,.int .i64 2000,.int .i64 u1,.int .i64 2600,.int .i64 2600,.int .i64 u2,.int .i64 2900,.int .i64 2900,.int .i64 u3,.int .i64 3200])).run Tryz.prog w=.ok (a0 == u0 && (a1 == u1 && (a2 == u2 && a3 == u3))) w:=by
 have z61:=Tryz.sizeOf207
 have g61:=Tryz.isAgg207
 have e:=eqS
 rw [show (10000:Nat)=9999+1 from rfl,Op.equalIn]
 simp only [Sem.run_bind,run_underlying Tryz.underlying208,Result.andThen_ok]
 simp only [Std.Legacy.Range.forIn_eq_forIn_range',Std.Legacy.Range.size,Nat.sub_zero,Nat.add_sub_cancel,Nat.div_one,List.range'_succ,List.range'_zero,List.forIn_cons,List.forIn_nil]
 go_simp
 by_cases h1:a0=u0 <;> by_cases h2:a1=u1 <;> by_cases h3:a2=u2 <;> by_cases h4:a3=u3 <;> simp [h1,h2,h3,h4]
end Go.Proofs.YtgnbibinclepcaaGreatDoor
