import Derived.Test.YtgnbibinclepcaaGreatDoorZHImpA
namespace Go.Proofs.YtgnbibinclepcaaGreatDoor
open Go.RowKit
def su2 (h:Hp):Int:=if h.flip=true then 2600 else h.surv
def su3 (h:Hp):Int:=if h.flip=true then h.surv else 2900
set_option maxHeartbeats 1600000 in
theorem heapSpaces_any (v:Value) (h:Hp) (w:World) (hv:HR w v h) :
  Calls Tryz.prog 169 #[v] w fun e w'=>e=.returned (.agg #[.int .i64 0,.int .i64 h.old,.int .i64 2000,.int .i64 2000,.int .i64 h.eden,.int .i64 2600,.int .i64 2600,.int .i64 (su2 h),.int .i64 2900,.int .i64 2900,.int .i64 (su3 h),.int .i64 3200])/\Below w.heap.size w w':=by
 obtain ⟨v1,v2,v3,rfl,i1,i2,i3⟩:=hv
 cases hf:h.flip
 ·have e2:Hid (su2 h=h.surv):=(by unfold su2;rw [hf];rfl:su2 h=h.surv)
  have e3:Hid (su3 h=2900):=(by unfold su3;rw [hf];rfl:su3 h=2900)
  clear i1 i2 i3
  go_enter Tryz.func169,Tryz.ntmps169
  go_wp2
  exact bodyPost_ret (v:=.agg #[.int .i64 0,.int .i64 h.old,.int .i64 2000,.int .i64 2000,.int .i64 h.eden,.int .i64 2600,.int .i64 2600,.int .i64 h.surv,.int .i64 2900,.int .i64 2900,.int .i64 2900,.int .i64 3200]) (by simp [results,Tryz.results169,go_sem]) rfl ⟨by rw [e2.out,e3.out],bel_after (bel_after (bel_one _ _) (bel_one _ _)) (bel_one _ _)⟩
 ·have e2:Hid (su2 h=2600):=(by unfold su2;rw [hf];rfl:su2 h=2600)
  have e3:Hid (su3 h=h.surv):=(by unfold su3;rw [hf];rfl:su3 h=h.surv)
  clear i1 i2 i3
  go_enter Tryz.func169,Tryz.ntmps169
  go_wp2
  exact bodyPost_ret (v:=.agg #[.int .i64 0,.int .i64 h.old,.int .i64 2000,.int .i64 2000,.int .i64 h.eden,.int .i64 2600,.int .i64 2600,.int .i64 2600,.int .i64 2900,.int .i64 2900,.int .i64 h.surv,.int .i64 3200]) (by simp [results,Tryz.results169,go_sem]) rfl ⟨by rw [e2.out,e3.out],bel_after (bel_after (bel_one _ _) (bel_one _ _)) (bel_one _ _)⟩
end Go.Proofs.YtgnbibinclepcaaGreatDoor
