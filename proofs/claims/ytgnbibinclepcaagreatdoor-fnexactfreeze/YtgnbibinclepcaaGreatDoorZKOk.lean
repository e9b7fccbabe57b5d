import Derived.Test.YtgnbibinclepcaaGreatDoorZP16
import Derived.Test.YtgnbibinclepcaaGreatDoorZKMach
namespace Go.Proofs.YtgnbibinclepcaaGreatDoor
open Go.RowKit
set_option maxRecDepth 100000 in
set_option maxHeartbeats 1600000 in
theorem implVmOk_any (v:Value) (m:Mp) (w:World) (hv:VR w v m) (hs:smM m 1000000000) :
  Calls Tryz.prog 34 #[v] w fun e w'=>e=.returned (.bool (okM m.h m.prog m.pc m.out m.st && partsB m.h))/\Below w.heap.size w w':=by
 obtain ⟨r,hr0⟩:∃ r,r=(okM m.h m.prog m.pc m.out m.st && partsB m.h):=⟨_,rfl⟩
 rw [<- hr0]
 replace hr0:Hid (r=(okM m.h m.prog m.pc m.out m.st && partsB m.h)):=hr0
 obtain ⟨v1,v2,v3,vp,vo,rfl,i1,i2,i3,ip,io⟩:=hv
 obtain ⟨s1,s2,s3,s4,s5⟩:=hs
 have hb0:=bel_one w (.cells #[v1,v2,.int .i64 m.h.old,.int .i64 m.h.eden,.int .i64 m.h.surv,.bool m.h.flip,.int .i64 m.h.hash,v3,vp,.int .i64 m.pc,vo,.int .i64 m.st] 29)
 have B0:Bk (w.alloc (.cells #[v1,v2,.int .i64 m.h.old,.int .i64 m.h.eden,.int .i64 m.h.surv,.bool m.h.flip,.int .i64 m.h.hash,v3,vp,.int .i64 m.pc,vo,.int .i64 m.st] 29)) w.heap.size #[v1,v2,.int .i64 m.h.old,.int .i64 m.h.eden,.int .i64 m.h.surv,.bool m.h.flip,.int .i64 m.h.hash,v3,vp,.int .i64 m.pc,vo,.int .i64 m.st] 29:=Bk.new w _ _
 have x0:=B0.cell 0 (v1) rfl
 have x1:=B0.cell 1 (v2) rfl
 have x2:=B0.cell 2 (.int .i64 m.h.old) rfl
 have x3:=B0.cell 3 (.int .i64 m.h.eden) rfl
 have x4:=B0.cell 4 (.int .i64 m.h.surv) rfl
 have x5:=B0.cell 5 (.bool m.h.flip) rfl
 have x6:=B0.cell 6 (.int .i64 m.h.hash) rfl
 have x7:=B0.cell 7 (v3) rfl
 have x8:=B0.cell 8 (vp) rfl
 have x9:=B0.cell 9 (.int .i64 m.pc) rfl
 have Bg:=B0.cell 10 (vo) rfl
 have Bh:=B0.cell 11 (.int .i64 m.st) rfl
 have MO:=machineOf_any v1 v2 v3 vp vo m.h m.prog m.pc m.out m.st _ (i1.later hb0) (i2.later hb0) (i3.later hb0) (ip.later hb0) (io.later hb0) s1 s2 s3 s4 s5
 go_enter Tryz.func34,Tryz.ntmps34
 go_wp2_with fail
 refine MO.mono ?_
 clear MO x0 x1 x2 x3 x4 x5 x6 x7 x8 x9 Bg Bh B0
 rintro e w1 ⟨mk,hb1⟩
 have bw1:=bel_after hb0 hb1
 rcases mk with ⟨ok,g1,g2,g3,P,O,oa,oc,rfl,-,-⟩|⟨ok,rfl⟩
 ·have R:Hid (r=partsB m.h):=(by rw [hr0.out,ok,Bool.true_and]:r=partsB m.h)
  clear hr0
  generalize partsB m.h=pb at *
  go_wp2
  go_ret
  exact ⟨wret_bool R.out.symm,bw1.alloc bw1.size _⟩
 ·have R:Hid (r=false):=(by rw [hr0.out,ok,Bool.false_and]:r=false)
  clear hr0
  go_wp2
  go_ret
  exact ⟨wret_bool R.out.symm,bw1.alloc bw1.size _⟩
set_option maxRecDepth 100000 in
set_option maxHeartbeats 1600000 in
theorem eqVm_any (v u:Value) (m:Mp) (w:World) (hv:VR w v m) (hu:VR w u m) (hs:smM m 1000000000) :
  Calls Tryz.prog 22 #[v,u] w fun e w'=>e=.returned (.bool true)/\Below w.heap.size w w':=by
 obtain ⟨v1,v2,v3,vp,vo,rfl,i1,i2,i3,ip,io⟩:=hv
 obtain ⟨u1,u2,u3,up,uo,rfl,j1,j2,j3,jp,jo⟩:=hu
 obtain ⟨s1,s2,s3,s4,s5⟩:=hs
 have hb0:Below w.heap.size w ((w.alloc (.cells #[v1,v2,.int .i64 m.h.old,.int .i64 m.h.eden,.int .i64 m.h.surv,.bool m.h.flip,.int .i64 m.h.hash,v3,vp,.int .i64 m.pc,vo,.int .i64 m.st] 29)).alloc (.cells #[u1,u2,.int .i64 m.h.old,.int .i64 m.h.eden,.int .i64 m.h.surv,.bool m.h.flip,.int .i64 m.h.hash,u3,up,.int .i64 m.pc,uo,.int .i64 m.st] 29)):=bel_after (bel_one _ _) (bel_one _ _)
 have B0:Bk ((w.alloc (.cells #[v1,v2,.int .i64 m.h.old,.int .i64 m.h.eden,.int .i64 m.h.surv,.bool m.h.flip,.int .i64 m.h.hash,v3,vp,.int .i64 m.pc,vo,.int .i64 m.st] 29)).alloc (.cells #[u1,u2,.int .i64 m.h.old,.int .i64 m.h.eden,.int .i64 m.h.surv,.bool m.h.flip,.int .i64 m.h.hash,u3,up,.int .i64 m.pc,uo,.int .i64 m.st] 29)) w.heap.size #[v1,v2,.int .i64 m.h.old,.int .i64 m.h.eden,.int .i64 m.h.surv,.bool m.h.flip,.int .i64 m.h.hash,v3,vp,.int .i64 m.pc,vo,.int .i64 m.st] 29:=(Bk.new w #[v1,v2,.int .i64 m.h.old,.int .i64 m.h.eden,.int .i64 m.h.surv,.bool m.h.flip,.int .i64 m.h.hash,v3,vp,.int .i64 m.pc,vo,.int .i64 m.st] 29).alloc _
 have C0:Bk ((w.alloc (.cells #[v1,v2,.int .i64 m.h.old,.int .i64 m.h.eden,.int .i64 m.h.surv,.bool m.h.flip,.int .i64 m.h.hash,v3,vp,.int .i64 m.pc,vo,.int .i64 m.st] 29)).alloc (.cells #[u1,u2,.int .i64 m.h.old,.int .i64 m.h.eden,.int .i64 m.h.surv,.bool m.h.flip,.int .i64 m.h.hash,u3,up,.int .i64 m.pc,uo,.int .i64 m.st] 29)) (w.heap.size+1) #[u1,u2,.int .i64 m.h.old,.int .i64 m.h.eden,.int .i64 m.h.surv,.bool m.h.flip,.int .i64 m.h.hash,u3,up,.int .i64 m.pc,uo,.int .i64 m.st] 29:=by
  have q:=Bk.new (w.alloc (.cells #[v1,v2,.int .i64 m.h.old,.int .i64 m.h.eden,.int .i64 m.h.surv,.bool m.h.flip,.int .i64 m.h.hash,v3,vp,.int .i64 m.pc,vo,.int .i64 m.st] 29)) #[u1,u2,.int .i64 m.h.old,.int .i64 m.h.eden,.int .i64 m.h.surv,.bool m.h.flip,.int .i64 m.h.hash,u3,up,.int .i64 m.pc,uo,.int .i64 m.st] 29
  rw [World.size_alloc] at q
  exact q
 have EH:=eqHeap_any (.agg #[v1,v2,.int .i64 m.h.old,.int .i64 m.h.eden,.int .i64 m.h.surv,.bool m.h.flip,.int .i64 m.h.hash,v3]) (.agg #[u1,u2,.int .i64 m.h.old,.int .i64 m.h.eden,.int .i64 m.h.surv,.bool m.h.flip,.int .i64 m.h.hash,u3]) m.h _ ⟨_,_,_,rfl,i1.later hb0,i2.later hb0,i3.later hb0⟩ ⟨_,_,_,rfl,j1.later hb0,j2.later hb0,j3.later hb0⟩ (by omega) (by omega) (by omega)
 have x0:=B0.cell 0 (v1) rfl
 have x1:=B0.cell 1 (v2) rfl
 have x2:=B0.cell 2 (.int .i64 m.h.old) rfl
 have x3:=B0.cell 3 (.int .i64 m.h.eden) rfl
 have x4:=B0.cell 4 (.int .i64 m.h.surv) rfl
 have x5:=B0.cell 5 (.bool m.h.flip) rfl
 have x6:=B0.cell 6 (.int .i64 m.h.hash) rfl
 have x7:=B0.cell 7 (v3) rfl
 have x8:=B0.cell 8 (vp) rfl
 have x9:=B0.cell 9 (.int .i64 m.pc) rfl
 have Bg:=B0.cell 10 (vo) rfl
 have Bh:=B0.cell 11 (.int .i64 m.st) rfl
 have y0:=C0.cell 0 (u1) rfl
 have y1:=C0.cell 1 (u2) rfl
 have y2:=C0.cell 2 (.int .i64 m.h.old) rfl
 have y3:=C0.cell 3 (.int .i64 m.h.eden) rfl
 have y4:=C0.cell 4 (.int .i64 m.h.surv) rfl
 have y5:=C0.cell 5 (.bool m.h.flip) rfl
 have y6:=C0.cell 6 (.int .i64 m.h.hash) rfl
 have y7:=C0.cell 7 (u3) rfl
 have y8:=C0.cell 8 (up) rfl
 have y9:=C0.cell 9 (.int .i64 m.pc) rfl
 have y10:=C0.cell 10 (uo) rfl
 have y11:=C0.cell 11 (.int .i64 m.st) rfl
 go_enter Tryz.func22,Tryz.ntmps22
 go_wp2_with fail
 refine EH.mono ?_
 clear EH x0 y0 x1 y1 x2 y2 x3 y3 x4 y4 x5 y5 x6 y6 x7 y7 x8 y8 x9 y9 Bg y10 Bh y11
 rintro e w1 ⟨rfl,hb1⟩
 have bw1:=bel_after hb0 hb1
 have B1:=B0.later hb1
 have C1:=C0.later hb1
 have x8:=B1.cell 8 vp rfl
 have y8:=C1.cell 8 up rfl
 have EC:=eqCodes_any vp up m.prog m.prog w1 (ip.later bw1) (jp.later bw1) (by omega) (by omega)
 rw [decide_eq_true rfl] at EC
 clear B0 C0
 go_wp2_with fail
 refine EC.mono ?_
 clear EC x8 y8
 rintro e w2 ⟨rfl,hb2⟩
 have bw2:=bel_after bw1 hb2
 have B2:=B1.later hb2
 have C2:=C1.later hb2
 have x9:=B2.cell 9 (.int .i64 m.pc) rfl
 have y9:=C2.cell 9 (.int .i64 m.pc) rfl
 have Bg:=B2.cell 10 vo rfl
 have y10:=C2.cell 10 uo rfl
 have EI:=eqInt64S_any vo uo m.out m.out w2 (io.later bw2) (jo.later bw2) (by omega) (by omega)
 rw [decide_eq_true rfl] at EI
 have np:(m.pc != m.pc)=false:=by simp
 have ns:(m.st != m.st)=false:=by simp
 clear B1 C1
 go_wp2_with fail
 refine EI.mono ?_
 clear EI x9 y9 Bg y10
 rintro e w3 ⟨rfl,hb3⟩
 have bw3:=bel_after bw2 hb3
 have Bh:=(B2.later hb3).cell 11 (.int .i64 m.st) rfl
 have y11:=(C2.later hb3).cell 11 (.int .i64 m.st) rfl
 go_wp2
 go_ret
 exact ⟨rfl,bw3⟩
end Go.Proofs.YtgnbibinclepcaaGreatDoor
