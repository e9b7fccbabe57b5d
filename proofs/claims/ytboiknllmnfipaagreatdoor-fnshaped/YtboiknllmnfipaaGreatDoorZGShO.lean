import Derived.Test.YtboiknllmnfipaaGreatDoorZU13
import Derived.Test.YtboiknllmnfipaaGreatDoorZU6
namespace Go.Proofs.YtboiknllmnfipaaGreatDoor
open Go.RowKit
set_option maxRecDepth 100000 in
set_option maxHeartbeats 1600000 in
theorem V4 (v:Value) (h:Hp) (w:World) (hv:HR w v h) (hro:h.roots.length<=1000000000000) (hke:h.kept.length<=1000000000000) :
  Calls Tryz.prog 13 #[v] w fun x w'=>(∃ v',x=.returned v' /\ GN w.heap.size w' v' (shC h))/\Below w.heap.size w w':=by
 obtain ⟨v1,v2,v3,rfl,i1,i2,i3⟩:=id hv
 have X0:=(Bx.new w v1 v2 v3 h 30).later (C5 _ (.cells #[.slice none 0 0,.slice none 0 0,.int .i64 0] 27))
 have RS0:=gres w #[v1,v2,.int .i64 h.old,.int .i64 h.eden,.int .i64 h.surv,.bool h.flip,.int .i64 h.hash,v3] 30
 generalize hW0:(w.alloc (.cells #[v1,v2,.int .i64 h.old,.int .i64 h.eden,.int .i64 h.surv,.bool h.flip,.int .i64 h.hash,v3] 30)).alloc (.cells #[.slice none 0 0,.slice none 0 0,.int .i64 0] 27)=W0 at X0 RS0
 have Z0:W0.heap.size=w.heap.size+2:=by rw [<- hW0];simp
 have B0:Below w.heap.size w W0:=by rw [<- hW0];exact C3 (C5 _ _) (C5 _ _)
 have C:=N4 _ h _ (hv.later B0) hro hke
 have E:=Jed h
 obtain ⟨c0,c1,c2,c3,c4,c5,c6,c7⟩:=id X0
 cases hk:okC h
 ·rw [hk] at C E
  have E' : Hid (shC h=gr0):=E
  clear E i1 i2 i3
  go_enter Tryz.func13,Tryz.ntmps13
  go_wp2_with fail
  refine C.mono ?_
  rintro x w1 ⟨rfl,hb1⟩
  have RR:=RS0.of_block (hb1.block _ RS0.lt)
  have r0:w1.cell? ⟨w.heap.size+1,0,none⟩=some (.slice none 0 0):=RR.cell (i:=0) (by omega)
  have r1:w1.cell? ⟨w.heap.size+1,1,none⟩=some (.slice none 0 0):=RR.cell (i:=1) (by omega)
  have r2:w1.cell? ⟨w.heap.size+1,2,none⟩=some (.int .i64 0):=RR.cell (i:=2) (by omega)
  have f0:=RR.frozen 0
  have f1:=RR.frozen 1
  have f2:=RR.frozen 2
  have hbw1:=C3 B0 hb1
  have G:=(Rt (u0:=.slice none 0 0) (u1:=.slice none 0 0) (h2:=0) RR).2
  have bz:=hbw1.trans (G.below hbw1.size fun b _ e=>by omega)
  have FIN:Hid ((∃ v',Ending.returned (.agg #[.slice none 0 0,.slice none 0 0,.int .i64 0])=.returned v' /\ GN w.heap.size (((w1.setCell ⟨w.heap.size+1,0,none⟩ (.slice none 0 0)).setCell ⟨w.heap.size+1,1,none⟩ (.slice none 0 0)).setCell ⟨w.heap.size+1,2,none⟩ (.int .i64 0)) v' (shC h))/\Below w.heap.size w (((w1.setCell ⟨w.heap.size+1,0,none⟩ (.slice none 0 0)).setCell ⟨w.heap.size+1,1,none⟩ (.slice none 0 0)).setCell ⟨w.heap.size+1,2,none⟩ (.int .i64 0))):=⟨⟨_,rfl,by rw [E'.out];exact Jkx _ _⟩,bz⟩
  clear c0 c1 c2 c3 c4 c5 c6 c7 G bz
  go_wp2
  exact bodyPost_ret (v:=.agg #[.slice none 0 0,.slice none 0 0,.int .i64 0]) (by simp [results,Tryz.results13,go_sem,r0,r1,r2]) rfl FIN.out
 ·rw [hk] at C E
  have E' : Hid (shC h=shP h):=E
  have r:=Oa hk
  have SF:=fun W (hb:Below w.heap.size w W)=>Vv _ h (obC h) W (hv.later hb) r
  clear E hk i1 i2 i3 hv
  go_enter Tryz.func13,Tryz.ntmps13
  go_wp2_with fail
  refine C.mono ?_
  rintro x w1 ⟨rfl,hb1⟩
  have X1:=X0.later hb1
  have hbw1:=C3 B0 hb1
  clear c0 c1 c2 c3 c4 c5 c6 c7
  obtain ⟨c0,c1,c2,c3,c4,c5,c6,c7⟩:=id X1
  go_wp2_with fail
  refine (SF w1 hbw1).mono ?_
  rintro x w2 ⟨⟨gv,rfl,hg⟩,hb2⟩
  have hbw2:=C3 hbw1 hb2
  have s1:=hb1.size
  have RR:=(RS0.of_block (hb1.block _ RS0.lt)).of_block (hb2.block _ (by have:=RS0.lt;omega))
  obtain ⟨ra,rc,na,nc,hgv,hgr,hgn⟩:=hg.grn.gr.out
  subst hgv
  have G:=(Rt (u0:=.slice ra (shP h).roots.length rc) (u1:=.slice na (shP h).nodes.length nc) (h2:=(shP h).hash) RR)
  have fin:=(G.2.gn hg (fun b e=>by have:=RS0.lt;omega)).base (B':=w.heap.size) (by omega)
  have bz:=hbw2.trans (G.2.below hbw2.size fun b _ e=>by omega)
  have FIN:Hid ((∃ v',Ending.returned (.agg #[.slice ra (shP h).roots.length rc,.slice na (shP h).nodes.length nc,.int .i64 (shP h).hash])=.returned v' /\ GN w.heap.size (((w2.setCell ⟨w.heap.size+1,0,none⟩ (.slice ra (shP h).roots.length rc)).setCell ⟨w.heap.size+1,1,none⟩ (.slice na (shP h).nodes.length nc)).setCell ⟨w.heap.size+1,2,none⟩ (.int .i64 (shP h).hash)) v' (shC h))/\Below w.heap.size w (((w2.setCell ⟨w.heap.size+1,0,none⟩ (.slice ra (shP h).roots.length rc)).setCell ⟨w.heap.size+1,1,none⟩ (.slice na (shP h).nodes.length nc)).setCell ⟨w.heap.size+1,2,none⟩ (.int .i64 (shP h).hash))):=⟨⟨_,rfl,by rw [E'.out];exact fin⟩,bz⟩
  have r0:w2.cell? ⟨w.heap.size+1,0,none⟩=some (.slice none 0 0):=RR.cell (i:=0) (by omega)
  have r1:w2.cell? ⟨w.heap.size+1,1,none⟩=some (.slice none 0 0):=RR.cell (i:=1) (by omega)
  have r2:w2.cell? ⟨w.heap.size+1,2,none⟩=some (.int .i64 0):=RR.cell (i:=2) (by omega)
  have f0:=RR.frozen 0
  have f1:=RR.frozen 1
  have f2:=RR.frozen 2
  clear c0 c1 c2 c3 c4 c5 c6 c7 G bz fin hg hgr hgn E' SF
  generalize (shP h).roots.length=n1 at *
  generalize (shP h).nodes.length=n2 at *
  generalize (shP h).hash=hh at *
  go_wp2
  exact bodyPost_ret (v:=.agg #[.slice ra n1 rc,.slice na n2 nc,.int .i64 hh]) (by simp [results,Tryz.results13,go_sem,r0,r1,r2]) rfl FIN.out
end Go.Proofs.YtboiknllmnfipaaGreatDoor
