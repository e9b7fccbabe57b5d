
import Derived.Test.YtboiknllmnfipaaGreatDoorZLAny
import Derived.Test.YtboiknllmnfipaaGreatDoorZLGwD
import Derived.Test.YtboiknllmnfipaaGreatDoorZU10
import Derived.Test.YtboiknllmnfipaaGreatDoorZU6
import Derived.Test.YtboiknllmnfipaaGreatDoorZU9
/- The draw of FnHeaps: DrawHeapOk of the model. -/
namespace Go.Proofs.YtboiknllmnfipaaGreatDoor
open Go.RowKit
set_option maxRecDepth 100000 in
set_option maxHeartbeats 3200000 in
theorem Wz (cv:Value) (cs:List UInt8) (w:World) (hc:BR w cv cs) (hn:cs.length<=4096) :
  Calls Tryz.prog 28 #[cv] w fun x w'=>(∃ t v1 v2 v3,x=.returned (.agg #[v1,v2,.int .i64 t.old,.int .i64 t.eden,.int .i64 t.surv,.bool t.flip,.int .i64 t.hash,v3])/\HA w.heap.size w' t v1 v2 v3/\t.words.length<=3200/\t.roots.length<=21/\t.kept.length<=3201)/\Below w.heap.size w w':=by
 have h0:=C5 w (.cells #[.slice none 0 0,.slice none 0 0,.int .i64 0,.int .i64 0,.int .i64 0,.bool false,.int .i64 0,.slice none 0 0] 30)
 have R0:=I0 w #[.slice none 0 0,.slice none 0 0,.int .i64 0,.int .i64 0,.int .i64 0,.bool false,.int .i64 0,.slice none 0 0] 30
 have NW:=Zl cv cs _ (hc.later h0) hn
 have z0:(w.alloc (.cells #[.slice none 0 0,.slice none 0 0,.int .i64 0,.int .i64 0,.int .i64 0,.bool false,.int .i64 0,.slice none 0 0] 30)).heap.size=w.heap.size+1:=by simp
 go_enter Tryz.func28,Tryz.ntmps28
 go_wp2_with fail
 refine NW.mono ?_
 rintro x w1 ⟨N,rfl,hN,hN1,hb1,d1⟩
 clear NW
 rw [z0] at hN
 have R1:=World.rowIs.of_block R0 (hb1.block _ (by rw [z0];omega))
 go_wp2_with fail
 refine (d1.any hN1).mono ?_
 rintro x w2 ⟨⟨t,v1,v2,v3,rfl,ha,sz⟩,g2,d2⟩
 have R2:=World.rowIs.of_block R1 (g2.block _ (World.rowIs.lt R1) (fun e=>by have:=Option.some.inj e;omega))
 obtain ⟨p1,e1,rfl,-⟩:=IRs ha.w1
 obtain ⟨p2,e2,rfl,-⟩:=IRs (E9 ha.o2)
 obtain ⟨p3,e3,rfl,-⟩:=IRs (E9 ha.o3)
 have hw1:w.heap.size<w1.heap.size:=by omega
 have FIN:Hid (∀ W,w2.grownBy W (some w.heap.size)->HA w.heap.size W t (.slice p1 t.words.length e1) (.slice p2 t.roots.length e2) (.slice p3 t.kept.length e3)/\Below w.heap.size w W):=fun W g =>
  ⟨(ha.off g hw1).down (by omega),gbel (gbel (C3 h0 hb1) g2 (by omega) (by omega)) g (by have:=g2.size;omega) (Nat.le_refl _)⟩
 have OKC:(#[.slice p1 t.words.length e1,.slice p2 t.roots.length e2,.int .i64 t.old,.int .i64 t.eden,.int .i64 t.surv,.bool t.flip,.int .i64 t.hash,.slice p3 t.kept.length e3]:Array Value).all (·.oneCell')=true:=by simp [Value.oneCell']
 clear ha g2 d2 R0 R1 h0 hb1 d1 z0
 go_wp2_with ((with_reducible refine C9 _ ?_ (.tmp 2) (.tmp 7) 30 ?_ 30 w.heap.size 8 #[.slice p1 t.words.length e1,.slice p2 t.roots.length e2,.int .i64 t.old,.int .i64 t.eden,.int .i64 t.surv,.bool t.flip,.int .i64 t.hash,.slice p3 t.kept.length e3] _ ?_ ?_ R2 ?_ ?_ OKC ?_);rfl;rfl;rfl;rfl;rfl;kernel_rfl;intro w9 F9 G9)
 obtain ⟨r0,r1,r2,r3,r4,r5,r6,r7⟩:=Po F9
 exact bodyPost_ret (v:=.agg #[.slice p1 t.words.length e1,.slice p2 t.roots.length e2,.int .i64 t.old,.int .i64 t.eden,.int .i64 t.surv,.bool t.flip,.int .i64 t.hash,.slice p3 t.kept.length e3]) (by simp [results,Tryz.results28,go_sem,r0,r1,r2,r3,r4,r5,r6,r7]) rfl ⟨⟨t,_,_,_,rfl,(FIN.out _ G9).1,sz⟩,(FIN.out _ G9).2⟩
end Go.Proofs.YtboiknllmnfipaaGreatDoor
/- Graphs and heaps drawn for FnShaped: DrawGraphOk, DrawBuild and DrawShape of the model. -/
namespace Go.Proofs.YtboiknllmnfipaaGreatDoor
open Go.RowKit
section
variable {ops : Array Oper} {rest : List Oper} {o : Oper} {a : Act} {Q : Exit -> Act -> World -> Prop}
theorem Xm {w w' : World} {t:TypeId} {A u:Value} (hrun:(Instr.storeAt t A u).run Tryz.prog w=.ok () w') (hg:o.guard=none) (p s:Operand) (hop:o.op=Op.store t p s) (hp:a.eval p=A) (hs:a.eval s=u) (hd:o.dst=none)
  (h:wpList Tryz.prog ops Q rest a w'):wpList Tryz.prog ops Q (o::rest) a w:=by
 refine wpList_plain hg fun K hK=>?_
 unfold Oper.wp
 simp [execOp,hop,hp,hs,hrun,Result.andThen]
 refine hK _ _ ?_
 rw [hd]
 exact h
end
theorem Ys (W:World) (b:Nat) (cs:Array Value) (f:Nat->Value) (hR:W.rowIs b 27 3 f) (hn:cs.size=3) (h1:cs.all (·.oneCell')=true):∃ w',(Instr.storeAt 27 (.pointer (some ⟨b,0,none⟩)) (.agg cs)).run Tryz.prog W=.ok () w' /\ w'.rowIs b 27 3 (fun i=>cs[i]?.getD undef)/\W.grownBy w' (some b) :=
 ⟨_,J1 W 27 27 b 3 cs f hR hn (by kernel_rfl) h1,Ol W b _ 3 cs f hR hn,I6 W b cs⟩
def Jhl (w:World) (x:Ending) (w' : World):Prop:=(∃ v g,x=.returned v/\GAt w.heap.size w' v g/\Gsm g/\R64 g.roots)/\Below w.heap.size w w'
set_option maxRecDepth 100000 in
set_option maxHeartbeats 1600000 in
theorem Wg (cv:Value) (cs:List UInt8) (w:World) (hc:BR w cv cs) (hn:cs.length<=4096) :
  Calls Tryz.prog 17 #[cv] w fun x w'=>Jhl w x w':=by
 have al1:=C5 w (.cells #[.slice none 0 0,.slice none 0 0,.int .i64 0] 27)
 have R1:=I0 w #[.slice none 0 0,.slice none 0 0,.int .i64 0] 27
 have NW:=Zl cv cs _ (hc.later al1) hn
 go_enter Tryz.func17,Tryz.ntmps17
 go_wp2_with fail
 refine NW.mono ?_
 rintro x w1 ⟨N,rfl,hN,hN1,hb1,d1⟩
 rw [World.size_alloc] at hN
 have Q1:=R1.of_block (hb1.block _ R1.lt)
 have bw:=C3 al1 hb1
 clear NW R1 hb1 al1
 go_wp2_with fail
 refine (d1.graph hN1).mono ?_
 rintro x w2 ⟨⟨v,g,rfl,ga,sm,r6⟩,g2,d2⟩
 obtain ⟨pr,er,pn,en,rfl,-,-⟩:=id ga.gr.out
 have Q2:=Q1.of_block (g2.block _ Q1.lt (fun e=>by have:=Option.some.inj e;omega))
 obtain ⟨w9,run9,F9,G9⟩:=Ys w2 w.heap.size #[.slice pr g.roots.length er,.slice pn g.nodes.length en,.int .i64 g.hash] _ Q2 rfl (by simp [Value.oneCell'])
 have s2:=g2.size
 have FIN:Hid (GAt w.heap.size w9 (.agg #[.slice pr g.roots.length er,.slice pn g.nodes.length en,.int .i64 g.hash]) g/\Below w.heap.size w w9):=⟨(ga.off G9 (by omega)).down (by omega),gbel (gbel bw g2 bw.size (by omega)) G9 (by omega) (Nat.le_refl _)⟩
 have a0:=F9.cell (i:=0) (by omega);have a1:=F9.cell (i:=1) (by omega);have a2:=F9.cell (i:=2) (by omega)
 clear Q1 Q2 bw d1 d2 g2 ga F9 G9
 go_wp2_with (refine Xm run9 rfl _ _ rfl rfl rfl rfl ?_)
 exact bodyPost_ret (v:=.agg #[.slice pr g.roots.length er,.slice pn g.nodes.length en,.int .i64 g.hash]) (by simp [results,Tryz.results17,go_sem,a0,a1,a2]) rfl ⟨⟨_,g,rfl,FIN.out.1,sm,r6⟩,FIN.out.2⟩
set_option maxRecDepth 100000 in
set_option maxHeartbeats 1600000 in
theorem Zb (cv:Value) (cs:List UInt8) (w:World) (hc:BR w cv cs) (hn:cs.length<=4096) :
  Calls Tryz.prog 5 #[cv] w fun x w'=>Jhl w x w':=by
 have al1:=C5 w (.cells #[.slice none 0 0,.slice none 0 0,.int .i64 0] 27)
 have R1:=I0 w #[.slice none 0 0,.slice none 0 0,.int .i64 0] 27
 have NW:=Wg cv cs _ (hc.later al1) hn
 go_enter Tryz.func5,Tryz.ntmps5
 go_wp2_with fail
 refine NW.mono ?_
 rintro x w2 ⟨⟨v,g,rfl,ga,sm,r6⟩,hb1⟩
 rw [World.size_alloc] at ga
 obtain ⟨pr,er,pn,en,rfl,-,-⟩:=id ga.gr.out
 have Q2:=R1.of_block (hb1.block _ R1.lt)
 have bw:=C3 al1 hb1
 obtain ⟨w9,run9,F9,G9⟩:=Ys w2 w.heap.size #[.slice pr g.roots.length er,.slice pn g.nodes.length en,.int .i64 g.hash] _ Q2 rfl (by simp [Value.oneCell'])
 have FIN:Hid (GAt w.heap.size w9 (.agg #[.slice pr g.roots.length er,.slice pn g.nodes.length en,.int .i64 g.hash]) g/\Below w.heap.size w w9):=⟨(ga.off G9 (by omega)).down (by omega),gbel bw G9 bw.size (Nat.le_refl _)⟩
 have a0:=F9.cell (i:=0) (by omega);have a1:=F9.cell (i:=1) (by omega);have a2:=F9.cell (i:=2) (by omega)
 clear Q2 bw R1 ga F9 G9 NW hb1 al1
 go_wp2_with (refine Xm run9 rfl _ _ rfl rfl rfl rfl ?_)
 exact bodyPost_ret (v:=.agg #[.slice pr g.roots.length er,.slice pn g.nodes.length en,.int .i64 g.hash]) (by simp [results,Tryz.results5,go_sem,a0,a1,a2]) rfl ⟨⟨_,g,rfl,FIN.out.1,sm,r6⟩,FIN.out.2⟩
set_option maxRecDepth 100000 in
set_option maxHeartbeats 1600000 in
theorem Yv (cv:Value) (cs:List UInt8) (w:World) (hc:BR w cv cs) (hn:cs.length<=4096) :
  Calls Tryz.prog 12 #[cv] w fun x w'=>(∃ t v1 v2 v3,x=.returned (.agg #[v1,v2,.int .i64 t.old,.int .i64 t.eden,.int .i64 t.surv,.bool t.flip,.int .i64 t.hash,v3])/\HA w.heap.size w' t v1 v2 v3/\t.words.length<=3200/\t.roots.length<=21/\t.kept.length<=3201)/\Below w.heap.size w w':=by
 have al1:=C5 w (.cells #[.slice none 0 0,.slice none 0 0,.int .i64 0,.int .i64 0,.int .i64 0,.bool false,.int .i64 0,.slice none 0 0] 30)
 have R1:=I0 w #[.slice none 0 0,.slice none 0 0,.int .i64 0,.int .i64 0,.int .i64 0,.bool false,.int .i64 0,.slice none 0 0] 30
 have NW:=Wz cv cs _ (hc.later al1) hn
 go_enter Tryz.func12,Tryz.ntmps12
 go_wp2_with fail
 refine NW.mono ?_
 rintro x w2 ⟨⟨t,v1,v2,v3,rfl,ha,sz⟩,hb1⟩
 rw [World.size_alloc] at ha
 have Q2:=R1.of_block (hb1.block _ R1.lt)
 have bw:=C3 al1 hb1
 obtain ⟨p1,e1,rfl,-⟩:=IRs ha.w1
 obtain ⟨p2,e2,rfl,-⟩:=IRs (E9 ha.o2)
 obtain ⟨p3,e3,rfl,-⟩:=IRs (E9 ha.o3)
 have OKC:(#[.slice p1 t.words.length e1,.slice p2 t.roots.length e2,.int .i64 t.old,.int .i64 t.eden,.int .i64 t.surv,.bool t.flip,.int .i64 t.hash,.slice p3 t.kept.length e3]:Array Value).all (·.oneCell')=true:=by simp [Value.oneCell']
 have run9:=J1 w2 30 30 w.heap.size 8 #[.slice p1 t.words.length e1,.slice p2 t.roots.length e2,.int .i64 t.old,.int .i64 t.eden,.int .i64 t.surv,.bool t.flip,.int .i64 t.hash,.slice p3 t.kept.length e3] _ Q2 rfl (by kernel_rfl) OKC
 have F9:=Ol w2 w.heap.size 30 8 #[.slice p1 t.words.length e1,.slice p2 t.roots.length e2,.int .i64 t.old,.int .i64 t.eden,.int .i64 t.surv,.bool t.flip,.int .i64 t.hash,.slice p3 t.kept.length e3] _ Q2 rfl
 have G9:=I6 w2 w.heap.size #[.slice p1 t.words.length e1,.slice p2 t.roots.length e2,.int .i64 t.old,.int .i64 t.eden,.int .i64 t.surv,.bool t.flip,.int .i64 t.hash,.slice p3 t.kept.length e3]
 have FIN:Hid (HA w.heap.size (w2.setRow w.heap.size #[.slice p1 t.words.length e1,.slice p2 t.roots.length e2,.int .i64 t.old,.int .i64 t.eden,.int .i64 t.surv,.bool t.flip,.int .i64 t.hash,.slice p3 t.kept.length e3]) t (.slice p1 t.words.length e1) (.slice p2 t.roots.length e2) (.slice p3 t.kept.length e3)/\Below w.heap.size w (w2.setRow w.heap.size #[.slice p1 t.words.length e1,.slice p2 t.roots.length e2,.int .i64 t.old,.int .i64 t.eden,.int .i64 t.surv,.bool t.flip,.int .i64 t.hash,.slice p3 t.kept.length e3])):=⟨(ha.off G9 (by omega)).down (by omega),gbel bw G9 bw.size (Nat.le_refl _)⟩
 obtain ⟨a0,a1,a2,a3,a4,a5,a6,a7⟩:=Po F9
 generalize w2.setRow w.heap.size #[.slice p1 t.words.length e1,.slice p2 t.roots.length e2,.int .i64 t.old,.int .i64 t.eden,.int .i64 t.surv,.bool t.flip,.int .i64 t.hash,.slice p3 t.kept.length e3]=w9 at *
 clear Q2 bw R1 ha F9 G9 NW hb1 al1 OKC
 go_wp2_with (refine Xm run9 rfl _ _ rfl rfl rfl rfl ?_)
 exact bodyPost_ret (v:=.agg #[.slice p1 t.words.length e1,.slice p2 t.roots.length e2,.int .i64 t.old,.int .i64 t.eden,.int .i64 t.surv,.bool t.flip,.int .i64 t.hash,.slice p3 t.kept.length e3]) (by simp [results,Tryz.results12,go_sem,a0,a1,a2,a3,a4,a5,a6,a7]) rfl ⟨⟨t,_,_,_,rfl,FIN.out.1,sz⟩,FIN.out.2⟩
end Go.Proofs.YtboiknllmnfipaaGreatDoor
/- Theory of FnHeaps: the headers of a right heap, the sum of its objects' sizes, a new heap is right; likeInts. -/
namespace Go.Proofs.YtboiknllmnfipaaGreatDoor
open Go.RowKit
theorem rise {l:List Nat} (so:l.Pairwise (· < ·)) {k:Nat} (h:k+1<l.length):l.getD k 0<l.getD (k+1) 0:=by
 have:=List.pairwise_iff_getElem.1 so k (k+1) (by omega) h (by omega)
 simpa [List.getD_eq_getElem?_getD,List.getElem?_eq_getElem h,List.getElem?_eq_getElem (show k<l.length by omega)] using this
set_option maxHeartbeats 400000 in
theorem Pw (v u:Value) (ss:List Int) (w:World) (hv:IR w v ss) (hu:IR w u ss) (h1:ss.length<=1000000000000000) :
  Calls Tryz.prog 23 #[v,u] w fun e w'=>e=.returned (.bool true)/\Below w.heap.size w w':=by
 obtain ⟨ao,cap,rfl,_,hv⟩:=hv
 obtain ⟨bo,cbp,rfl,_,hu⟩:=hu
 have hl' : ((ss.length:Int) != (ss.length:Int))=false:=by simp
 go_enter Tryz.func23,Tryz.ntmps23
 go_wp2
 go_loopw [5] (fun a wr=>∃ (k:Nat),a=.int .i64 k/\k<=ss.length/\∃ n,wr=w.drewN n) (fun a _=>(ss.length - (intOf a).toNat))
 case atStart=>exact ⟨0,rfl,Nat.zero_le _,0,rfl⟩
 case round =>
  obtain ⟨k,rfl,hk,n,rfl⟩:=hrel
  by_cases hlt:k<ss.length
  ·obtain ⟨b,o,rfl,hc⟩:=hv k hlt
   obtain ⟨b',o',rfl,hc'⟩:=hu k hlt
   generalize ss.getD k 0=s at *
   have he:(s != s)=false:=by simp
   clear hv hu
   go_wp2
   go_region
   all_goals go_wp2
   all_goals go_roundw
   case rel=>exact ⟨k+1,by go_num,by omega,_,rfl⟩
   case measure=>simp [intOf];omega
  ·go_wp2
   go_ret
   exact ⟨rfl,H6 (Below.refl _ _) _⟩
end Go.Proofs.YtboiknllmnfipaaGreatDoor
/- Heaps held against each other in a law. -/
namespace Go.Proofs.YtboiknllmnfipaaGreatDoor
open Go.RowKit
set_option maxRecDepth 100000 in
set_option maxHeartbeats 1600000 in
theorem Zy (v u:Value) (h:Hp) (w:World) (hv:HR w v h) (hu:HR w u h) (l1:h.words.length<=10000000000000) (l2:h.roots.length<=10000000000000) (l3:h.kept.length<=10000000000000) :
  Calls Tryz.prog 8 #[v,u] w fun e w'=>e=.returned (.bool true)/\Below w.heap.size w w':=by
 obtain ⟨v1,v2,v3,rfl,a1,a2,a3⟩:=hv
 obtain ⟨u1,u2,u3,rfl,b1,b2,b3⟩:=hu
 have hb0:Below w.heap.size w ((w.alloc (.cells #[v1,v2,.int .i64 h.old,.int .i64 h.eden,.int .i64 h.surv,.bool h.flip,.int .i64 h.hash,v3] 30)).alloc (.cells #[u1,u2,.int .i64 h.old,.int .i64 h.eden,.int .i64 h.surv,.bool h.flip,.int .i64 h.hash,u3] 30)):=C3 (C5 _ _) (C5 _ _)
 have X0:=(Bx.new w v1 v2 v3 h 30).later (C5 _ (.cells #[u1,u2,.int .i64 h.old,.int .i64 h.eden,.int .i64 h.surv,.bool h.flip,.int .i64 h.hash,u3] 30))
 have Y0:Bx ((w.alloc (.cells #[v1,v2,.int .i64 h.old,.int .i64 h.eden,.int .i64 h.surv,.bool h.flip,.int .i64 h.hash,v3] 30)).alloc (.cells #[u1,u2,.int .i64 h.old,.int .i64 h.eden,.int .i64 h.surv,.bool h.flip,.int .i64 h.hash,u3] 30)) (w.heap.size+1) u1 u2 u3 h:=by
  have q:=Bx.new (w.alloc (.cells #[v1,v2,.int .i64 h.old,.int .i64 h.eden,.int .i64 h.surv,.bool h.flip,.int .i64 h.hash,v3] 30)) u1 u2 u3 h 30
  rwa [World.size_alloc] at q
 have E1:=Pw v1 u1 h.words _ (a1.later hb0) (b1.later hb0) (by omega)
 go_enter Tryz.func8,Tryz.ntmps8
 go_wp2_with fail
 refine E1.mono ?_
 rintro e w1 ⟨rfl,hb1⟩
 have hbw1:=C3 hb0 hb1
 have X1:=X0.later hb1
 have Y1:=Y0.later hb1
 obtain ⟨x0,x1,x2,x3,x4,x5,x6,x7⟩:=id X1
 obtain ⟨y0,y1,y2,y3,y4,y5,y6,y7⟩:=id Y1
 have E2:=Pw v2 u2 h.roots _ (a2.later hbw1) (b2.later hbw1) (by omega)
 clear E1 X0 Y0
 go_wp2_with fail
 refine E2.mono ?_
 rintro e w2 ⟨rfl,hb2⟩
 have hbw2:=C3 hbw1 hb2
 have X2:=X1.later hb2
 have Y2:=Y1.later hb2
 clear x0 x1 x2 x3 x4 x5 x6 x7 y0 y1 y2 y3 y4 y5 y6 y7
 obtain ⟨x0,x1,x2,x3,x4,x5,x6,x7⟩:=id X2
 obtain ⟨y0,y1,y2,y3,y4,y5,y6,y7⟩:=id Y2
 have E3:=Pw v3 u3 h.kept _ (a3.later hbw2) (b3.later hbw2) (by omega)
 clear E2 X1 Y1
 go_wp2_with fail
 refine E3.mono ?_
 rintro e w3 ⟨rfl,hb3⟩
 go_wp2
 go_ret
 exact ⟨rfl,C3 hbw2 hb3⟩
theorem HN.sh {B:Nat} {w:World} {v:Value} {h:Hp} (k:HN B w v h):∃ a1 c1 a2 c2 a3 c3,v=.agg #[.slice a1 h.words.length c1,.slice a2 h.roots.length c2,.int .i64 h.old,.int .i64 h.eden,.int .i64 h.surv,.bool h.flip,.int .i64 h.hash,.slice a3 h.kept.length c3] ∧
  IR w (.slice a1 h.words.length c1) h.words/\IR w (.slice a2 h.roots.length c2) h.roots/\IR w (.slice a3 h.kept.length c3) h.kept:=by
 obtain ⟨v1,v2,v3,e,os,ir,rest⟩:=k.ex
 obtain ⟨a1,c1,rfl,_⟩:=IRs ir.1
 obtain ⟨a2,c2,rfl,_⟩:=IRs ir.2.1
 obtain ⟨a3,c3,rfl,_⟩:=IRs ir.2.2
 exact ⟨a1,c1,a2,c2,a3,c3,e,ir⟩
end Go.Proofs.YtboiknllmnfipaaGreatDoor
