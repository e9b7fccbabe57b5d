
import Derived.Test.YtboiknllmnfipaaGreatDoorZU19
import Derived.Test.YtboiknllmnfipaaGreatDoorZU5
import Derived.Test.YtboiknllmnfipaaGreatDoorZU8
import Derived.Test.YtboiknllmnfipaaGreatDoorZU6
import Derived.Test.YtboiknllmnfipaaGreatDoorZU13
import Derived.Test.YtboiknllmnfipaaGreatDoorZU12
import Derived.Laws.MakeOwn
/- Graphs held against each other in a law: likeGraph. -/
namespace Go.Proofs.YtboiknllmnfipaaGreatDoor
open Go.RowKit
set_option maxRecDepth 100000 in
set_option maxHeartbeats 6400000 in
theorem Ty (v u:Value) (g:Gr) (w:World) (hv:GR w v g) (hu:GR w u g) (h0:g.roots.length<=1000000000000) (h1:g.nodes.length<=1000000000000) (h2:∀ n,n ∈ g.nodes->n.fl.length<=1000000000000) :
  Calls Tryz.prog 10 #[v,u] w fun e w'=>e=.returned (.bool true)/\Below w.heap.size w w':=by
 obtain ⟨ra,rc,na,nc,rfl,hr,hn⟩:=hv.out
 obtain ⟨sa,sc,ma,mc,rfl,hs,hm⟩:=hu.out
 have hb0:Below w.heap.size w ((w.alloc (.cells #[.slice ra g.roots.length rc,.slice na g.nodes.length nc,.int .i64 g.hash] 27)).alloc (.cells #[.slice sa g.roots.length sc,.slice ma g.nodes.length mc,.int .i64 g.hash] 27)):=C3 (C5 _ _) (C5 _ _)
 have R0:=(Qw w (.slice ra g.roots.length rc) (.slice na g.nodes.length nc) g.hash 27).of_block ((C5 _ (.cells #[.slice sa g.roots.length sc,.slice ma g.nodes.length mc,.int .i64 g.hash] 27)).block _ (by simp))
 have R1:=Qw (w.alloc (.cells #[.slice ra g.roots.length rc,.slice na g.nodes.length nc,.int .i64 g.hash] 27)) (.slice sa g.roots.length sc) (.slice ma g.nodes.length mc) g.hash 27
 rw [World.size_alloc] at R1
 have E1:=Pw _ _ g.roots _ (hr.later hb0) (hs.later hb0) (by omega)
 have tt:(g.hash != g.hash)=false:=by simp
 have tn:((g.nodes.length:Int) != (g.nodes.length:Int))=false:=by simp
 have hmx:Tryz.prog.follows .mixedOrders=true:=by kernel_rfl
 clear hr hs
 go_enter Tryz.func10,Tryz.ntmps10
 go_wp2_with fail
 refine E1.mono ?_
 rintro e w1 ⟨rfl,hb1⟩
 have hbw1:=C3 hb0 hb1
 have Q0:=R0.of_block (hb1.block _ R0.lt)
 have Q1:=R1.of_block (hb1.block _ R1.lt)
 have x1:w1.cell? ⟨w.heap.size,1,none⟩=some (.slice na g.nodes.length nc):=Q0.cell (i:=1) (by omega)
 have y1:w1.cell? ⟨w.heap.size+1,1,none⟩=some (.slice ma g.nodes.length mc):=Q1.cell (i:=1) (by omega)
 have x2:w1.cell? ⟨w.heap.size,2,none⟩=some (.int .i64 g.hash):=Q0.cell (i:=2) (by omega)
 have y2:w1.cell? ⟨w.heap.size+1,2,none⟩=some (.int .i64 g.hash):=Q1.cell (i:=2) (by omega)
 have hn1:=hn.later hbw1
 have hm1:=hm.later hbw1
 clear hn hm R0 R1 Q0 Q1 E1 hb0 hb1
 go_wp2
 go_loopw [5] (fun kv wr=>∃ k:Nat,k<=g.nodes.length/\kv=.int .i64 k/\Below w1.heap.size w1 wr) (fun kv _=>g.nodes.length - (intOf kv).toNat)
 case atStart=>exact ⟨0,Nat.zero_le _,rfl,Below.refl _ _⟩
 case round =>
  obtain ⟨k,hk,rfl,hb⟩:=hrel
  have X1:=C2 hb x1
  by_cases hlt:k<g.nodes.length
  ·obtain ⟨na',nc',e1,_,hna⟩:=hn1
   simp only [Value.slice.injEq,true_and] at e1
   obtain ⟨rfl,rfl⟩:=e1
   obtain ⟨ma',mc',e2,_,hma⟩:=hm1
   simp only [Value.slice.injEq,true_and] at e2
   obtain ⟨rfl,rfl⟩:=e2
   obtain ⟨ab,ao,fa,fn,fc,rfl,p0,p1,p2,pf⟩:=hna k hlt
   obtain ⟨bb,bo,ga,gn,gc,rfl,q0,q1,q2,qf⟩:=hma k hlt
   have hfl:=h2 _ (List.getElem_mem hlt)
   have en:g.nodes.getD k nd0=g.nodes[k]:=by simp [List.getD_eq_getElem?_getD,hlt]
   rw [<- en] at hfl
   generalize g.nodes.getD k nd0=nd at *
   obtain ⟨cl,hh,fl⟩:=nd
   obtain ⟨a0,c0,e3,-⟩:=id pf
   simp only [Value.slice.injEq] at e3
   obtain ⟨-,rfl,-⟩:=e3
   obtain ⟨a0,c0,e3,-⟩:=id qf
   simp only [Value.slice.injEq] at e3
   obtain ⟨-,rfl,-⟩:=e3
   have if_:=pf.later hb
   have ig:=qf.later hb
   have Y1:=C2 hb y1
   have A1:∀ W',Below wr.heap.size wr W' -> W'.cell? ⟨w.heap.size,1,none⟩=some (.slice (some ⟨ab,ao,none⟩) g.nodes.length nc):=fun W' q=>C2 q X1
   have B1:∀ W',Below wr.heap.size wr W' -> W'.cell? ⟨w.heap.size+1,1,none⟩=some (.slice (some ⟨bb,bo,none⟩) g.nodes.length mc):=fun W' q=>C2 q Y1
   have ac0:∀ W',Below wr.heap.size wr W' -> W'.cell? ⟨ab,ao+k * 3,none⟩=some (.int .i64 cl):=fun W' q=>C2 q (C2 hb p0)
   have ac1:∀ W',Below wr.heap.size wr W' -> W'.cell? ⟨ab,ao+k * 3+1,none⟩=some (.int .i64 hh):=fun W' q=>C2 q (C2 hb p1)
   have ac2:∀ W',Below wr.heap.size wr W' -> W'.cell? ⟨ab,ao+k * 3+2,none⟩=some (.slice fa fl.length fc):=fun W' q=>C2 q (C2 hb p2)
   have bc0:∀ W',Below wr.heap.size wr W' -> W'.cell? ⟨bb,bo+k * 3,none⟩=some (.int .i64 cl):=fun W' q=>C2 q (C2 hb q0)
   have bc1:∀ W',Below wr.heap.size wr W' -> W'.cell? ⟨bb,bo+k * 3+1,none⟩=some (.int .i64 hh):=fun W' q=>C2 q (C2 hb q1)
   have bc2:∀ W',Below wr.heap.size wr W' -> W'.cell? ⟨bb,bo+k * 3+2,none⟩=some (.slice ga fl.length gc):=fun W' q=>C2 q (C2 hb q2)
   have lt1:(k:Int)<(g.nodes.length:Int):=by omega
   have t1:(cl != cl)=false:=by simp
   have t2:(hh != hh)=false:=by simp
   have hfl' : fl.length<=1000000000000:=hfl
   have hk1:k+1<=g.nodes.length:=hlt
   clear p0 p1 p2 pf q0 q1 q2 qf hna hma en hfl h2 Y1 y1 x1 x2 y2
   have hs0:Below wr.heap.size wr wr.drew:=(Below.refl _ _).drew
   go_wp2_with fail
   refine Disk.z_plain 99 (fun W'=>Below wr.heap.size wr W') hmx hs0 (fun hs=>?_)
   clear hs0
   generalize wr.drew=wd at hs ⊢
   refine Disk.zt0 0 35 (v:=.pointer (some ⟨w.heap.size,1,none⟩)) rfl rfl hs ?_
   simp only [zA,zB,zC]
   refine Disk.zt 1 36 (v:=.slice (some ⟨ab,ao,none⟩) g.nodes.length nc) rfl rfl hs (fun W' hSw=>(by
    have c:=A1 _ hSw
    go_simp;first|done|with_reducible rfl)) ?_
   simp only [zA,zB,zC]
   refine Disk.zt0 2 37 (v:=.int .i64 k) rfl rfl hs ?_
   simp only [zA,zB,zC]
   refine Disk.zt0 3 38 (v:=.pointer (some ⟨ab,ao+k * 3,none⟩)) rfl rfl hs ?_
   simp only [zA,zB,zC]
   refine Disk.zt0 4 39 (v:=.pointer (some ⟨ab,ao+k * 3,none⟩)) rfl rfl hs ?_
   simp only [zA,zB,zC]
   refine Disk.zt 5 40 (v:=.int .i64 cl) rfl rfl hs (fun W' hSw=>(by
    have c:=ac0 _ hSw
    go_simp;first|done|with_reducible rfl)) ?_
   simp only [zA,zB,zC]
   refine Disk.zt0 6 41 (v:=.pointer (some ⟨w.heap.size+1,1,none⟩)) rfl rfl hs ?_
   simp only [zA,zB,zC]
   refine Disk.zt 7 42 (v:=.slice (some ⟨bb,bo,none⟩) g.nodes.length mc) rfl rfl hs (fun W' hSw=>(by
    have c:=B1 _ hSw
    go_simp;first|done|with_reducible rfl)) ?_
   simp only [zA,zB,zC]
   refine Disk.zt0 8 43 (v:=.int .i64 k) rfl rfl hs ?_
   simp only [zA,zB,zC]
   refine Disk.zt0 9 44 (v:=.pointer (some ⟨bb,bo+k * 3,none⟩)) rfl rfl hs ?_
   simp only [zA,zB,zC]
   refine Disk.zt0 10 45 (v:=.pointer (some ⟨bb,bo+k * 3,none⟩)) rfl rfl hs ?_
   simp only [zA,zB,zC]
   refine Disk.zt 11 46 (v:=.int .i64 cl) rfl rfl hs (fun W' hSw=>(by
    have c:=bc0 _ hSw
    go_simp;first|done|with_reducible rfl)) ?_
   simp only [zA,zB,zC]
   refine Disk.zt0 12 47 (v:=.bool false) rfl rfl hs ?_
   simp only [zA,zB,zC]
   refine Disk.zt0 13 48 (v:=.bool false) rfl rfl hs ?_
   simp only [zA,zB,zC]
   refine Disk.zt0 14 49 (v:=.pointer (some ⟨w.heap.size,1,none⟩)) rfl rfl hs ?_
   simp only [zA,zB,zC]
   refine Disk.zt 15 50 (v:=.slice (some ⟨ab,ao,none⟩) g.nodes.length nc) rfl rfl hs (fun W' hSw=>(by
    have c:=A1 _ hSw
    go_simp;first|done|with_reducible rfl)) ?_
   simp only [zA,zB,zC]
   refine Disk.zt0 16 51 (v:=.int .i64 k) rfl rfl hs ?_
   simp only [zA,zB,zC]
   refine Disk.zt0 17 52 (v:=.pointer (some ⟨ab,ao+k * 3,none⟩)) rfl rfl hs ?_
   simp only [zA,zB,zC]
   refine Disk.zt0 18 53 (v:=.pointer (some ⟨ab,ao+k * 3+1,none⟩)) rfl rfl hs ?_
   simp only [zA,zB,zC]
   refine Disk.zt 19 54 (v:=.int .i64 hh) rfl rfl hs (fun W' hSw=>(by
    have c:=ac1 _ hSw
    go_simp;first|done|with_reducible rfl)) ?_
   simp only [zA,zB,zC]
   refine Disk.zt0 20 55 (v:=.pointer (some ⟨w.heap.size+1,1,none⟩)) rfl rfl hs ?_
   simp only [zA,zB,zC]
   refine Disk.zt 21 56 (v:=.slice (some ⟨bb,bo,none⟩) g.nodes.length mc) rfl rfl hs (fun W' hSw=>(by
    have c:=B1 _ hSw
    go_simp;first|done|with_reducible rfl)) ?_
   simp only [zA,zB,zC]
   refine Disk.zt0 22 57 (v:=.int .i64 k) rfl rfl hs ?_
   simp only [zA,zB,zC]
   refine Disk.zt0 23 58 (v:=.pointer (some ⟨bb,bo+k * 3,none⟩)) rfl rfl hs ?_
   simp only [zA,zB,zC]
   refine Disk.zt0 24 59 (v:=.pointer (some ⟨bb,bo+k * 3+1,none⟩)) rfl rfl hs ?_
   simp only [zA,zB,zC]
   refine Disk.zt 25 60 (v:=.int .i64 hh) rfl rfl hs (fun W' hSw=>(by
    have c:=bc1 _ hSw
    go_simp;first|done|with_reducible rfl)) ?_
   simp only [zA,zB,zC]
   refine Disk.zt0 26 61 (v:=.bool false) rfl rfl hs ?_
   simp only [zA,zB,zC]
   refine Disk.zt0 27 62 (v:=.bool false) rfl rfl hs ?_
   simp only [zA,zB,zC]
   refine Disk.zt0 28 63 (v:=.bool false) rfl rfl hs ?_
   simp only [zA,zB,zC]
   refine Disk.zt0 29 64 (v:=.pointer (some ⟨w.heap.size,1,none⟩)) rfl rfl hs ?_
   simp only [zA,zB,zC]
   refine Disk.zt 30 65 (v:=.slice (some ⟨ab,ao,none⟩) g.nodes.length nc) rfl rfl hs (fun W' hSw=>(by
    have c:=A1 _ hSw
    go_simp;first|done|with_reducible rfl)) ?_
   simp only [zA,zB,zC]
   refine Disk.zt0 31 66 (v:=.int .i64 k) rfl rfl hs ?_
   simp only [zA,zB,zC]
   refine Disk.zt0 32 67 (v:=.pointer (some ⟨ab,ao+k * 3,none⟩)) rfl rfl hs ?_
   simp only [zA,zB,zC]
   refine Disk.zt0 33 68 (v:=.pointer (some ⟨ab,ao+k * 3+2,none⟩)) rfl rfl hs ?_
   simp only [zA,zB,zC]
   refine Disk.zt 34 69 (v:=.slice fa fl.length fc) rfl rfl hs (fun W' hSw=>(by
    have c:=ac2 _ hSw
    go_simp;first|done|with_reducible rfl)) ?_
   simp only [zA,zB,zC]
   refine Disk.zt0 35 70 (v:=.pointer (some ⟨w.heap.size+1,1,none⟩)) rfl rfl hs ?_
   simp only [zA,zB,zC]
   refine Disk.zt 36 71 (v:=.slice (some ⟨bb,bo,none⟩) g.nodes.length mc) rfl rfl hs (fun W' hSw=>(by
    have c:=B1 _ hSw
    go_simp;first|done|with_reducible rfl)) ?_
   simp only [zA,zB,zC]
   refine Disk.zt0 37 72 (v:=.int .i64 k) rfl rfl hs ?_
   simp only [zA,zB,zC]
   refine Disk.zt0 38 73 (v:=.pointer (some ⟨bb,bo+k * 3,none⟩)) rfl rfl hs ?_
   simp only [zA,zB,zC]
   refine Disk.zt0 39 74 (v:=.pointer (some ⟨bb,bo+k * 3+2,none⟩)) rfl rfl hs ?_
   simp only [zA,zB,zC]
   refine Disk.zt 40 75 (v:=.slice ga fl.length gc) rfl rfl hs (fun W' hSw=>(by
    have c:=bc2 _ hSw
    go_simp;first|done|with_reducible rfl)) ?_
   simp only [zA,zB,zC]
   refine Disk.zc 41 76 rfl rfl (f:=23) (args:=#[.slice fa fl.length fc,.slice ga fl.length gc]) (w0:=wd) ?_
   refine (Pw _ _ fl _ (if_.later hs) (ig.later hs) (by omega)).mono ?_
   rintro e wq ⟨rfl,hbq⟩
   replace hs:=C3 hs hbq
   clear hbq
   refine ⟨_,rfl,.inr hs,?_⟩
   simp only [zA,zB,zC]
   refine Disk.zt0 42 77 (v:=.bool false) rfl rfl hs ?_
   simp only [zA,zB,zC]
   refine Disk.zt0 43 78 (v:=.bool false) rfl rfl hs ?_
   simp only [zA,zB,zC]
   refine Disk.z_done (by kernel_rfl) ?_ _
   have hbe:=C3 hb hs
   clear hs A1 B1 ac0 ac1 ac2 bc0 bc1 bc2
   go_wp2
   exact ⟨⟨k+1,hk1,by go_num,hbe⟩,by simp [intOf];omega⟩
  ·obtain rfl:k=g.nodes.length:=by omega
   have hbe:=C3 hbw1 hb
   go_wp2
   go_ret
   exact ⟨rfl,hbe⟩
end Go.Proofs.YtboiknllmnfipaaGreatDoor
/- The walks of the laws on HeapOk, Young and Header. -/
namespace Go.Proofs.YtboiknllmnfipaaGreatDoor
open Go.RowKit
end Go.Proofs.YtboiknllmnfipaaGreatDoor
/- Graphs in the laws: eqGraph, markGraph, heldGraph; graphs that own their memory. -/
namespace Go.Proofs.YtboiknllmnfipaaGreatDoor
open Go.RowKit
def mkK (k:Int) (ns:List Nd) (i:Nat):Int:=k+(((ns.take i).map fun n=>2+n.fl.length).sum:Nat)
end Go.Proofs.YtboiknllmnfipaaGreatDoor
/- Graphs that own their memory; markNodeS, markGraph, heldGraph. -/
namespace Go.Proofs.YtboiknllmnfipaaGreatDoor
open Go.RowKit
def mkF (k:Int) (ns:List Nd) (f:Nat->Value) (i j:Nat):Value:=if j<i * 3/\j % 3=0 then .int .i64 (mkK k ns (j / 3)) else if j<i * 3/\j % 3=1 then .int .i64 (mkK k ns (j / 3)+1) else f j
structure MkSt (w wr:World) (g N:Nat) (k:Int) (ns:List Nd) (f fv:Nat->Value) (i B:Nat):Prop where
 row:wr.rowIs g 41 N (mkF k ns f i)
 done:∀ j,j<i->IR wr (fv j) (imarks (mkK k ns j+2) (ns.getD j nd0).fl.length)
 left:∀ j,i<=j->j<ns.length->wr.ownsRow B 2 1 (fv j) (ns.getD j nd0).fl.length (icells (ns.getD j nd0).fl)
 grew:Grew w wr (fun b=>b=g ∨ ∃ j,j<ns.length/\(fv j).ownBlock=some b)
end Go.Proofs.YtboiknllmnfipaaGreatDoor
/- renamed of the program: words with each address changed for the one that it has in a map. -/
namespace Go.Proofs.YtboiknllmnfipaaGreatDoor
open Go.RowKit Go.Maps
def rnM (f:Int->Option Int) (x:Int):Int:=if isK 2 x=true then 2 * (f (x / 2)).getD 0+1 else x
theorem Jik (n B:Nat) (hn:n<=100000000000) (w:World) (hB:B<=w.heap.size):∃ w',(Instr.makeSlice 24 (.int .i64 0) (.int .i64 (n:Int))).run Tryz.prog w=.ok (.slice (some ⟨w.heap.size,0,none⟩) 0 n) w' /\ w'.ownsRow B 2 1 (.slice (some ⟨w.heap.size,0,none⟩) 0 n) 0 []/\Below w.heap.size w w':=by
 obtain ⟨i,hi,hzz⟩:=Option.map_eq_some_iff.1 Tryz.infoI
 simp only [Prod.mk.injEq] at hzz
 obtain ⟨hz,hsz,hby⟩:=hzz
 obtain ⟨w',h1,h2,h3⟩:=run_make_own (P:=Tryz.prog) w B 24 2 i _ 1 Tryz.underlying24 hi hz hsz .i64 .i64 n (by rw [hby];omega) (by unfold maxLen;omega) hB
 exact ⟨w',h1,h2,⟨h3.os,h3.tape,h3.output,h3.size,fun k hk=>h3.block k hk (by simp)⟩⟩
set_option maxRecDepth 100000 in
set_option maxHeartbeats 1600000 in
theorem Rj (v:Value) (ws:List Int) (M n:Nat) (f:Int->Option Int) (w:World) (hv:IR w v ws) (hm:MP w M n f) (hl:ws.length<=100000000) (hf:∀ x,x ∈ ws->isK 2 x=true->0<=(f (x / 2)).getD 0/\(f (x / 2)).getD 0<=3199) :
  Calls Tryz.prog 26 #[v,.map (some M)] w fun e w'=>(∃ v',e=.returned v' /\ w'.ownsRow w.heap.size 2 1 v' ws.length (icells (ws.map (rnM f))))/\Below w.heap.size w w':=by
 obtain ⟨va,vc,rfl,_,hvc⟩:=id hv
 obtain ⟨wm,hrun,hown,hbm⟩:=Jik ws.length w.heap.size (by omega) w (Nat.le_refl _)
 have HOW:Hid (wm.ownsRow w.heap.size 2 1 (.slice (some ⟨w.heap.size,0,none⟩) 0 ws.length) 0 []):=hown
 clear hown
 go_enter Tryz.func26,Tryz.ntmps26
 go_wp2
 go_loopw [5,15] (fun ovv iv wr=>∃ (j:Nat) (ov:Value),j<=ws.length/\iv=.int .i64 j/\ov=ovv/\wr.ownsRow w.heap.size 2 1 ov j (icells ((ws.take j).map (rnM f)))/\Below w.heap.size w wr) (fun _ iv _=>ws.length - (intOf iv).toNat)
 case atStart=>exact ⟨0,_,Nat.zero_le _,rfl,rfl,HOW.out,hbm⟩
 case round =>
  obtain ⟨j,ov,hj,rfl,rfl,ho,hb⟩:=hrel
  by_cases hjl:j<ws.length
  ·obtain ⟨vb,vo,rfl,hcw⟩:=hvc j hjl
   have hcr:=C2 hb hcw
   have TS:Hid ((ws.take (j+1)).map (rnM f)=(ws.take j).map (rnM f) ++ [rnM f (ws.getD j 0)]):=(by rw [Rc _ _ hjl];simp:(ws.take (j+1)).map (rnM f)=(ws.take j).map (rnM f) ++ [rnM f (ws.getD j 0)])
   have hfx:=hf (ws.getD j 0) (by simp [hjl])
   have RN:Hid (rnM f (ws.getD j 0)=if isK 2 (ws.getD j 0)=true then 2 * (f (ws.getD j 0 / 2)).getD 0+1 else ws.getD j 0):=rfl
   generalize rnM f (ws.getD j 0)=y at *
   generalize ws.getD j 0=x at *
   have hji:(j:Int)<ws.length:=by omega
   have hsz:=hb.size
   clear hcw hvc hf hrun HOW
   have FIN:Hid (∀ (z:Int) (w3:World) v3,y=z->w3.ownsRow w.heap.size 2 1 v3 (j+1) (icells ((ws.take j).map (rnM f)) ++ [.int .i64 z])->(wr.alloc (.cells #[.int .i64 z] 2)).grownBy w3 ov.ownBlock->w3.ownsRow w.heap.size 2 1 v3 (j+1) (icells ((ws.take (j+1)).map (rnM f)))/\Below w.heap.size w w3):=fun z w3 v3 e q1 q2=>by
    subst e
    refine ⟨by rw [TS.out];simpa [icells] using q1,?_⟩
    exact (hb.trans (C5 wr _ |>.mono hb.size)).trans ((Grew.grown q2).below (by simp;omega) fun k _ e=>(ho.lt k e).1)
   cases hx:isK 2 x
   ·rw [hx] at RN
    have RN' : Hid (y=x):=RN
    clear RN hfx TS
    have al:=C5 wr (.cells #[.int .i64 x] 2)
    have ho2:=E8 ho al
    have hc:∀ W:World,(W.alloc (.cells #[.int .i64 x] 2)).cell? ⟨W.heap.size,0,none⟩=some (.int .i64 x):=fun W=>by simp
    go_wp2_with (first
     | (go_at_call 49;refine (Om _ _).mono ?_;rintro e w' ⟨rfl,hw'⟩;obtain rfl:=hw'.symm;rw [hx])
     | (at_builtin;refine St _ rfl _ _ rfl w.heap.size _ j (icells ((ws.take j).map (rnM f))) rfl ho2 _ 1 x rfl (hc _) (by omega) (Nat.le_trans hsz (by simp)) ?_;intro v4 w4 hown4 hg4 hloc;have SF:=FIN.out x w4 v4 RN'.out hown4 hg4))
    exact ⟨⟨j+1,v4,by omega,by go_num,rfl,SF.1,SF.2⟩,by simp [intOf];omega⟩
   ·rw [hx] at RN
    have RN' : Hid (y=2 * (f (x / 2)).getD 0+1):=RN
    have hval:=Tb hx
    obtain ⟨y1,y2⟩:=hfx hx
    obtain ⟨a,ha,hat,hva⟩:=Vc hx
    have e2:x / 2=(a:Int):=by rw [<- hva,hval]
    rw [e2] at RN' y1 y2 hval
    have a64:N8 (a:Int):=⟨by omega,by omega⟩
    have hmr:=hm.later hb
    clear RN hfx TS e2 hat hva
    have adr:∀ z,(f (a:Int)).getD 0=z->Rq z=true:=fun z e=>by subst e;exact decide_eq_true ⟨y1,y2⟩
    generalize hz:(f (a:Int)).getD 0=z at *
    have HZ:Hid ((f (a:Int)).getD 0=z):=hz
    have had:=adr z rfl
    clear adr hz
    have al:=C5 wr (.cells #[.int .i64 (2 * z+1)] 2)
    have ho2:=E8 ho al
    have hc:∀ W:World,(W.alloc (.cells #[.int .i64 (2 * z+1)] 2)).cell? ⟨W.heap.size,0,none⟩=some (.int .i64 (2 * z+1)):=fun W=>by simp
    go_wp2_with (first
     | (go_at_call 49;refine (Om _ _).mono ?_;rintro e w' ⟨rfl,hw'⟩;obtain rfl:=hw'.symm;rw [hx,hval])
     | (at_lookup;refine Jdu _ rfl _ _ rfl M n f rfl hmr _ rfl a64 ?_;rw [HZ.out])
     | (go_at_call 50;refine (Jbe _ _ had).mono ?_;rintro e w' ⟨rfl,hw'⟩;obtain rfl:=hw'.symm)
     | (at_builtin;refine St _ rfl _ _ rfl w.heap.size _ j (icells ((ws.take j).map (rnM f))) rfl ho2 _ 1 (2 * z+1) rfl (hc _) (by omega) (Nat.le_trans hsz (by simp)) ?_;intro v4 w4 hown4 hg4 hloc;have SF:=FIN.out (2 * z+1) w4 v4 RN'.out hown4 hg4))
    exact ⟨⟨j+1,v4,by omega,by go_num,rfl,SF.1,SF.2⟩,by simp [intOf];omega⟩
  ·obtain rfl:j=ws.length:=by omega
   rw [List.take_length] at ho
   clear hvc hf hjl hrun HOW
   go_wp2
   go_ret
   exact ⟨⟨_,rfl,ho⟩,hb⟩
theorem Jjb {F:List Nat} {x:Int} (h:isK 2 x=true->(x / 2).toNat ∈ F):rnM (Ra F) x=ren F x:=by
 unfold rnM ren
 split
 ·rename_i hk
  obtain ⟨a,ha,e,ev⟩:=Vc hk
  rw [Tb hk] at ev
  have hm:=h hk
  rw [e] at hm ⊢
  rw [ev,Jeo,if_pos hm]
  rfl
 ·rfl
theorem Jam {F:List Nat} (h3:F.length<=3200) {x:Int} (_:isK 2 x=true):0<=(Ra F (x / 2)).getD 0/\(Ra F (x / 2)).getD 0<=3199:=by
 unfold Ra
 split
 ·rename_i q
  have:=List.idxOf_lt_length_of_mem q.2
  show 0<=((F.idxOf (x / 2).toNat:Nat):Int)/\((F.idxOf (x / 2).toNat:Nat):Int)<=3199
  omega
 ·exact ⟨by simp,by simp⟩
end Go.Proofs.YtboiknllmnfipaaGreatDoor
