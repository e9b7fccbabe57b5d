import Derived.Test.YtboiknllmnfipaaGreatDoorZU21
import Derived.Test.YtboiknllmnfipaaGreatDoorZGLaid
import Derived.Test.YtboiknllmnfipaaGreatDoorZU6
namespace Go.Proofs.YtboiknllmnfipaaGreatDoor
open Go.RowKit
theorem Xk {w:World} {B n:Nat} {v:Value} {xs:List Value} (h:w.ownsRow B 2 1 v (n+1) xs):∃ ro c,v=.slice ro (n+1) c:=by
 rcases h.2 with ⟨_,e⟩|⟨g,cap,cur,e,_⟩
 ·omega
 ·exact ⟨_,_,e⟩
theorem Jjo {B H gW cR:Nat} {ro:Option Addr} {w9:World} {g:Gr} (pp:plc g.nodes g.nodes.length<=2000) (T1:RI w9 gW (M0 g.nodes) 3200) (T2:w9.ownsRow (H+1) 2 1 (.slice ro g.roots.length cR) g.roots.length (icells (g.roots.map (rnI g.nodes)))) (hB:B<=gW) (o3:gW<H) :
  HN B w9 (.agg #[.slice (some ⟨gW,0,none⟩) 3200 3200,.slice ro g.roots.length cR,.int .i64 ((plc g.nodes g.nodes.length:Nat):Int),.int .i64 2000,.int .i64 2600,.bool false,.int .i64 g.hash,.slice none 0 0]) (C4 g):=by
 have lw:(M0 g.nodes).length=3200:=Qs (by omega)
 have rr:(C4 g).roots.length=g.roots.length:=by simp [C4]
 have lw' : (C4 g).words.length=3200:=lw
 have I2:IR w9 (.slice ro g.roots.length cR) (C4 g).roots:=by
  have q:=T2
  rw [<- rr] at q
  have q2:=E9 q
  rw [rr] at q2
  exact q2
 have O2:=Q5 T2
 have W2:=Qg T2
 refine ⟨_,_,_,rfl,⟨?_,?_,⟨_,_,rfl,.inl rfl⟩⟩,⟨?_,I2,⟨_,_,rfl,Nat.le_refl _,fun i hi=>absurd hi (Nat.not_lt_zero i)⟩⟩,⟨fun b q=>?_,fun b q=>?_,fun b q=>(Tu q).elim⟩,fun b q q'=>?_,fun b _ q=>Tu q,fun b _ q=>Tu q⟩
 ·have q:=T1.os (cap:=3200)
  rw [lw] at q
  rw [lw']
  exact q
 ·rw [rr]
  exact O2
 ·have q:=T1.ir (cap:=3200) (by omega)
  rw [lw] at q
  exact q
 ·rw [lw'] at q
  have:=rowof q
  omega
 ·rw [rr] at q
  have:=W2 b q
  omega
 ·rw [lw'] at q
  rw [rr] at q'
  have:=rowof q
  have:=W2 b q'
  omega
theorem Jey (ns:List Nd) (k:Nat) (a b c:Int) (h:plc ns k+4<=3200):splice (Oi ns k) (plc ns k) [a,b,c,0]=(((Oi ns k).set (plc ns k) a).set (plc ns k+1) b).set (plc ns k+2) c:=by
 have pl:=Sr ns k (by omega)
 rw [Jcg _ _ _ _ _ _ (by omega)]
 refine Yy _ _ ?_
 have q:(Oi ns k).getD (plc ns k+3) 0=0:=by
  unfold Oi
  rw [Up (by rw [Ux];omega)]
  rw [List.getD_eq_getElem?_getD,List.getElem?_replicate]
  split <;> rfl
 simp only [List.getD_eq_getElem?_getD] at q ⊢
 simp
 exact q
theorem Jjf (w:World) (n:Nat):RI (w.alloc (.cells #[.int .i64 (n:Nat)] 2)) w.heap.size [(n:Int)] 1:=by
 refine ⟨fun _=>.int .i64 (n:Nat),World.rowIs_alloc w #[.int .i64 (n:Nat)] 2 _ (fun i hi=>?_),by simp,fun i hi=>?_⟩
 ·have:i=0:=by simp at hi;omega
  subst this
  rfl
 ·have:i=0:=by simp at hi;omega
  subst this
  rfl
set_option maxRecDepth 100000 in
set_option maxHeartbeats 6400000 in
theorem Vz (v:Value) (g:Gr) (w:World) (hv:GR w v g) (pr:T9 g) :
  Calls Tryz.prog 22 #[v] w fun e w'=>(∃ u,e=.returned u/\HN w.heap.size w' u (C4 g))/\Below w.heap.size w w':=by
 obtain ⟨ra,rc,na,nc,rfl,hr,hn⟩:=hv.out
 obtain ⟨pn,prt,ph,pnd,pu,pro,pp⟩:=pr
 have hb0:Below w.heap.size w ((w.alloc (.cells #[.slice ra g.roots.length rc,.slice na g.nodes.length nc,.int .i64 g.hash] 27)).alloc (.cells #[.slice none 0 0,.slice none 0 0,.int .i64 0,.int .i64 0,.int .i64 0,.bool false,.int .i64 0,.slice none 0 0] 30)):=C3 (C5 _ _) (C5 _ _)
 obtain ⟨f,R0⟩:∃ f,((w.alloc (.cells #[.slice ra g.roots.length rc,.slice na g.nodes.length nc,.int .i64 g.hash] 27)).alloc (.cells #[.slice none 0 0,.slice none 0 0,.int .i64 0,.int .i64 0,.int .i64 0,.bool false,.int .i64 0,.slice none 0 0] 30)).rowIs (w.heap.size+1) 30 8 f:=by
  have q:=I0 (w.alloc (.cells #[.slice ra g.roots.length rc,.slice na g.nodes.length nc,.int .i64 g.hash] 27)) #[.slice none 0 0,.slice none 0 0,.int .i64 0,.int .i64 0,.int .i64 0,.bool false,.int .i64 0,.slice none 0 0] 30
  rw [World.size_alloc] at q
  exact ⟨_,q⟩
 have c0:=C2 (C5 (w.alloc (.cells #[.slice ra g.roots.length rc,.slice na g.nodes.length nc,.int .i64 g.hash] 27)) (.cells #[.slice none 0 0,.slice none 0 0,.int .i64 0,.int .i64 0,.int .i64 0,.bool false,.int .i64 0,.slice none 0 0] 30)) (E6 w #[.slice ra g.roots.length rc,.slice na g.nodes.length nc,.int .i64 g.hash] 27 _ rfl 0 _ rfl)
 have c1:=C2 (C5 (w.alloc (.cells #[.slice ra g.roots.length rc,.slice na g.nodes.length nc,.int .i64 g.hash] 27)) (.cells #[.slice none 0 0,.slice none 0 0,.int .i64 0,.int .i64 0,.int .i64 0,.bool false,.int .i64 0,.slice none 0 0] 30)) (E6 w #[.slice ra g.roots.length rc,.slice na g.nodes.length nc,.int .i64 g.hash] 27 _ rfl 1 _ rfl)
 have c2:=C2 (C5 (w.alloc (.cells #[.slice ra g.roots.length rc,.slice na g.nodes.length nc,.int .i64 g.hash] 27)) (.cells #[.slice none 0 0,.slice none 0 0,.int .i64 0,.int .i64 0,.int .i64 0,.bool false,.int .i64 0,.slice none 0 0] 30)) (E6 w #[.slice ra g.roots.length rc,.slice na g.nodes.length nc,.int .i64 g.hash] 27 _ rfl 2 _ rfl)
 have hmx:Tryz.prog.follows .mixedOrders=true:=by kernel_rfl
 have NH:=Y6 ((w.alloc (.cells #[.slice ra g.roots.length rc,.slice na g.nodes.length nc,.int .i64 g.hash] 27)).alloc (.cells #[.slice none 0 0,.slice none 0 0,.int .i64 0,.int .i64 0,.int .i64 0,.bool false,.int .i64 0,.slice none 0 0] 30))
 simp only [World.size_alloc] at NH
 go_enter Tryz.func22,Tryz.ntmps22
 go_wp2_with fail
 refine NH.mono ?_
 rintro e w1 ⟨⟨rfl,RW⟩,hb1'⟩
 have hb1:Below ((w.alloc (.cells #[.slice ra g.roots.length rc,.slice na g.nodes.length nc,.int .i64 g.hash] 27)).alloc (.cells #[.slice none 0 0,.slice none 0 0,.int .i64 0,.int .i64 0,.int .i64 0,.bool false,.int .i64 0,.slice none 0 0] 30)).heap.size ((w.alloc (.cells #[.slice ra g.roots.length rc,.slice na g.nodes.length nc,.int .i64 g.hash] 27)).alloc (.cells #[.slice none 0 0,.slice none 0 0,.int .i64 0,.int .i64 0,.int .i64 0,.bool false,.int .i64 0,.slice none 0 0] 30)) w1:=by simpa using hb1'
 have hbw1:=C3 hb0 hb1
 have al:=C3 (C5 w1 (.cells #[.slice (some ⟨w.heap.size+1+1+1,0,none⟩) 3200 3200,.slice none 0 0,.int .i64 0,.int .i64 2000,.int .i64 2600,.bool false,.int .i64 g.hash,.slice none 0 0] 30)) (C5 _ (.cells #[] 2))
 have BS0:BS w ((w1.alloc (.cells #[.slice (some ⟨w.heap.size+1+1+1,0,none⟩) 3200 3200,.slice none 0 0,.int .i64 0,.int .i64 2000,.int .i64 2600,.bool false,.int .i64 g.hash,.slice none 0 0] 30)).alloc (.cells #[] 2)) g ra rc na nc (w.heap.size+1+1+1) w1.heap.size (w1.heap.size+1) 0 (.slice none 0 0) ((plc g.nodes 0:Nat):Int) (Oi g.nodes 0) (plA g.nodes 0):=by
  have b1:=C3 hb1 al
  have R1:=R0.of_block (b1.block _ R0.lt)
  have lt:=RW.lt
  have p0:plc g.nodes 0=0:=by simp [plc]
  have rb:=I0 w1 #[.slice (some ⟨w.heap.size+1+1+1,0,none⟩) 3200 3200,.slice none 0 0,.int .i64 0,.int .i64 2000,.int .i64 2600,.bool false,.int .i64 g.hash,.slice none 0 0] 30
  refine ⟨C3 hb0 b1,C2 b1 c0,C2 b1 c1,C2 b1 c2,⟨f,R1⟩,?_,?_,?_,Nat.zero_le _,by omega,by omega,by omega⟩
  ·rw [p0]
   exact (rb.of_block ((C5 _ (.cells #[] 2)).block _ rb.lt))
  ·rw [Zj]
   exact RW.later al
  ·have q:=Jcf (w1.alloc (.cells #[.slice (some ⟨w.heap.size+1+1+1,0,none⟩) 3200 3200,.slice none 0 0,.int .i64 0,.int .i64 2000,.int .i64 2600,.bool false,.int .i64 g.hash,.slice none 0 0] 30))
   rw [World.size_alloc] at q
   exact q
 have x1:=BS0.g1
 have x2:=C2 hb1 c2
 have lw1:w.heap.size<w1.heap.size:=by have:=RW.lt;omega
 clear c0 c1 c2 R0 RW hb1 hb1' al NH
 go_wp2
 go_loopw [4,5] (fun av iv wr=>∃ k gA cA:Nat,k<=g.nodes.length/\iv=.int .i64 k/\av=.slice (some ⟨gA,0,none⟩) k cA/\BS w wr g ra rc na nc (w.heap.size+1+1+1) w1.heap.size gA cA (.slice none 0 0) ((plc g.nodes k:Nat):Int) (Oi g.nodes 0) (plA g.nodes k)) (fun _ iv _=>g.nodes.length - (intOf iv).toNat)
 case atStart=>exact ⟨0,w1.heap.size+1,0,Nat.zero_le _,rfl,rfl,BS0⟩
 case round =>
  obtain ⟨k,gA,cA,hk,rfl,rfl,B⟩:=hrel
  clear BS0 x1 x2 lw1
  generalize w1.heap.size=H at *
  generalize hG:w.heap.size+1+1+1=gW at *
  clear hG hbw1
  by_cases hkl:k<g.nodes.length
  ·obtain ⟨va,vc,e,_,hnc⟩:=id hn
   obtain ⟨nb,no,fa,fn,fc,rfl,d0,d1,d2,rf⟩:=hnc k hkl
   simp only [Value.slice.injEq,true_and] at e
   obtain ⟨rfl,rfl⟩:=e
   have hps:=Ox g.nodes k hkl
   have PSu:Hid (((plc g.nodes (k+1):Nat):Int)=(plc g.nodes k:Nat)+4+((g.nodes.getD k nd0).fl.length:Int)):=(by rw [hps];omega:((plc g.nodes (k+1):Nat):Int)=(plc g.nodes k:Nat)+4+((g.nodes.getD k nd0).fl.length:Int))
   have PAs:Hid (plA g.nodes (k+1)=plA g.nodes k ++ [((plc g.nodes k:Nat):Int)]):=Jhp g.nodes k
   have hpl:plc g.nodes (k+1)<=2000:=by
    have q:=Rx g.nodes (k+1) (g.nodes.length - (k+1)) (by omega)
    rw [show k+1+(g.nodes.length - (k+1))=g.nodes.length from by omega] at q
    omega
   obtain ⟨fa',fc',e,_⟩:=id rf
   injection e with e1 e2 e3
   subst e2
   have y2:=C2 B.bel d2
   have x1:=B.g1
   have hki:(k:Int)<(g.nodes.length:Int):=by omega
   have lA:=Ug g.nodes k
   generalize (g.nodes.getD k nd0).fl=F at *
   generalize hP:plc g.nodes k=P at *
   have b0:wr.cell? ⟨H,2,none⟩=some (.int .i64 (P:Nat)):=B.box.cell (i:=2) (by omega)
   have al:=C5 wr (.cells #[.int .i64 (P:Nat)] 2)
   have B1:=B.later al
   have I1:IR (wr.alloc (.cells #[.int .i64 (P:Nat)] 2)) (.slice (some ⟨wr.heap.size,0,none⟩) 1 1) [(P:Int)]:=(Jjf wr P).ir (Nat.le_refl _)
   have sz1:(wr.alloc (.cells #[.int .i64 (P:Nat)] 2)).heap.size=wr.heap.size+1:=by simp
   have ltH:H<wr.heap.size:=B.box.lt
   have lnb:=World.block_lt_of_cell? _ _ y2
   have ynb:nb<w.heap.size:=World.block_lt_of_cell? _ _ d2
   have o1:=B.o1
   have o2:=B.o2
   have o3:=B.o3
   clear d0 d1 d2 rf hnc e1 e3 hn hr hv hP
   go_wp2_with (at_builtin;refine Tc _ rfl _ _ rfl gA cA k (plA g.nodes k) rfl lA.symm B1.ats (by rw [lA];omega) B1.mx (some ⟨wr.heap.size,0,none⟩) 1 1 [(P:Int)] rfl rfl I1 (by simp) ?_;intro g' c' w2 P2 G2 wh mc)
   have B2:=B1.app G2 P2 mc (by rw [sz1] at wh;rcases wh with e|⟨e,_⟩ <;> omega)
   have hs0:(w2.cell? ⟨H,2,none⟩=some (.int .i64 (P:Nat))/\w2.cell? ⟨w.heap.size,1,none⟩=some (.slice (some ⟨nb,no,none⟩) g.nodes.length nc)/\w2.cell? ⟨nb,no+k * 3+2,none⟩=some (.slice fa F.length fc)):=⟨B2.box.cell (i:=2) (by omega),B2.g1,G2.cell (C2 al y2) (by simp <;> omega)⟩
   have w4:IntKind.i64.wrap ((P:Int)+4)=(P:Int)+4:=by rw [IntKind.wrap_i64];omega
   have w5:IntKind.i64.wrap ((P:Int)+4+F.length)=(P:Int)+4+F.length:=by rw [IntKind.wrap_i64];omega
   have fzH:=fun i=>B2.box.frozen i
   refine Disk.z_plain 12 (fun W'=>(W'.cell? ⟨H,2,none⟩=some (.int .i64 (P:Nat))/\W'.cell? ⟨w.heap.size,1,none⟩=some (.slice (some ⟨nb,no,none⟩) g.nodes.length nc)/\W'.cell? ⟨nb,no+k * 3+2,none⟩=some (.slice fa F.length fc))) hmx hs0 (fun hs=>?_)
   refine Disk.zt 0 29 (v:=.pointer (some ⟨H,2,none⟩)) rfl rfl hs (fun W' hSw=>(by
    obtain ⟨s0,s1,s2⟩:=hSw
    go_simp;first|done|with_reducible rfl)) ?_
   simp only [zA,zB,zC]
   refine Disk.zt 1 30 (v:=.int .i64 (P:Nat)) rfl rfl hs (fun W' hSw=>(by
    obtain ⟨s0,s1,s2⟩:=hSw
    go_simp;first|done|with_reducible rfl)) ?_
   simp only [zA,zB,zC]
   refine Disk.zt 2 31 (v:=.int .i64 ((P:Int)+4)) rfl rfl hs (fun W' hSw=>(by
    obtain ⟨s0,s1,s2⟩:=hSw
    go_simp;first|done|with_reducible rfl)) ?_
   simp only [zA,zB,zC]
   refine Disk.zt 3 32 (v:=.pointer (some ⟨w.heap.size,1,none⟩)) rfl rfl hs (fun W' hSw=>(by
    obtain ⟨s0,s1,s2⟩:=hSw
    go_simp;first|done|with_reducible rfl)) ?_
   simp only [zA,zB,zC]
   refine Disk.zt 4 33 (v:=.slice (some ⟨nb,no,none⟩) g.nodes.length nc) rfl rfl hs (fun W' hSw=>(by
    obtain ⟨s0,s1,s2⟩:=hSw
    go_simp;first|done|with_reducible rfl)) ?_
   simp only [zA,zB,zC]
   refine Disk.zt 5 34 (v:=.int .i64 (k:Nat)) rfl rfl hs (fun W' hSw=>(by
    obtain ⟨s0,s1,s2⟩:=hSw
    go_simp;first|done|with_reducible rfl)) ?_
   simp only [zA,zB,zC]
   refine Disk.zt 6 35 (v:=.pointer (some ⟨nb,no+k * 3,none⟩)) rfl rfl hs (fun W' hSw=>(by
    obtain ⟨s0,s1,s2⟩:=hSw
    go_simp;first|done|with_reducible rfl)) ?_
   simp only [zA,zB,zC]
   refine Disk.zt 7 36 (v:=.pointer (some ⟨nb,no+k * 3+2,none⟩)) rfl rfl hs (fun W' hSw=>(by
    obtain ⟨s0,s1,s2⟩:=hSw
    go_simp;first|done|with_reducible rfl)) ?_
   simp only [zA,zB,zC]
   refine Disk.zt 8 37 (v:=.slice fa F.length fc) rfl rfl hs (fun W' hSw=>(by
    obtain ⟨s0,s1,s2⟩:=hSw
    go_simp;first|done|with_reducible rfl)) ?_
   simp only [zA,zB,zC]
   refine Disk.zt 9 38 (v:=.int .i64 (F.length:Nat)) rfl rfl hs (fun W' hSw=>(by
    obtain ⟨s0,s1,s2⟩:=hSw
    go_simp;first|done|with_reducible rfl)) ?_
   simp only [zA,zB,zC]
   refine Disk.zt 10 39 (v:=.int .i64 ((P:Int)+4+F.length)) rfl rfl hs (fun W' hSw=>(by
    obtain ⟨s0,s1,s2⟩:=hSw
    go_simp;first|done|with_reducible rfl)) ?_
   simp only [zA,zB,zC]
   refine Disk.zt 11 40 (v:=.pointer (some ⟨H,2,none⟩)) rfl rfl hs (fun W' hSw=>(by
    obtain ⟨s0,s1,s2⟩:=hSw
    go_simp;first|done|with_reducible rfl)) ?_
   simp only [zA,zB,zC]
   refine Disk.z_skip 12 rfl rfl (by kernel_rfl) (by rfl) (w':=w2.drew.setCell ⟨H,2,none⟩ (.int .i64 ((P:Int)+4+F.length))) (by go_simp) (.inl rfl) ?_
   refine Disk.z_done (by kernel_rfl) ?_ _
   have B3:=(B2.later (Below.refl _ _).drew).old ((P:Int)+4+F.length)
   clear hs hs0 fzH y2 x1 b0 B B1 B2 I1 G2 P2 al
   go_wp2
   exact ⟨⟨k+1,g',c',by omega,by go_num,rfl,by rw [PSu.out,PAs.out];exact B3⟩,by simp [intOf];omega⟩
  ·obtain rfl:k=g.nodes.length:=by omega
   have x1:=B.g1
   clear hv hkl hk
   go_wp2
   go_loopw [6] (fun iv wr=>∃ k:Nat,k<=g.nodes.length/\iv=.int .i64 k/\BS w wr g ra rc na nc gW H gA cA (.slice none 0 0) ((plc g.nodes g.nodes.length:Nat):Int) (Oi g.nodes k) (plA g.nodes g.nodes.length)) (fun iv _=>g.nodes.length - (intOf iv).toNat)
   case atStart=>exact ⟨0,Nat.zero_le _,rfl,B⟩
   case round =>
    clear B x1
    obtain ⟨k,hk,rfl,B⟩:=hrel
    by_cases hkl:k<g.nodes.length
    ·obtain ⟨va,vc,e,_,hnc⟩:=id hn
     obtain ⟨nb,no,fa,fn,fc,rfl,d0,d1,d2,rf⟩:=hnc k hkl
     simp only [Value.slice.injEq,true_and] at e
     obtain ⟨rfl,rfl⟩:=e
     have hps:=Ox g.nodes k hkl
     have hpl:plc g.nodes (k+1)<=2000:=by
      have q:=Rx g.nodes (k+1) (g.nodes.length - (k+1)) (by omega)
      rw [show k+1+(g.nodes.length - (k+1))=g.nodes.length from by omega] at q
      omega
     have PS:Hid (splice (splice (Oi g.nodes k) (plc g.nodes k) [((g.nodes.getD k nd0).fl.length:Int),(g.nodes.getD k nd0).cls,(g.nodes.getD k nd0).hash,0]) (plc g.nodes k+4) ((g.nodes.getD k nd0).fl.map (rnI g.nodes))=Oi g.nodes (k+1)):=Zk g.nodes k hkl
     have S4:Hid (splice (Oi g.nodes k) (plc g.nodes k) [((g.nodes.getD k nd0).fl.length:Int),(g.nodes.getD k nd0).cls,(g.nodes.getD k nd0).hash,0]=(((Oi g.nodes k).set (plc g.nodes k) ((g.nodes.getD k nd0).fl.length:Int)).set (plc g.nodes k+1) (g.nodes.getD k nd0).cls).set (plc g.nodes k+2) (g.nodes.getD k nd0).hash):=Jey g.nodes k _ _ _ (by omega)
     have pl:=Sr g.nodes k (by omega)
     have pw:=(pnd (g.nodes.getD k nd0) (by simp [hkl])).2.2.2.2
     obtain ⟨fa',fc',e,_⟩:=id rf
     injection e with e1 e2 e3
     subst e2
     have y0:=C2 B.bel d0
     have y1:=C2 B.bel d1
     have y2:=C2 B.bel d2
     have rfw:=rf
     have x1:=B.g1
     have hki:(k:Int)<(g.nodes.length:Int):=by omega
     have lA:=Ug g.nodes g.nodes.length
     have ca:wr.cell? ⟨gA,k,none⟩=some (.int .i64 ((plc g.nodes k:Nat):Int)):=by
      have q:=B.ats.cell (i:=k) (by rw [lA];exact hkl)
      rwa [Wq _ _ _ hkl] at q
     generalize (g.nodes.getD k nd0).fl=F at *
     generalize (g.nodes.getD k nd0).cls=c at *
     generalize (g.nodes.getD k nd0).hash=z at *
     generalize hP:plc g.nodes k=P at *
     have al:=C5 wr (.cells #[.int .i64 c,.int .i64 z,.slice fa F.length fc] 41)
     have B1:=B.later al
     have hx0:(wr.alloc (.cells #[.int .i64 c,.int .i64 z,.slice fa F.length fc] 41)).cell? ⟨H,0,none⟩=some (.slice (some ⟨gW,0,none⟩) 3200 3200):=B1.box.cell (i:=0) (by omega)
     have ca1:=C2 al ca
     have q0:=E6 wr #[.int .i64 c,.int .i64 z,.slice fa F.length fc] 41 _ rfl 0 _ rfl
     have q1:=E6 wr #[.int .i64 c,.int .i64 z,.slice fa F.length fc] 41 _ rfl 1 _ rfl
     have q2:=E6 wr #[.int .i64 c,.int .i64 z,.slice fa F.length fc] 41 _ rfl 2 _ rfl
     have ltA:gA<wr.heap.size:=B.ats.lt
     have ltW:gW<wr.heap.size:=B.words.lt
     have ltH:H<wr.heap.size:=B.box.lt
     have o1:=B.o1
     have o2:=B.o2
     have o3:=B.o3
     have w1P:IntKind.i64.wrap ((P:Int)+1)=(P:Int)+1:=by rw [IntKind.wrap_i64];omega
     have w2P:IntKind.i64.wrap ((P:Int)+2)=(P:Int)+2:=by rw [IntKind.wrap_i64];omega
     have bP:(P:Int)<3200:=by omega
     have bP1:(P:Int)+1<3200:=by omega
     have bP2:(P:Int)+2<3200:=by omega
     have bP0:(0:Int)<=(P:Int)+1:=by omega
     have bP02:(0:Int)<=(P:Int)+2:=by omega
     have tP1:((P:Int)+1).toNat=P+1:=by omega
     have tP2:((P:Int)+2).toNat=P+2:=by omega
     replace hP:Hid (plc g.nodes k=P):=hP
     clear d0 d1 d2 rf hnc e1 e3
     go_wp2
     refine Disk.z_plain 99 (fun W'=>(W'.cell? ⟨H,0,none⟩=some (.slice (some ⟨gW,0,none⟩) 3200 3200)/\W'.cell? ⟨gA,k,none⟩=some (.int .i64 (P:Nat))/\W'.cell? ⟨wr.heap.size,0,none⟩=some (.int .i64 c)/\W'.cell? ⟨wr.heap.size,1,none⟩=some (.int .i64 z)/\W'.cell? ⟨wr.heap.size,2,none⟩=some (.slice fa F.length fc))) hmx ⟨hx0,ca1,q0,q1,q2⟩ (fun hs=>?_)
     refine Disk.zt 0 53 (v:=.pointer (some ⟨H,0,none⟩)) rfl rfl hs (fun W' hSw=>(by
      obtain ⟨s0,s1,s2,s3,s4⟩:=hSw
      go_simp;first|done|with_reducible rfl)) ?_
     simp only [zA,zB,zC]
     refine Disk.zt 1 54 (v:=.slice (some ⟨gW,0,none⟩) 3200 3200) rfl rfl hs (fun W' hSw=>(by
      obtain ⟨s0,s1,s2,s3,s4⟩:=hSw
      go_simp;first|done|with_reducible rfl)) ?_
     simp only [zA,zB,zC]
     refine Disk.zt 2 55 (v:=.slice (some ⟨gA,0,none⟩) g.nodes.length cA) rfl rfl hs (fun W' hSw=>(by
      obtain ⟨s0,s1,s2,s3,s4⟩:=hSw
      go_simp;first|done|with_reducible rfl)) ?_
     simp only [zA,zB,zC]
     refine Disk.zt 3 56 (v:=.int .i64 (k:Nat)) rfl rfl hs (fun W' hSw=>(by
      obtain ⟨s0,s1,s2,s3,s4⟩:=hSw
      go_simp;first|done|with_reducible rfl)) ?_
     simp only [zA,zB,zC]
     refine Disk.zt 4 57 (v:=.pointer (some ⟨gA,k,none⟩)) rfl rfl hs (fun W' hSw=>(by
      obtain ⟨s0,s1,s2,s3,s4⟩:=hSw
      go_simp;first|done|with_reducible rfl)) ?_
     simp only [zA,zB,zC]
     refine Disk.zt 5 58 (v:=.int .i64 (P:Nat)) rfl rfl hs (fun W' hSw=>(by
      obtain ⟨s0,s1,s2,s3,s4⟩:=hSw
      go_simp;first|done|with_reducible rfl)) ?_
     simp only [zA,zB,zC]
     refine Disk.zt 6 59 (v:=.pointer (some ⟨wr.heap.size,2,none⟩)) rfl rfl hs (fun W' hSw=>(by
      obtain ⟨s0,s1,s2,s3,s4⟩:=hSw
      go_simp;first|done|with_reducible rfl)) ?_
     simp only [zA,zB,zC]
     refine Disk.zt 7 60 (v:=.slice fa F.length fc) rfl rfl hs (fun W' hSw=>(by
      obtain ⟨s0,s1,s2,s3,s4⟩:=hSw
      go_simp;first|done|with_reducible rfl)) ?_
     simp only [zA,zB,zC]
     refine Disk.zt 8 61 (v:=.int .i64 (F.length:Nat)) rfl rfl hs (fun W' hSw=>(by
      obtain ⟨s0,s1,s2,s3,s4⟩:=hSw
      go_simp;first|done|with_reducible rfl)) ?_
     simp only [zA,zB,zC]
     refine Disk.zt 9 62 (v:=.pointer (some ⟨gW,P,none⟩)) rfl rfl hs (fun W' hSw=>(by
      obtain ⟨s0,s1,s2,s3,s4⟩:=hSw
      go_simp;first|done|with_reducible rfl)) ?_
     simp only [zA,zB,zC]
     have wc_wx:=B1.words.cell (i:=P) (by omega)
     have wf_wx:=fun j=>B1.words.frozen j
     have G_wx:=Disk.grown_set (wr.alloc (.cells #[.int .i64 c,.int .i64 z,.slice fa F.length fc] 41)).drew gW (P) (.int .i64 (F.length:Nat))
     have BX:=BS.put (B1.later (Below.refl _ _).drew) G_wx (RI.set (B1.later (Below.refl _ _).drew).words (P) _)
     have hx:(((wr.alloc (.cells #[.int .i64 c,.int .i64 z,.slice fa F.length fc] 41)).drew.setCell ⟨gW,P,none⟩ (.int .i64 (F.length:Nat))).cell? ⟨H,0,none⟩=some (.slice (some ⟨gW,0,none⟩) 3200 3200)/\((wr.alloc (.cells #[.int .i64 c,.int .i64 z,.slice fa F.length fc] 41)).drew.setCell ⟨gW,P,none⟩ (.int .i64 (F.length:Nat))).cell? ⟨gA,k,none⟩=some (.int .i64 (P:Nat))/\((wr.alloc (.cells #[.int .i64 c,.int .i64 z,.slice fa F.length fc] 41)).drew.setCell ⟨gW,P,none⟩ (.int .i64 (F.length:Nat))).cell? ⟨wr.heap.size,0,none⟩=some (.int .i64 c)/\((wr.alloc (.cells #[.int .i64 c,.int .i64 z,.slice fa F.length fc] 41)).drew.setCell ⟨gW,P,none⟩ (.int .i64 (F.length:Nat))).cell? ⟨wr.heap.size,1,none⟩=some (.int .i64 z)/\((wr.alloc (.cells #[.int .i64 c,.int .i64 z,.slice fa F.length fc] 41)).drew.setCell ⟨gW,P,none⟩ (.int .i64 (F.length:Nat))).cell? ⟨wr.heap.size,2,none⟩=some (.slice fa F.length fc)):=⟨G_wx.cell hs.1 (by simp <;> omega),G_wx.cell hs.2.1 (by simp <;> omega),G_wx.cell hs.2.2.1 (by simp <;> omega),G_wx.cell hs.2.2.2.1 (by simp <;> omega),G_wx.cell hs.2.2.2.2 (by simp <;> omega)⟩
     refine Disk.z_skip 10 rfl rfl (by kernel_rfl) (by rfl) (w':=(wr.alloc (.cells #[.int .i64 c,.int .i64 z,.slice fa F.length fc] 41)).drew.setCell ⟨gW,P,none⟩ (.int .i64 (F.length:Nat))) (by go_simp) (.inr hx) ?_
     refine Disk.z_done (by kernel_rfl) ?_ _
     clear hs G_wx wc_wx wf_wx
     generalize (wr.alloc (.cells #[.int .i64 c,.int .i64 z,.slice fa F.length fc] 41)).drew.setCell ⟨gW,P,none⟩ (.int .i64 (F.length:Nat))=wx at *
     go_wp2_with fail
     refine Disk.z_plain 99 (fun W'=>(W'.cell? ⟨H,0,none⟩=some (.slice (some ⟨gW,0,none⟩) 3200 3200)/\W'.cell? ⟨gA,k,none⟩=some (.int .i64 (P:Nat))/\W'.cell? ⟨wr.heap.size,0,none⟩=some (.int .i64 c)/\W'.cell? ⟨wr.heap.size,1,none⟩=some (.int .i64 z)/\W'.cell? ⟨wr.heap.size,2,none⟩=some (.slice fa F.length fc))) hmx hx (fun hs=>?_)
     refine Disk.zt 0 63 (v:=.pointer (some ⟨H,0,none⟩)) rfl rfl hs (fun W' hSw=>(by
      obtain ⟨s0,s1,s2,s3,s4⟩:=hSw
      go_simp;first|done|with_reducible rfl)) ?_
     simp only [zA,zB,zC]
     refine Disk.zt 1 64 (v:=.slice (some ⟨gW,0,none⟩) 3200 3200) rfl rfl hs (fun W' hSw=>(by
      obtain ⟨s0,s1,s2,s3,s4⟩:=hSw
      go_simp;first|done|with_reducible rfl)) ?_
     simp only [zA,zB,zC]
     refine Disk.zt 2 65 (v:=.slice (some ⟨gA,0,none⟩) g.nodes.length cA) rfl rfl hs (fun W' hSw=>(by
      obtain ⟨s0,s1,s2,s3,s4⟩:=hSw
      go_simp;first|done|with_reducible rfl)) ?_
     simp only [zA,zB,zC]
     refine Disk.zt 3 66 (v:=.int .i64 (k:Nat)) rfl rfl hs (fun W' hSw=>(by
      obtain ⟨s0,s1,s2,s3,s4⟩:=hSw
      go_simp;first|done|with_reducible rfl)) ?_
     simp only [zA,zB,zC]
     refine Disk.zt 4 67 (v:=.pointer (some ⟨gA,k,none⟩)) rfl rfl hs (fun W' hSw=>(by
      obtain ⟨s0,s1,s2,s3,s4⟩:=hSw
      go_simp;first|done|with_reducible rfl)) ?_
     simp only [zA,zB,zC]
     refine Disk.zt 5 68 (v:=.int .i64 (P:Nat)) rfl rfl hs (fun W' hSw=>(by
      obtain ⟨s0,s1,s2,s3,s4⟩:=hSw
      go_simp;first|done|with_reducible rfl)) ?_
     simp only [zA,zB,zC]
     refine Disk.zt 6 69 (v:=.int .i64 ((P:Int)+1)) rfl rfl hs (fun W' hSw=>(by
      obtain ⟨s0,s1,s2,s3,s4⟩:=hSw
      go_simp;first|done|with_reducible rfl)) ?_
     simp only [zA,zB,zC]
     refine Disk.zt 7 70 (v:=.pointer (some ⟨wr.heap.size,0,none⟩)) rfl rfl hs (fun W' hSw=>(by
      obtain ⟨s0,s1,s2,s3,s4⟩:=hSw
      go_simp;first|done|with_reducible rfl)) ?_
     simp only [zA,zB,zC]
     refine Disk.zt 8 71 (v:=.int .i64 c) rfl rfl hs (fun W' hSw=>(by
      obtain ⟨s0,s1,s2,s3,s4⟩:=hSw
      go_simp;first|done|with_reducible rfl)) ?_
     simp only [zA,zB,zC]
     refine Disk.zt 9 72 (v:=.pointer (some ⟨gW,P+1,none⟩)) rfl rfl hs (fun W' hSw=>(by
      obtain ⟨s0,s1,s2,s3,s4⟩:=hSw
      go_simp;first|done|with_reducible rfl)) ?_
     simp only [zA,zB,zC]
     have wc_wy:=BX.words.cell (i:=P+1) (by rw [List.length_set];omega)
     have wf_wy:=fun j=>BX.words.frozen j
     have G_wy:=Disk.grown_set wx.drew gW (P+1) (.int .i64 c)
     have BY:=BS.put (BX.later (Below.refl _ _).drew) G_wy (RI.set (BX.later (Below.refl _ _).drew).words (P+1) _)
     have hy:((wx.drew.setCell ⟨gW,P+1,none⟩ (.int .i64 c)).cell? ⟨H,0,none⟩=some (.slice (some ⟨gW,0,none⟩) 3200 3200)/\(wx.drew.setCell ⟨gW,P+1,none⟩ (.int .i64 c)).cell? ⟨gA,k,none⟩=some (.int .i64 (P:Nat))/\(wx.drew.setCell ⟨gW,P+1,none⟩ (.int .i64 c)).cell? ⟨wr.heap.size,0,none⟩=some (.int .i64 c)/\(wx.drew.setCell ⟨gW,P+1,none⟩ (.int .i64 c)).cell? ⟨wr.heap.size,1,none⟩=some (.int .i64 z)/\(wx.drew.setCell ⟨gW,P+1,none⟩ (.int .i64 c)).cell? ⟨wr.heap.size,2,none⟩=some (.slice fa F.length fc)):=⟨G_wy.cell hs.1 (by simp <;> omega),G_wy.cell hs.2.1 (by simp <;> omega),G_wy.cell hs.2.2.1 (by simp <;> omega),G_wy.cell hs.2.2.2.1 (by simp <;> omega),G_wy.cell hs.2.2.2.2 (by simp <;> omega)⟩
     refine Disk.z_skip 10 rfl rfl (by kernel_rfl) (by rfl) (w':=wx.drew.setCell ⟨gW,P+1,none⟩ (.int .i64 c)) (by go_simp) (.inr hy) ?_
     refine Disk.z_done (by kernel_rfl) ?_ _
     clear hs G_wy wc_wy wf_wy
     generalize wx.drew.setCell ⟨gW,P+1,none⟩ (.int .i64 c)=wy at *
     go_wp2_with fail
     refine Disk.z_plain 99 (fun W'=>(W'.cell? ⟨H,0,none⟩=some (.slice (some ⟨gW,0,none⟩) 3200 3200)/\W'.cell? ⟨gA,k,none⟩=some (.int .i64 (P:Nat))/\W'.cell? ⟨wr.heap.size,0,none⟩=some (.int .i64 c)/\W'.cell? ⟨wr.heap.size,1,none⟩=some (.int .i64 z)/\W'.cell? ⟨wr.heap.size,2,none⟩=some (.slice fa F.length fc))) hmx hy (fun hs=>?_)
     refine Disk.zt 0 73 (v:=.pointer (some ⟨H,0,none⟩)) rfl rfl hs (fun W' hSw=>(by
      obtain ⟨s0,s1,s2,s3,s4⟩:=hSw
      go_simp;first|done|with_reducible rfl)) ?_
     simp only [zA,zB,zC]
     refine Disk.zt 1 74 (v:=.slice (some ⟨gW,0,none⟩) 3200 3200) rfl rfl hs (fun W' hSw=>(by
      obtain ⟨s0,s1,s2,s3,s4⟩:=hSw
      go_simp;first|done|with_reducible rfl)) ?_
     simp only [zA,zB,zC]
     refine Disk.zt 2 75 (v:=.slice (some ⟨gA,0,none⟩) g.nodes.length cA) rfl rfl hs (fun W' hSw=>(by
      obtain ⟨s0,s1,s2,s3,s4⟩:=hSw
      go_simp;first|done|with_reducible rfl)) ?_
     simp only [zA,zB,zC]
     refine Disk.zt 3 76 (v:=.int .i64 (k:Nat)) rfl rfl hs (fun W' hSw=>(by
      obtain ⟨s0,s1,s2,s3,s4⟩:=hSw
      go_simp;first|done|with_reducible rfl)) ?_
     simp only [zA,zB,zC]
     refine Disk.zt 4 77 (v:=.pointer (some ⟨gA,k,none⟩)) rfl rfl hs (fun W' hSw=>(by
      obtain ⟨s0,s1,s2,s3,s4⟩:=hSw
      go_simp;first|done|with_reducible rfl)) ?_
     simp only [zA,zB,zC]
     refine Disk.zt 5 78 (v:=.int .i64 (P:Nat)) rfl rfl hs (fun W' hSw=>(by
      obtain ⟨s0,s1,s2,s3,s4⟩:=hSw
      go_simp;first|done|with_reducible rfl)) ?_
     simp only [zA,zB,zC]
     refine Disk.zt 6 79 (v:=.int .i64 ((P:Int)+2)) rfl rfl hs (fun W' hSw=>(by
      obtain ⟨s0,s1,s2,s3,s4⟩:=hSw
      go_simp;first|done|with_reducible rfl)) ?_
     simp only [zA,zB,zC]
     refine Disk.zt 7 80 (v:=.pointer (some ⟨wr.heap.size,1,none⟩)) rfl rfl hs (fun W' hSw=>(by
      obtain ⟨s0,s1,s2,s3,s4⟩:=hSw
      go_simp;first|done|with_reducible rfl)) ?_
     simp only [zA,zB,zC]
     refine Disk.zt 8 81 (v:=.int .i64 z) rfl rfl hs (fun W' hSw=>(by
      obtain ⟨s0,s1,s2,s3,s4⟩:=hSw
      go_simp;first|done|with_reducible rfl)) ?_
     simp only [zA,zB,zC]
     refine Disk.zt 9 82 (v:=.pointer (some ⟨gW,P+2,none⟩)) rfl rfl hs (fun W' hSw=>(by
      obtain ⟨s0,s1,s2,s3,s4⟩:=hSw
      go_simp;first|done|with_reducible rfl)) ?_
     simp only [zA,zB,zC]
     have wc_wz:=BY.words.cell (i:=P+2) (by rw [List.length_set,List.length_set];omega)
     have wf_wz:=fun j=>BY.words.frozen j
     have G_wz:=Disk.grown_set wy.drew gW (P+2) (.int .i64 z)
     have BZ:=BS.put (BY.later (Below.refl _ _).drew) G_wz (RI.set (BY.later (Below.refl _ _).drew).words (P+2) _)
     have hz:((wy.drew.setCell ⟨gW,P+2,none⟩ (.int .i64 z)).cell? ⟨H,0,none⟩=some (.slice (some ⟨gW,0,none⟩) 3200 3200)/\(wy.drew.setCell ⟨gW,P+2,none⟩ (.int .i64 z)).cell? ⟨gA,k,none⟩=some (.int .i64 (P:Nat))/\(wy.drew.setCell ⟨gW,P+2,none⟩ (.int .i64 z)).cell? ⟨wr.heap.size,0,none⟩=some (.int .i64 c)/\(wy.drew.setCell ⟨gW,P+2,none⟩ (.int .i64 z)).cell? ⟨wr.heap.size,1,none⟩=some (.int .i64 z)/\(wy.drew.setCell ⟨gW,P+2,none⟩ (.int .i64 z)).cell? ⟨wr.heap.size,2,none⟩=some (.slice fa F.length fc)):=⟨G_wz.cell hs.1 (by simp <;> omega),G_wz.cell hs.2.1 (by simp <;> omega),G_wz.cell hs.2.2.1 (by simp <;> omega),G_wz.cell hs.2.2.2.1 (by simp <;> omega),G_wz.cell hs.2.2.2.2 (by simp <;> omega)⟩
     refine Disk.z_skip 10 rfl rfl (by kernel_rfl) (by rfl) (w':=wy.drew.setCell ⟨gW,P+2,none⟩ (.int .i64 z)) (by go_simp) (.inr hz) ?_
     refine Disk.z_done (by kernel_rfl) ?_ _
     clear hs G_wz wc_wz wf_wz
     generalize wy.drew.setCell ⟨gW,P+2,none⟩ (.int .i64 z)=wz at *
     rw [<- S4.out] at BZ
     clear BX BY hx hy B B1 hx0 ca1 q0 q1 q2 y0 y1 y2 al ca S4
     generalize hnx:wr.heap.size=nbx at *
     clear hnx
     have z2:=hz.2.2.2.2
     have pn0:=BZ.words.lt
     have lL:(F.map (rnI g.nodes)).length=F.length:=List.length_map ..
     generalize hL:F.map (rnI g.nodes)=L at *
     have hLj:Hid (∀ j,j<F.length->L.getD j 0=rnI g.nodes (F.getD j 0)):=(fun j hj=>by rw [<- hL];simp [hj]:∀ j,j<F.length->L.getD j 0=rnI g.nodes (F.getD j 0))
     clear hL
     generalize hX:splice (Oi g.nodes k) P [(F.length:Int),c,z,0]=X at *
     have lX:Hid (X.length=3200):=(by rw [<- hX,length_splice _ _ _ (by simp;omega)];exact pl:X.length=3200)
     clear hX pl
     rw [<- Jcy X (P+4),← List.take_zero (l:=L)] at BZ
     have nbW:nbx ≠ gW:=by omega
     have nbH:nbx ≠ H:=by omega
     clear hz pnd
     go_wp2
     go_loopw [8] (fun jv wr=>∃ j:Nat,j<=F.length/\jv=.int .i64 j/\wr.cell? ⟨nbx,2,none⟩=some (.slice fa F.length fc)/\BS w wr g ra rc (some ⟨nb,no,none⟩) nc gW H gA cA (.slice none 0 0) ((plc g.nodes g.nodes.length:Nat):Int) (splice X (P+4) (L.take j)) (plA g.nodes g.nodes.length)) (fun jv _=>F.length - (intOf jv).toNat)
     case atStart=>exact ⟨0,Nat.zero_le _,rfl,z2,BZ⟩
     case round =>
      clear BZ z2 pn0
      obtain ⟨j,hj,rfl,z2,B⟩:=hrel
      by_cases hjl:j<F.length
      ·have hji:(j:Int)<(F.length:Int):=by omega
       obtain ⟨fo,fcp,ef,_,hff⟩:=id rfw
       obtain ⟨fb,fp,rfl,cf⟩:=hff j hjl
       simp only [Value.slice.injEq,true_and] at ef
       obtain ⟨rfl,rfl⟩:=ef
       have cf1:=C2 B.bel cf
       have pwx:=pw (F.getD j 0) (by simp [hjl])
       have hLv:=hLj.out j hjl
       have SST:Hid ((splice X (P+4) (L.take j)).set (P+4+j) (L.getD j 0)=splice X (P+4) (L.take (j+1))):=Jas X L (P+4) j (by omega) (by rw [lX.out];omega)
       have lSp:Hid ((splice X (P+4) (L.take j)).length=3200):=(by rw [length_splice _ _ _ (by rw [List.length_take,lX.out];omega)];exact lX.out:(splice X (P+4) (L.take j)).length=3200)
       have hx0:wr.cell? ⟨H,0,none⟩=some (.slice (some ⟨gW,0,none⟩) 3200 3200):=B.box.cell (i:=0) (by omega)
       have ca:wr.cell? ⟨gA,k,none⟩=some (.int .i64 (P:Nat)):=by
        have q:=B.ats.cell (i:=k) (by rw [lA];exact hkl)
        rw [Wq _ _ _ hkl,hP.out] at q
        exact q
       have wcX:=B.words.cell (i:=P+4+j) (by rw [lSp.out];omega)
       have wfX:=fun i=>B.words.frozen i
       generalize L.getD j 0=y at *
       generalize hxv:F.getD j 0=x at *
       have u1:IntKind.i64.wrap ((P:Int)+4)=(P:Int)+4:=by rw [IntKind.wrap_i64];omega
       have u2:IntKind.i64.wrap ((P:Int)+4+j)=(P:Int)+4+j:=by rw [IntKind.wrap_i64];omega
       have u3:(0:Int)<=(P:Int)+4+j:=by omega
       have u4:(P:Int)+4+j<3200:=by omega
       have u5:((P:Int)+4+j).toNat=P+4+j:=by omega
       clear hff cf hxv
       by_cases hev:x % 2=0
       ·rw [Jbt hev] at hLv
        have tm:(x.tmod 2 != 0)=false:=by
         have q:=L9 x
         rw [decide_eq_true hev] at q
         simp only [bne,q]
         rfl
        rw [hLv] at SST
        clear hLv
        go_wp2
        refine Disk.z_plain 99 (fun W'=>(W'.cell? ⟨H,0,none⟩=some (.slice (some ⟨gW,0,none⟩) 3200 3200)/\W'.cell? ⟨gA,k,none⟩=some (.int .i64 (P:Nat))/\W'.cell? ⟨nbx,2,none⟩=some (.slice (some ⟨fb,fp,none⟩) F.length fc))) hmx ⟨hx0,ca,z2⟩ (fun hs=>?_)
        refine Disk.zt 0 105 (v:=.pointer (some ⟨H,0,none⟩)) rfl rfl hs (fun W' hSw=>(by
         obtain ⟨s0,s1,s2⟩:=hSw
         go_simp;first|done|with_reducible rfl)) ?_
        simp only [zA,zB,zC]
        refine Disk.zt 1 106 (v:=.slice (some ⟨gW,0,none⟩) 3200 3200) rfl rfl hs (fun W' hSw=>(by
         obtain ⟨s0,s1,s2⟩:=hSw
         go_simp;first|done|with_reducible rfl)) ?_
        simp only [zA,zB,zC]
        refine Disk.zt 2 107 (v:=.slice (some ⟨gA,0,none⟩) g.nodes.length cA) rfl rfl hs (fun W' hSw=>(by
         obtain ⟨s0,s1,s2⟩:=hSw
         go_simp;first|done|with_reducible rfl)) ?_
        simp only [zA,zB,zC]
        refine Disk.zt 3 108 (v:=.int .i64 (k:Nat)) rfl rfl hs (fun W' hSw=>(by
         obtain ⟨s0,s1,s2⟩:=hSw
         go_simp;first|done|with_reducible rfl)) ?_
        simp only [zA,zB,zC]
        refine Disk.zt 4 109 (v:=.pointer (some ⟨gA,k,none⟩)) rfl rfl hs (fun W' hSw=>(by
         obtain ⟨s0,s1,s2⟩:=hSw
         go_simp;first|done|with_reducible rfl)) ?_
        simp only [zA,zB,zC]
        refine Disk.zt 5 110 (v:=.int .i64 (P:Nat)) rfl rfl hs (fun W' hSw=>(by
         obtain ⟨s0,s1,s2⟩:=hSw
         go_simp;first|done|with_reducible rfl)) ?_
        simp only [zA,zB,zC]
        refine Disk.zt 6 111 (v:=.int .i64 ((P:Int)+4)) rfl rfl hs (fun W' hSw=>(by
         obtain ⟨s0,s1,s2⟩:=hSw
         go_simp;first|done|with_reducible rfl)) ?_
        simp only [zA,zB,zC]
        refine Disk.zt 7 112 (v:=.int .i64 (j:Nat)) rfl rfl hs (fun W' hSw=>(by
         obtain ⟨s0,s1,s2⟩:=hSw
         go_simp;first|done|with_reducible rfl)) ?_
        simp only [zA,zB,zC]
        refine Disk.zt 8 113 (v:=.int .i64 ((P:Int)+4+j)) rfl rfl hs (fun W' hSw=>(by
         obtain ⟨s0,s1,s2⟩:=hSw
         go_simp;first|done|with_reducible rfl)) ?_
        simp only [zA,zB,zC]
        refine Disk.zt 9 114 (v:=.int .i64 x) rfl rfl hs (fun W' hSw=>(by
         obtain ⟨s0,s1,s2⟩:=hSw
         go_simp;first|done|with_reducible rfl)) ?_
        simp only [zA,zB,zC]
        refine Disk.zt 10 115 (v:=.pointer (some ⟨gW,P+4+j,none⟩)) rfl rfl hs (fun W' hSw=>(by
         obtain ⟨s0,s1,s2⟩:=hSw
         go_simp;first|done|with_reducible rfl)) ?_
        simp only [zA,zB,zC]
        have G:=Disk.grown_set wr.drew gW (P+4+j) (.int .i64 x)
        have BN:=BS.put (B.later (Below.refl _ _).drew) G (RI.set (B.later (Below.refl _ _).drew).words (P+4+j) _)
        rw [SST.out] at BN
        have hn2:((wr.drew.setCell ⟨gW,P+4+j,none⟩ (.int .i64 x)).cell? ⟨H,0,none⟩=some (.slice (some ⟨gW,0,none⟩) 3200 3200)/\(wr.drew.setCell ⟨gW,P+4+j,none⟩ (.int .i64 x)).cell? ⟨gA,k,none⟩=some (.int .i64 (P:Nat))/\(wr.drew.setCell ⟨gW,P+4+j,none⟩ (.int .i64 x)).cell? ⟨nbx,2,none⟩=some (.slice (some ⟨fb,fp,none⟩) F.length fc)):=⟨G.cell hs.1 (by simp <;> omega),G.cell hs.2.1 (by simp <;> omega),G.cell hs.2.2 (by simp <;> omega)⟩
        refine Disk.z_skip 11 rfl rfl (by kernel_rfl) (by rfl) (w':=wr.drew.setCell ⟨gW,P+4+j,none⟩ (.int .i64 x)) (by go_simp) (.inr hn2) ?_
        refine Disk.z_done (by kernel_rfl) ?_ _
        have zn:=hn2.2.2
        clear hs G wcX wfX hn2 B hx0 ca z2 cf1
        generalize wr.drew.setCell ⟨gW,P+4+j,none⟩ (.int .i64 x)=wn at *
        go_wp2
        exact ⟨⟨j+1,by omega,by go_num,zn,BN⟩,by simp [intOf];omega⟩
       ·have pxo:0<x/\x / 2<(g.nodes.length:Int):=by
         unfold M9 at pwx
         rw [if_neg hev] at pwx
         exact of_decide_eq_true pwx
        obtain ⟨px1,px2⟩:=pxo
        rw [Jer hev px1 px2 pn] at hLv
        have tm:(x.tmod 2 != 0)=true:=by
         have q:=L9 x
         rw [decide_eq_false hev] at q
         simp only [bne,q]
         rfl
        obtain ⟨qn,hqn⟩:∃ qn:Nat,x / 2=qn:=⟨(x / 2).toNat,by omega⟩
        have td:x.tdiv 2=(qn:Int):=by rw [Int.tdiv_eq_ediv_of_nonneg (by omega),hqn]
        rw [hqn,Int.toNat_natCast] at hLv
        have hql:qn<g.nodes.length:=by omega
        have hqi:(qn:Int)<(g.nodes.length:Int):=by omega
        have cq:wr.cell? ⟨gA,qn,none⟩=some (.int .i64 ((plc g.nodes qn:Nat):Int)):=by
         have q:=B.ats.cell (i:=qn) (by rw [lA];exact hql)
         rw [Wq _ _ _ hql] at q
         exact q
        have hQ:plc g.nodes qn<=2000:=by have:=Z7 hql;omega
        generalize plc g.nodes qn=Q at *
        have hQi:(Q:Int)<=2000:=by omega
        clear px2 pwx
        subst hLv
        go_wp2
        refine Disk.z_plain 99 (fun W'=>(W'.cell? ⟨H,0,none⟩=some (.slice (some ⟨gW,0,none⟩) 3200 3200)/\W'.cell? ⟨gA,k,none⟩=some (.int .i64 (P:Nat))/\W'.cell? ⟨nbx,2,none⟩=some (.slice (some ⟨fb,fp,none⟩) F.length fc))) hmx ⟨hx0,ca,z2⟩ (fun hs=>?_)
        refine Disk.zt 0 105 (v:=.pointer (some ⟨H,0,none⟩)) rfl rfl hs (fun W' hSw=>(by
         obtain ⟨s0,s1,s2⟩:=hSw
         go_simp;first|done|with_reducible rfl)) ?_
        simp only [zA,zB,zC]
        refine Disk.zt 1 106 (v:=.slice (some ⟨gW,0,none⟩) 3200 3200) rfl rfl hs (fun W' hSw=>(by
         obtain ⟨s0,s1,s2⟩:=hSw
         go_simp;first|done|with_reducible rfl)) ?_
        simp only [zA,zB,zC]
        refine Disk.zt 2 107 (v:=.slice (some ⟨gA,0,none⟩) g.nodes.length cA) rfl rfl hs (fun W' hSw=>(by
         obtain ⟨s0,s1,s2⟩:=hSw
         go_simp;first|done|with_reducible rfl)) ?_
        simp only [zA,zB,zC]
        refine Disk.zt 3 108 (v:=.int .i64 (k:Nat)) rfl rfl hs (fun W' hSw=>(by
         obtain ⟨s0,s1,s2⟩:=hSw
         go_simp;first|done|with_reducible rfl)) ?_
        simp only [zA,zB,zC]
        refine Disk.zt 4 109 (v:=.pointer (some ⟨gA,k,none⟩)) rfl rfl hs (fun W' hSw=>(by
         obtain ⟨s0,s1,s2⟩:=hSw
         go_simp;first|done|with_reducible rfl)) ?_
        simp only [zA,zB,zC]
        refine Disk.zt 5 110 (v:=.int .i64 (P:Nat)) rfl rfl hs (fun W' hSw=>(by
         obtain ⟨s0,s1,s2⟩:=hSw
         go_simp;first|done|with_reducible rfl)) ?_
        simp only [zA,zB,zC]
        refine Disk.zt 6 111 (v:=.int .i64 ((P:Int)+4)) rfl rfl hs (fun W' hSw=>(by
         obtain ⟨s0,s1,s2⟩:=hSw
         go_simp;first|done|with_reducible rfl)) ?_
        simp only [zA,zB,zC]
        refine Disk.zt 7 112 (v:=.int .i64 (j:Nat)) rfl rfl hs (fun W' hSw=>(by
         obtain ⟨s0,s1,s2⟩:=hSw
         go_simp;first|done|with_reducible rfl)) ?_
        simp only [zA,zB,zC]
        refine Disk.zt 8 113 (v:=.int .i64 ((P:Int)+4+j)) rfl rfl hs (fun W' hSw=>(by
         obtain ⟨s0,s1,s2⟩:=hSw
         go_simp;first|done|with_reducible rfl)) ?_
        simp only [zA,zB,zC]
        refine Disk.zt 9 114 (v:=.int .i64 (2 * (Q:Int)+1)) rfl rfl hs (fun W' hSw=>(by
         obtain ⟨s0,s1,s2⟩:=hSw
         go_simp;first|done|with_reducible rfl)) ?_
        simp only [zA,zB,zC]
        refine Disk.zt 10 115 (v:=.pointer (some ⟨gW,P+4+j,none⟩)) rfl rfl hs (fun W' hSw=>(by
         obtain ⟨s0,s1,s2⟩:=hSw
         go_simp;first|done|with_reducible rfl)) ?_
        simp only [zA,zB,zC]
        have G:=Disk.grown_set wr.drew gW (P+4+j) (.int .i64 (2 * (Q:Int)+1))
        have BN:=BS.put (B.later (Below.refl _ _).drew) G (RI.set (B.later (Below.refl _ _).drew).words (P+4+j) _)
        rw [SST.out] at BN
        have hn2:((wr.drew.setCell ⟨gW,P+4+j,none⟩ (.int .i64 (2 * (Q:Int)+1))).cell? ⟨H,0,none⟩=some (.slice (some ⟨gW,0,none⟩) 3200 3200)/\(wr.drew.setCell ⟨gW,P+4+j,none⟩ (.int .i64 (2 * (Q:Int)+1))).cell? ⟨gA,k,none⟩=some (.int .i64 (P:Nat))/\(wr.drew.setCell ⟨gW,P+4+j,none⟩ (.int .i64 (2 * (Q:Int)+1))).cell? ⟨nbx,2,none⟩=some (.slice (some ⟨fb,fp,none⟩) F.length fc)):=⟨G.cell hs.1 (by simp <;> omega),G.cell hs.2.1 (by simp <;> omega),G.cell hs.2.2 (by simp <;> omega)⟩
        refine Disk.z_skip 11 rfl rfl (by kernel_rfl) (by rfl) (w':=wr.drew.setCell ⟨gW,P+4+j,none⟩ (.int .i64 (2 * (Q:Int)+1))) (by go_simp) (.inr hn2) ?_
        refine Disk.z_done (by kernel_rfl) ?_ _
        have zn:=hn2.2.2
        clear hs G wcX wfX hn2 B hx0 ca z2 cf1
        generalize wr.drew.setCell ⟨gW,P+4+j,none⟩ (.int .i64 (2 * (Q:Int)+1))=wn at *
        go_wp2
        exact ⟨⟨j+1,by omega,by go_num,zn,BN⟩,by simp [intOf];omega⟩
      ·obtain rfl:j=F.length:=by omega
       rw [List.take_of_length_le (by omega),PS.out] at B
       go_wp2
       exact ⟨⟨k+1,by omega,by go_num,B⟩,by simp [intOf];omega⟩
    ·obtain rfl:k=g.nodes.length:=by omega
     rw [Jcj] at B
     have x0:=B.g0
     have x1:=B.g1
     have BR:∃ (ro:Option Addr) (cR:Nat),BS w wr g ra rc na nc gW H gA cA (.slice ro 0 cR) ((plc g.nodes g.nodes.length:Nat):Int) (M0 g.nodes) (plA g.nodes g.nodes.length)/\wr.ownsRow (H+1) 2 1 (.slice ro 0 cR) 0 (icells ((g.roots.map (rnI g.nodes)).take 0))/\∀ b,(Value.slice ro 0 cR).ownBlock=some b->b ≠ gA:=⟨none,0,B,⟨by simp [icells],.inl ⟨rfl,rfl⟩⟩,fun b q=>by cases q⟩
     clear hkl hk hn pnd pu
     go_wp2
     go_loopw [10] (fun iv wr=>∃ j:Nat,j<=g.roots.length/\iv=.int .i64 j/\∃ (ro:Option Addr) (cR:Nat),BS w wr g ra rc na nc gW H gA cA (.slice ro j cR) ((plc g.nodes g.nodes.length:Nat):Int) (M0 g.nodes) (plA g.nodes g.nodes.length)/\wr.ownsRow (H+1) 2 1 (.slice ro j cR) j (icells ((g.roots.map (rnI g.nodes)).take j))/\∀ b,(Value.slice ro j cR).ownBlock=some b->b ≠ gA) (fun iv _=>g.roots.length - (intOf iv).toNat)
     case atStart=>exact ⟨0,Nat.zero_le _,rfl,BR⟩
     case round =>
      clear B x0 x1 BR
      obtain ⟨j,hj,rfl,ro,cR,B,OW,NA⟩:=hrel
      have x0:=B.g0
      have lA:=Ug g.nodes g.nodes.length
      by_cases hjl:j<g.roots.length
      ·have hji:(j:Int)<(g.roots.length:Int):=by omega
       obtain ⟨rb,rp,ef,_,hff⟩:=id hr
       obtain ⟨fb,fp,rfl,cf⟩:=hff j hjl
       simp only [Value.slice.injEq,true_and] at ef
       obtain ⟨rfl,rfl⟩:=ef
       have cf1:=C2 B.bel cf
       have pwx:=pro (g.roots.getD j 0) (by simp [hjl])
       have TS:Hid ((g.roots.map (rnI g.nodes)).take (j+1)=(g.roots.map (rnI g.nodes)).take j ++ [rnI g.nodes (g.roots.getD j 0)]):=(by rw [Rc _ _ (by rw [List.length_map];exact hjl)];simp [hjl]:(g.roots.map (rnI g.nodes)).take (j+1)=(g.roots.map (rnI g.nodes)).take j ++ [rnI g.nodes (g.roots.getD j 0)])
       have hb1:wr.cell? ⟨H,1,none⟩=some (.slice ro j cR):=B.box.cell (i:=1) (by omega)
       have fzH:=fun i=>B.box.frozen i
       have ltH:H<wr.heap.size:=B.box.lt
       have o3:=B.o3
       have lta:gA<wr.heap.size:=B.ats.lt
       have hc1:∀ (W:World) (y:Int),(W.alloc (.cells #[.int .i64 y] 2)).cell? ⟨W.heap.size,0,none⟩=some (.int .i64 y):=fun W y=>by simp
       have FIN:Hid (∀ (y:Int) (v' : Value) (w' : World),rnI g.nodes (g.roots.getD j 0)=y->w'.ownsRow (H+1) 2 1 v' (j+1) (icells ((g.roots.map (rnI g.nodes)).take j) ++ [.int .i64 y])->(wr.alloc (.cells #[.int .i64 y] 2)).grownBy w' (Value.slice ro j cR).ownBlock->(v'.ownBlock=(Value.slice ro j cR).ownBlock ∨ v'.ownBlock=some (wr.alloc (.cells #[.int .i64 y] 2)).heap.size) →
         BS w w' g (some ⟨fb,fp,none⟩) rc na nc gW H gA cA (.slice ro j cR) ((plc g.nodes g.nodes.length:Nat):Int) (M0 g.nodes) (plA g.nodes g.nodes.length)/\w'.ownsRow (H+1) 2 1 v' (j+1) (icells ((g.roots.map (rnI g.nodes)).take (j+1)))/\∀ b,v'.ownBlock=some b->b ≠ gA):=fun y v' w' e ow gr lo=>by
        subst e
        refine ⟨(B.later (C5 wr _)).grow gr (fun b q=>⟨Jmu OW q,NA b q⟩),by rw [TS.out];simpa [icells] using ow,fun b q=>?_⟩
        rcases lo with l|l
        ·exact NA b (by rw [<- l];exact q)
        ·rw [l] at q
         simp at q
         omega
       have hev0:Hid (∀ x:Int,x % 2=0->rnI g.nodes x=x):=(fun x q=>Jbt q:∀ x:Int,x % 2=0->rnI g.nodes x=x)
       generalize hx:g.roots.getD j 0=x at *
       have OW1:=fun y=>E8 OW (C5 wr (.cells #[.int .i64 y] 2))
       have hB1:∀ y:Int,H+1<=(wr.alloc (.cells #[.int .i64 y] 2)).heap.size:=fun y=>by simp;omega
       clear hff cf hx TS
       by_cases hev:x % 2=0
       ·have hLv:rnI g.nodes x=x:=hev0.out x hev
        have tm:(x.tmod 2 != 0)=false:=by
         have q:=L9 x
         rw [decide_eq_true hev] at q
         simp only [bne,q]
         rfl
        replace hLv:Hid (rnI g.nodes x=x):=hLv
        have W1:=OW1 x
        have W2:=hB1 x
        go_wp2_with (at_builtin;refine St _ rfl _ _ rfl (H+1) _ j _ rfl W1 _ 1 x rfl (hc1 _ _) (by omega) W2 ?_;intro v4 w4 ow4 gr4 lo4;have FF:=FIN.out x v4 w4 hLv.out ow4 gr4 lo4;obtain ⟨ro',cR',rfl⟩:=Xk FF.2.1;have b1':=FF.1.box.cell (i:=1) (by omega);have fz':=fun i=>FF.1.box.frozen i)
        exact ⟨⟨j+1,by omega,by go_num,ro',cR',FF.1.rts _,U9 FF.2.1 (Nat.lt_succ_self _),FF.2.2⟩,by simp [intOf];omega⟩
       ·have pxo:0<x/\x / 2<(g.nodes.length:Int):=by
         unfold M9 at pwx
         rw [if_neg hev] at pwx
         exact of_decide_eq_true pwx
        obtain ⟨px1,px2⟩:=pxo
        have hLv:=Jer hev px1 px2 pn
        have tm:(x.tmod 2 != 0)=true:=by
         have q:=L9 x
         rw [decide_eq_false hev] at q
         simp only [bne,q]
         rfl
        obtain ⟨qn,hqn⟩:∃ qn:Nat,x / 2=qn:=⟨(x / 2).toNat,by omega⟩
        have td:x.tdiv 2=(qn:Int):=by rw [Int.tdiv_eq_ediv_of_nonneg (by omega),hqn]
        rw [hqn,Int.toNat_natCast] at hLv
        have hql:qn<g.nodes.length:=by omega
        have hqi:(qn:Int)<(g.nodes.length:Int):=by omega
        have cq:wr.cell? ⟨gA,qn,none⟩=some (.int .i64 ((plc g.nodes qn:Nat):Int)):=by
         have q:=B.ats.cell (i:=qn) (by rw [lA];exact hql)
         rw [Wq _ _ _ hql] at q
         exact q
        have hQ:plc g.nodes qn<=2000:=by have:=Z7 hql;omega
        generalize plc g.nodes qn=Q at *
        have hQi:(Q:Int)<=2000:=by omega
        clear px2 pwx
        replace hLv:Hid (rnI g.nodes x=2 * (Q:Int)+1):=hLv
        have W1:=OW1 (2 * (Q:Int)+1)
        have W2:=hB1 (2 * (Q:Int)+1)
        go_wp2_with (at_builtin;refine St _ rfl _ _ rfl (H+1) _ j _ rfl W1 _ 1 (2 * (Q:Int)+1) rfl (hc1 _ _) (by omega) W2 ?_;intro v4 w4 ow4 gr4 lo4;have FF:=FIN.out (2 * (Q:Int)+1) v4 w4 hLv.out ow4 gr4 lo4;obtain ⟨ro',cR',rfl⟩:=Xk FF.2.1;have b1':=FF.1.box.cell (i:=1) (by omega);have fz':=fun i=>FF.1.box.frozen i)
        exact ⟨⟨j+1,by omega,by go_num,ro',cR',FF.1.rts _,U9 FF.2.1 (Nat.lt_succ_self _),FF.2.2⟩,by simp [intOf];omega⟩
      ·obtain rfl:j=g.roots.length:=by omega
       rw [List.take_of_length_le (by rw [List.length_map];omega)] at OW
       have bx:=B.box
       obtain ⟨fk,KX⟩:=B.res
       have OKC:(#[.slice (some ⟨gW,0,none⟩) 3200 3200,.slice ro g.roots.length cR,.int .i64 ((plc g.nodes g.nodes.length:Nat):Int),.int .i64 2000,.int .i64 2600,.bool false,.int .i64 g.hash,.slice none 0 0]:Array Value).all (·.oneCell')=true:=by simp [Value.oneCell']
       have h0:wr.cell? ⟨H,0,none⟩=some (.slice (some ⟨gW,0,none⟩) 3200 3200):=bx.cell (i:=0) (by omega)
       have h1:wr.cell? ⟨H,1,none⟩=some (.slice ro g.roots.length cR):=bx.cell (i:=1) (by omega)
       have h2:wr.cell? ⟨H,2,none⟩=some (.int .i64 ((plc g.nodes g.nodes.length:Nat):Int)):=bx.cell (i:=2) (by omega)
       have h3:wr.cell? ⟨H,3,none⟩=some (.int .i64 2000):=bx.cell (i:=3) (by omega)
       have h4:wr.cell? ⟨H,4,none⟩=some (.int .i64 2600):=bx.cell (i:=4) (by omega)
       have h5:wr.cell? ⟨H,5,none⟩=some (.bool false):=bx.cell (i:=5) (by omega)
       have h6:wr.cell? ⟨H,6,none⟩=some (.int .i64 g.hash):=bx.cell (i:=6) (by omega)
       have h7:wr.cell? ⟨H,7,none⟩=some (.slice none 0 0):=bx.cell (i:=7) (by omega)
       have ltH:=bx.lt
       have o1:=B.o1
       have o2:=B.o2
       have o3:=B.o3
       clear hr pro
       go_wp2_with ((with_reducible refine C9 _ ?_ (.tmp 2) (.tmp 144) 30 ?_ 30 (w.heap.size+1) 8 #[.slice (some ⟨gW,0,none⟩) 3200 3200,.slice ro g.roots.length cR,.int .i64 ((plc g.nodes g.nodes.length:Nat):Int),.int .i64 2000,.int .i64 2600,.bool false,.int .i64 g.hash,.slice none 0 0] fk ?_ ?_ KX ?_ ?_ OKC ?_);rfl;rfl;rfl;rfl;rfl;kernel_rfl;intro w9 K9 G9;have r0:w9.cell? ⟨w.heap.size+1,0,none⟩=some (.slice (some ⟨gW,0,none⟩) 3200 3200):=K9.cell (i:=0) (by omega);have r1:w9.cell? ⟨w.heap.size+1,1,none⟩=some (.slice ro g.roots.length cR):=K9.cell (i:=1) (by omega);have r2:w9.cell? ⟨w.heap.size+1,2,none⟩=some (.int .i64 ((plc g.nodes g.nodes.length:Nat):Int)):=K9.cell (i:=2) (by omega);have r3:w9.cell? ⟨w.heap.size+1,3,none⟩=some (.int .i64 2000):=K9.cell (i:=3) (by omega);have r4:w9.cell? ⟨w.heap.size+1,4,none⟩=some (.int .i64 2600):=K9.cell (i:=4) (by omega);have r5:w9.cell? ⟨w.heap.size+1,5,none⟩=some (.bool false):=K9.cell (i:=5) (by omega);have r6:w9.cell? ⟨w.heap.size+1,6,none⟩=some (.int .i64 g.hash):=K9.cell (i:=6) (by omega);have r7:w9.cell? ⟨w.heap.size+1,7,none⟩=some (.slice none 0 0):=K9.cell (i:=7) (by omega))
       have B9:Below w.heap.size w w9:=Below.grown B.bel G9 B.bel.size (fun k hk=>by cases hk;omega)
       have HF:=Jjo pp (B.words.grown G9 (by simp <;> omega)) (U2 OW G9 (by omega)) (show w.heap.size<=gW by omega) o2
       exact bodyPost_ret (v:=.agg #[.slice (some ⟨gW,0,none⟩) 3200 3200,.slice ro g.roots.length cR,.int .i64 ((plc g.nodes g.nodes.length:Nat):Int),.int .i64 2000,.int .i64 2600,.bool false,.int .i64 g.hash,.slice none 0 0]) (by simp [results,Tryz.results22,go_sem,r0,r1,r2,r3,r4,r5,r6,r7]) rfl ⟨⟨_,rfl,HF⟩,B9⟩
end Go.Proofs.YtboiknllmnfipaaGreatDoor
