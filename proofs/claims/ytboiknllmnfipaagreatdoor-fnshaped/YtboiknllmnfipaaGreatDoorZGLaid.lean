import Derived.Test.YtboiknllmnfipaaGreatDoorZU21
namespace Go.Proofs.YtboiknllmnfipaaGreatDoor
open Go.RowKit
def Jnk (g:Gr) (B:Nat) (e:Ending) (w' : World):Prop :=
 (plc g.nodes g.nodes.length<=2000/\∃ u,e=.returned (.tuple #[u,.bool true])/\HN B w' u (C4 g)) ∨ (2000<plc g.nodes g.nodes.length/\e=.returned (.tuple #[.agg #[.slice none 0 0,.slice none 0 0,.int .i64 0,.int .i64 0,.int .i64 0,.bool false,.int .i64 0,.slice none 0 0],.bool false]))
theorem Is {w:World} {b c i o:Nat} {v u:Value} (h:w.cell? ⟨b,o,none⟩=some v) (hb:b ≠ c):(w.setCell ⟨c,i,none⟩ u).cell? ⟨b,o,none⟩=some v :=
 (World.cell?_of_block (w:=w) (a:=⟨b,o,none⟩) (Below.heap_setCell _ _ _ _ hb)).trans h
theorem U9 {w:World} {B n c i:Nat} {v u:Value} {xs:List Value} (h:w.ownsRow B 2 1 v n xs) (hB:c<B):(w.setCell ⟨c,i,none⟩ u).ownsRow B 2 1 v n xs:=U2 h (Disk.grown_set w c i u) hB
theorem MP.setOther {w:World} {M mn c i:Nat} {f:Int->Option Int} {u:Value} (h:MP w M mn f) (hc:M ≠ c):MP (w.setCell ⟨c,i,none⟩ u) M mn f:=(Grew.grown (Disk.grown_set w c i u)).mp h (fun e=>hc (by have e2:c=M:=Option.some.inj e;exact e2.symm))
set_option maxRecDepth 100000 in
set_option maxHeartbeats 6400000 in
theorem Yt (v:Value) (g:Gr) (w:World) (hv:GR w v g) (l1:g.nodes.length<=10000000) (l2:∀ n,n ∈ g.nodes->n.fl.length<=10000000) (l3:g.roots.length<=10000000) :
  Calls Tryz.prog 18 #[v] w fun e w'=>Jnk g w.heap.size e w' /\ Below w.heap.size w w':=by
 obtain ⟨ra,rc,na,nc,rfl,hr,hn⟩:=hv.out
 have hb0:Below w.heap.size w ((w.alloc (.cells #[.slice ra g.roots.length rc,.slice na g.nodes.length nc,.int .i64 g.hash] 27)).alloc (.cells #[.slice none 0 0,.slice none 0 0,.int .i64 0,.int .i64 0,.int .i64 0,.bool false,.int .i64 0,.slice none 0 0] 30)):=C3 (C5 _ _) (C5 _ _)
 have NP:=Xo _ g.nodes _ (hn.later hb0) (by omega) (fun n q=>by have:=l2 n q;omega)
 obtain ⟨f,R0⟩:∃ f,((w.alloc (.cells #[.slice ra g.roots.length rc,.slice na g.nodes.length nc,.int .i64 g.hash] 27)).alloc (.cells #[.slice none 0 0,.slice none 0 0,.int .i64 0,.int .i64 0,.int .i64 0,.bool false,.int .i64 0,.slice none 0 0] 30)).rowIs (w.heap.size+1) 30 8 f:=by
  have q:=I0 (w.alloc (.cells #[.slice ra g.roots.length rc,.slice na g.nodes.length nc,.int .i64 g.hash] 27)) #[.slice none 0 0,.slice none 0 0,.int .i64 0,.int .i64 0,.int .i64 0,.bool false,.int .i64 0,.slice none 0 0] 30
  rw [World.size_alloc] at q
  exact ⟨_,q⟩
 have c0:=C2 (C5 (w.alloc (.cells #[.slice ra g.roots.length rc,.slice na g.nodes.length nc,.int .i64 g.hash] 27)) (.cells #[.slice none 0 0,.slice none 0 0,.int .i64 0,.int .i64 0,.int .i64 0,.bool false,.int .i64 0,.slice none 0 0] 30)) (E6 w #[.slice ra g.roots.length rc,.slice na g.nodes.length nc,.int .i64 g.hash] 27 _ rfl 0 _ rfl)
 have c1:=C2 (C5 (w.alloc (.cells #[.slice ra g.roots.length rc,.slice na g.nodes.length nc,.int .i64 g.hash] 27)) (.cells #[.slice none 0 0,.slice none 0 0,.int .i64 0,.int .i64 0,.int .i64 0,.bool false,.int .i64 0,.slice none 0 0] 30)) (E6 w #[.slice ra g.roots.length rc,.slice na g.nodes.length nc,.int .i64 g.hash] 27 _ rfl 1 _ rfl)
 have c2:=C2 (C5 (w.alloc (.cells #[.slice ra g.roots.length rc,.slice na g.nodes.length nc,.int .i64 g.hash] 27)) (.cells #[.slice none 0 0,.slice none 0 0,.int .i64 0,.int .i64 0,.int .i64 0,.bool false,.int .i64 0,.slice none 0 0] 30)) (E6 w #[.slice ra g.roots.length rc,.slice na g.nodes.length nc,.int .i64 g.hash] 27 _ rfl 2 _ rfl)
 have hmx:Tryz.prog.follows .mixedOrders=true:=by kernel_rfl
 go_enter Tryz.func18,Tryz.ntmps18
 go_wp2_with fail
 refine NP.mono ?_
 rintro e w1 ⟨⟨M,mn,k,rfl,hM,hmp,hk,hke⟩,hb1⟩
 have hbw1:=C3 hb0 hb1
 have R1:=R0.of_block (hb1.block _ R0.lt)
 replace c0:=C2 hb1 c0
 replace c1:=C2 hb1 c1
 replace c2:=C2 hb1 c2
 have hM' : w.heap.size+1<M:=by simp at hM;omega
 clear NP R0 hb0 hb1 hM hv
 by_cases hq:2000<plc g.nodes k
 ·have hql:2000<plc g.nodes g.nodes.length:=by
   have q:=Rx g.nodes k (g.nodes.length - k) (by omega)
   rw [show k+(g.nodes.length - k)=g.nodes.length from by omega] at q
   omega
  have hqd:(2000:Int)<(plc g.nodes k:Nat):=by omega
  have OKC:(#[.slice none 0 0,.slice none 0 0,.int .i64 0,.int .i64 0,.int .i64 0,.bool false,.int .i64 0,.slice none 0 0]:Array Value).all (·.oneCell')=true:=by simp [Value.oneCell']
  go_wp2_with ((with_reducible refine C9 _ ?_ (.tmp 2) (.tmp 18) 30 ?_ 30 (w.heap.size+1) 8 #[.slice none 0 0,.slice none 0 0,.int .i64 0,.int .i64 0,.int .i64 0,.bool false,.int .i64 0,.slice none 0 0] f ?_ ?_ R1 ?_ ?_ OKC ?_);rfl;rfl;rfl;rfl;rfl;kernel_rfl;intro w9 K9 G9;have r0:w9.cell? ⟨w.heap.size+1,0,none⟩=some (.slice none 0 0):=K9.cell (i:=0) (by omega);have r1:w9.cell? ⟨w.heap.size+1,1,none⟩=some (.slice none 0 0):=K9.cell (i:=1) (by omega);have r2:w9.cell? ⟨w.heap.size+1,2,none⟩=some (.int .i64 0):=K9.cell (i:=2) (by omega);have r3:w9.cell? ⟨w.heap.size+1,3,none⟩=some (.int .i64 0):=K9.cell (i:=3) (by omega);have r4:w9.cell? ⟨w.heap.size+1,4,none⟩=some (.int .i64 0):=K9.cell (i:=4) (by omega);have r5:w9.cell? ⟨w.heap.size+1,5,none⟩=some (.bool false):=K9.cell (i:=5) (by omega);have r6:w9.cell? ⟨w.heap.size+1,6,none⟩=some (.int .i64 0):=K9.cell (i:=6) (by omega);have r7:w9.cell? ⟨w.heap.size+1,7,none⟩=some (.slice none 0 0):=K9.cell (i:=7) (by omega))
  have B9:Below w.heap.size w w9:=Below.grown hbw1 G9 hbw1.size (fun k hk=>by cases hk;omega)
  exact bodyPost_ret (v:=.tuple #[.agg #[.slice none 0 0,.slice none 0 0,.int .i64 0,.int .i64 0,.int .i64 0,.bool false,.int .i64 0,.slice none 0 0],.bool false]) (by simp [results,Tryz.results18,go_sem,r0,r1,r2,r3,r4,r5,r6,r7]) rfl ⟨.inr ⟨hql,rfl⟩,B9⟩
 ·obtain rfl:k=g.nodes.length:=hke (by omega)
  have hqd:¬ (2000:Int)<(plc g.nodes g.nodes.length:Nat):=by omega
  have hp:plc g.nodes g.nodes.length<=2000:=by omega
  clear hke hk hq
  go_wp2_with fail
  refine (Yz _).mono ?_
  rintro e w2 ⟨⟨rfl,RW⟩,hb2⟩
  have al:=C5 w2 (.cells #[.slice (some ⟨w1.heap.size+1,0,none⟩) 3200 3200,.slice none 0 0,.int .i64 0,.int .i64 2000,.int .i64 2600,.bool false,.int .i64 1,.slice none 0 0] 30)
  have hb2':=C3 hb2 al
  have hbw2:=C3 hbw1 hb2'
  have RM:=fun W (hb:Below w.heap.size w W) (hm:MP W M mn (Qp g.nodes g.nodes.length))=>Rj _ g.roots M mn (Qp g.nodes g.nodes.length) W (hr.later hb) hm (by omega) (fun x _ _=>Yc g.nodes hp _)
  have ltM:=hmp.lt
  have ltW:=RW.lt
  have q0:=C2 hb2' c0
  have q1:=C2 hb2' c1
  have q2:=C2 hb2' c2
  have m2:=hmp.later hb2'
  obtain ⟨fh,BH⟩:∃ fh,(w2.alloc (.cells #[.slice (some ⟨w1.heap.size+1,0,none⟩) 3200 3200,.slice none 0 0,.int .i64 0,.int .i64 2000,.int .i64 2600,.bool false,.int .i64 1,.slice none 0 0] 30)).rowIs w2.heap.size 30 8 fh:=⟨_,I0 w2 #[.slice (some ⟨w1.heap.size+1,0,none⟩) 3200 3200,.slice none 0 0,.int .i64 0,.int .i64 2000,.int .i64 2600,.bool false,.int .i64 1,.slice none 0 0] 30⟩
  have RB:=I0 w2 #[.slice (some ⟨w1.heap.size+1,0,none⟩) 3200 3200,.slice none 0 0,.int .i64 0,.int .i64 2000,.int .i64 2600,.bool false,.int .i64 1,.slice none 0 0] 30
  have R2:=R1.of_block (hb2'.block _ R1.lt)
  have RW2:=RW.later al
  have s2:=hb2.size
  clear c0 c1 c2 hmp R1 RW BH
  go_wp2_with fail
  refine Disk.z_plain 99 (fun W'=>(W'.cell? ⟨w.heap.size,0,none⟩=some (.slice ra g.roots.length rc)/\W'.cell? ⟨w.heap.size,2,none⟩=some (.int .i64 g.hash))) hmx ⟨q0,q2⟩ (fun hs=>?_)
  refine Disk.zt 0 20 (v:=.pointer (some ⟨w.heap.size,0,none⟩)) rfl rfl hs (fun W' hSw=>(by
   obtain ⟨s0,s1⟩:=hSw
   go_simp;first|done|with_reducible rfl)) ?_
  simp only [zA,zB,zC]
  refine Disk.zt 1 21 (v:=.slice ra g.roots.length rc) rfl rfl hs (fun W' hSw=>(by
   obtain ⟨s0,s1⟩:=hSw
   go_simp;first|done|with_reducible rfl)) ?_
  simp only [zA,zB,zC]
  refine Disk.zt 2 22 (v:=.map (some M)) rfl rfl hs (fun W' hSw=>(by
   obtain ⟨s0,s1⟩:=hSw
   go_simp;first|done|with_reducible rfl)) ?_
  simp only [zA,zB,zC]
  refine Disk.zt 4 24 (v:=.int .i64 ((plc g.nodes g.nodes.length:Nat):Int)) rfl rfl hs (fun W' hSw=>(by
   obtain ⟨s0,s1⟩:=hSw
   go_simp;first|done|with_reducible rfl)) ?_
  simp only [zA,zB,zC]
  refine Disk.zt 5 25 (v:=.pointer (some ⟨w.heap.size,2,none⟩)) rfl rfl hs (fun W' hSw=>(by
   obtain ⟨s0,s1⟩:=hSw
   go_simp;first|done|with_reducible rfl)) ?_
  simp only [zA,zB,zC]
  refine Disk.zt 6 26 (v:=.int .i64 g.hash) rfl rfl hs (fun W' hSw=>(by
   obtain ⟨s0,s1⟩:=hSw
   go_simp;first|done|with_reducible rfl)) ?_
  simp only [zA,zB,zC]
  refine Disk.zc 3 23 rfl rfl (f:=26) (args:=#[.slice ra g.roots.length rc,.map (some M)]) (w0:=(w2.alloc (.cells #[.slice (some ⟨w1.heap.size+1,0,none⟩) 3200 3200,.slice none 0 0,.int .i64 0,.int .i64 2000,.int .i64 2600,.bool false,.int .i64 1,.slice none 0 0] 30)).drew) ?_
  refine (RM _ hbw2.drew (m2.later (Below.refl _ _).drew)).mono ?_
  rintro x w4 ⟨⟨vr,rfl,hvr⟩,hb4⟩
  rw [Jbw] at hvr
  obtain ⟨ro,cR,rfl⟩:∃ ro cR,vr=.slice ro g.roots.length cR:=by
   rcases hvr.2 with ⟨e,e0⟩|⟨gg,cap,cur,e,_⟩
   ·exact ⟨none,0,by rw [e,e0]⟩
   ·exact ⟨_,_,e⟩
  have b24:=C3 (Below.refl (w2.alloc (.cells #[.slice (some ⟨w1.heap.size+1,0,none⟩) 3200 3200,.slice none 0 0,.int .i64 0,.int .i64 2000,.int .i64 2600,.bool false,.int .i64 1,.slice none 0 0] 30)).heap.size (w2.alloc (.cells #[.slice (some ⟨w1.heap.size+1,0,none⟩) 3200 3200,.slice none 0 0,.int .i64 0,.int .i64 2000,.int .i64 2600,.bool false,.int .i64 1,.slice none 0 0] 30))).drew hb4
  have hs4:(w4.cell? ⟨w.heap.size,0,none⟩=some (.slice ra g.roots.length rc)/\w4.cell? ⟨w.heap.size,2,none⟩=some (.int .i64 g.hash)):=⟨C2 b24 q0,C2 b24 q2⟩
  refine ⟨_,rfl,.inr hs4,?_⟩
  simp only [zA,zB,zC]
  have RB4:=RB.of_block (b24.block _ RB.lt)
  have lt4:=RB4.lt
  have nHN:¬ w.heap.size=w2.heap.size:=by have:=hbw1.size;omega
  have k1:=RB4.cell (i:=1) (by show 1<8;omega)
  have k2:=RB4.cell (i:=2) (by show 2<8;omega)
  have k6:=RB4.cell (i:=6) (by show 6<8;omega)
  have fH:=fun i=>RB4.frozen i
  refine Disk.zr 7 27 (w':=w4) (v:=.pointer (some ⟨w2.heap.size,1,none⟩)) rfl rfl (.inr hs4) ?_
  simp only [zA,zB,zC]
  refine Disk.z_skip 8 rfl rfl (by kernel_rfl) (by rfl) (w':=(w4.setCell ⟨w2.heap.size,1,none⟩ (.slice ro g.roots.length cR))) (by go_simp) (.inr ⟨Is hs4.1 nHN,Is hs4.2 nHN⟩) ?_
  refine Disk.zr 9 28 (w':=(w4.setCell ⟨w2.heap.size,1,none⟩ (.slice ro g.roots.length cR))) (v:=.pointer (some ⟨w2.heap.size,2,none⟩)) rfl rfl (.inr ⟨Is hs4.1 nHN,Is hs4.2 nHN⟩) ?_
  simp only [zA,zB,zC]
  refine Disk.z_skip 10 rfl rfl (by kernel_rfl) (by rfl) (w':=((w4.setCell ⟨w2.heap.size,1,none⟩ (.slice ro g.roots.length cR)).setCell ⟨w2.heap.size,2,none⟩ (.int .i64 ((plc g.nodes g.nodes.length:Nat):Int)))) (by go_simp) (.inr ⟨Is (Is hs4.1 nHN) nHN,Is (Is hs4.2 nHN) nHN⟩) ?_
  refine Disk.zr 11 29 (w':=((w4.setCell ⟨w2.heap.size,1,none⟩ (.slice ro g.roots.length cR)).setCell ⟨w2.heap.size,2,none⟩ (.int .i64 ((plc g.nodes g.nodes.length:Nat):Int)))) (v:=.pointer (some ⟨w2.heap.size,6,none⟩)) rfl rfl (.inr ⟨Is (Is hs4.1 nHN) nHN,Is (Is hs4.2 nHN) nHN⟩) ?_
  simp only [zA,zB,zC]
  refine Disk.z_skip 12 rfl rfl (by kernel_rfl) (by rfl) (w':=(((w4.setCell ⟨w2.heap.size,1,none⟩ (.slice ro g.roots.length cR)).setCell ⟨w2.heap.size,2,none⟩ (.int .i64 ((plc g.nodes g.nodes.length:Nat):Int))).setCell ⟨w2.heap.size,6,none⟩ (.int .i64 g.hash))) (by go_simp) (.inr ⟨Is (Is (Is hs4.1 nHN) nHN) nHN,Is (Is (Is hs4.2 nHN) nHN) nHN⟩) ?_
  refine Disk.z_done (by kernel_rfl) ?_ _
  have LS0:LS w (((w4.setCell ⟨w2.heap.size,1,none⟩ (.slice ro g.roots.length cR)).setCell ⟨w2.heap.size,2,none⟩ (.int .i64 ((plc g.nodes g.nodes.length:Nat):Int))).setCell ⟨w2.heap.size,6,none⟩ (.int .i64 g.hash)) g ra rc na nc M mn (w1.heap.size+1) w2.heap.size ro cR 0:=by
   have n0:w.heap.size ≠ w2.heap.size:=nHN
   have n1:w.heap.size+1 ≠ w2.heap.size:=by have:=R2.lt;have:=hbw1.size;omega
   have nW:w1.heap.size+1 ≠ w2.heap.size:=by omega
   have b34:Below w.heap.size w (((w4.setCell ⟨w2.heap.size,1,none⟩ (.slice ro g.roots.length cR)).setCell ⟨w2.heap.size,2,none⟩ (.int .i64 ((plc g.nodes g.nodes.length:Nat):Int))).setCell ⟨w2.heap.size,6,none⟩ (.int .i64 g.hash)):=((((hbw2.trans (b24.mono hbw2.size)).setCell (p:=⟨w2.heap.size,1,none⟩) (by show w.heap.size<=w2.heap.size;omega) _).setCell (p:=⟨w2.heap.size,2,none⟩) (by show w.heap.size<=w2.heap.size;omega) _).setCell (p:=⟨w2.heap.size,6,none⟩) (by show w.heap.size<=w2.heap.size;omega) _)
   have R4:=R2.of_block (b24.block _ R2.lt)
   refine ⟨b34,Is (Is (Is hs4.1 n0) n0) n0,Is (Is (Is (C2 b24 q1) n0) n0) n0,Is (Is (Is hs4.2 n0) n0) n0,⟨_,((R4.setOther (a:=⟨w2.heap.size,1,none⟩) n1 _).setOther (a:=⟨w2.heap.size,2,none⟩) n1 _).setOther (a:=⟨w2.heap.size,6,none⟩) n1 _⟩,?_,?_,?_,?_,hM',by omega,by omega⟩
   ·refine (((RB4.set 1 _).set 2 _).set 6 _).congr fun i hi=>?_
    have hi' : i<8:=hi
    rcases i with _|_|_|_|_|_|_|_|i
    all_goals first|rfl|omega
   ·rw [Zj]
    exact ((((RW2.later b24).setOther (b:=w2.heap.size) nW _).setOther (b:=w2.heap.size) nW _).setOther (b:=w2.heap.size) nW _)
   ·have q:=Rd (B':=w2.heap.size+1) hvr (by simp)
    exact U9 (U9 (U9 q (Nat.lt_succ_self _)) (Nat.lt_succ_self _)) (Nat.lt_succ_self _)
   ·have q:=m2.later b24
    exact MP.setOther (MP.setOther (MP.setOther q (by omega)) (by omega)) (by omega)
  clear hs hs4 k1 k2 k6 fH RB4 RB b24 hb4 hvr m2 R2 RW2 q0 q1 q2 hbw2 hb2' al hb2 nHN lt4 s2 ltW ltM hbw1 hM' RM
  generalize hH:w2.heap.size=H at *
  clear hH
  generalize hG:w1.heap.size+1=gW at *
  clear hG
  generalize (((w4.setCell ⟨H,1,none⟩ (.slice ro g.roots.length cR)).setCell ⟨H,2,none⟩ (.int .i64 ((plc g.nodes g.nodes.length:Nat):Int))).setCell ⟨H,6,none⟩ (.int .i64 g.hash))=W at *
  have x1:=LS0.g1
  go_wp2
  go_loopw [33] (fun iv wr=>∃ k:Nat,k<=g.nodes.length/\iv=.int .i64 k/\LS w wr g ra rc na nc M mn gW H ro cR k) (fun iv _=>g.nodes.length - (intOf iv).toNat)
  case atStart=>exact ⟨0,Nat.zero_le _,rfl,LS0⟩
  case round =>
   obtain ⟨k,hk,rfl,L⟩:=hrel
   clear LS0 x1
   by_cases hkl:k<g.nodes.length
   ·obtain ⟨va,vc,e,_,hnc⟩:=id hn
    obtain ⟨nb,no,fa,fn,fc,rfl,d0,d1,d2,rf⟩:=hnc k hkl
    simp only [Value.slice.injEq,true_and] at e
    obtain ⟨rfl,rfl⟩:=e
    have hps:=Ox g.nodes k hkl
    have hpl:plc g.nodes (k+1)<=2000:=by
     have q:=Rx g.nodes (k+1) (g.nodes.length - (k+1)) (by omega)
     rw [show k+1+(g.nodes.length - (k+1))=g.nodes.length from by omega] at q
     omega
    have PS:Hid (splice (splice (Oi g.nodes k) (plc g.nodes k) [((g.nodes.getD k nd0).fl.length:Int),(g.nodes.getD k nd0).cls,(g.nodes.getD k nd0).hash,0]) (plc g.nodes k+4) ((g.nodes.getD k nd0).fl.map (rnI g.nodes))=Oi g.nodes (k+1)):=Zk g.nodes k hkl
    have PA:Hid ((Qp g.nodes g.nodes.length (k:Int)).getD 0=(plc g.nodes k:Nat)):=Jlc g.nodes k hkl
    have pl:=Sr g.nodes k (by omega)
    have hfl:=l2 (g.nodes.getD k nd0) (by simp [hkl])
    obtain ⟨fa',fc',e,_⟩:=id rf
    injection e with e1 e2 e3
    subst e2
    have RF:=fun W (hb:Below w.heap.size w W) (hm:MP W M mn (Qp g.nodes g.nodes.length))=>Rj _ (g.nodes.getD k nd0).fl M mn (Qp g.nodes g.nodes.length) W (rf.later hb) hm (by omega) (fun x _ _=>Yc g.nodes hp _)
    have x0:=C2 L.bel d0
    have x1:=C2 L.bel d1
    have x2:=C2 L.bel d2
    have hki:(k:Int)<(g.nodes.length:Int):=by omega
    generalize (g.nodes.getD k nd0).fl=F at *
    generalize (g.nodes.getD k nd0).cls=c at *
    generalize (g.nodes.getD k nd0).hash=z at *
    generalize hP:plc g.nodes k=P at *
    have L1:=L.later (C5 wr (.cells #[.int .i64 c,.int .i64 z,.slice fa F.length fc] 41))
    clear d0 d1 d2 rf hnc e1 e3 hn hr l2 hP
    go_wp2_with (refine Jdu _ rfl _ _ rfl M mn (Qp g.nodes g.nodes.length) rfl L1.map (k:Int) rfl ⟨by omega,by omega⟩ ?_;rw [PA.out])
    have o1:=L1.o1
    have o2:=L1.o2
    have o3:=L1.o3
    have hx0:(wr.alloc (.cells #[.int .i64 c,.int .i64 z,.slice fa F.length fc] 41)).cell? ⟨H,0,none⟩=some (.slice (some ⟨gW,0,none⟩) 3200 3200):=L1.box.cell (i:=0) (by omega)
    have y0:=E6 wr #[.int .i64 c,.int .i64 z,.slice fa F.length fc] 41 _ rfl 0 _ rfl
    have y1:=E6 wr #[.int .i64 c,.int .i64 z,.slice fa F.length fc] 41 _ rfl 1 _ rfl
    have y2:=E6 wr #[.int .i64 c,.int .i64 z,.slice fa F.length fc] 41 _ rfl 2 _ rfl
    have lwr:gW<wr.heap.size:=L.words.lt
    have lHr:H<wr.heap.size:=L.box.lt
    have nkI:(P:Int)<=3200:=by omega
    have nkE:¬ 3200=P:=by omega
    have nkI4:(P:Int)+4<=3200:=by omega
    have nkE4:¬ 3200=P+4:=by omega
    have p04:(0:Int)<=(P:Int)+4:=by omega
    have tn4:((P:Int)+4).toNat=P+4:=by omega
    have wP:IntKind.i64.wrap ((P:Int)+4)=(P:Int)+4:=by rw [IntKind.wrap_i64];omega
    refine Disk.z_plain 99 (fun W'=>(W'.cell? ⟨H,0,none⟩=some (.slice (some ⟨gW,0,none⟩) 3200 3200)/\W'.cell? ⟨wr.heap.size,0,none⟩=some (.int .i64 c)/\W'.cell? ⟨wr.heap.size,1,none⟩=some (.int .i64 z)/\W'.cell? ⟨wr.heap.size,2,none⟩=some (.slice fa F.length fc))) hmx ⟨hx0,y0,y1,y2⟩ (fun hs=>?_)
    refine Disk.zt 0 41 (v:=.pointer (some ⟨H,0,none⟩)) rfl rfl hs (fun W' hSw=>(by
     obtain ⟨s0,s1,s2,s3⟩:=hSw
     go_simp;first|done|with_reducible rfl)) ?_
    simp only [zA,zB,zC]
    refine Disk.zt 1 42 (v:=.slice (some ⟨gW,0,none⟩) 3200 3200) rfl rfl hs (fun W' hSw=>(by
     obtain ⟨s0,s1,s2,s3⟩:=hSw
     go_simp;first|done|with_reducible rfl)) ?_
    simp only [zA,zB,zC]
    refine Disk.zt 2 43 (v:=.int .i64 (P:Nat)) rfl rfl hs (fun W' hSw=>(by
     obtain ⟨s0,s1,s2,s3⟩:=hSw
     go_simp;first|done|with_reducible rfl)) ?_
    simp only [zA,zB,zC]
    refine Disk.zt 3 44 (v:=.slice (some ⟨gW,P,none⟩) (3200 - P) (3200 - P)) rfl rfl hs (fun W' hSw=>(by
     go_simp;first|done|with_reducible rfl|rw [if_pos nkI,if_neg nkE])) ?_
    simp only [zA,zB,zC]
    refine Disk.zt 4 45 (v:=.pointer (some ⟨wr.heap.size,2,none⟩)) rfl rfl hs (fun W' hSw=>(by
     obtain ⟨s0,s1,s2,s3⟩:=hSw
     go_simp;first|done|with_reducible rfl)) ?_
    simp only [zA,zB,zC]
    refine Disk.zt 5 46 (v:=.slice fa F.length fc) rfl rfl hs (fun W' hSw=>(by
     obtain ⟨s0,s1,s2,s3⟩:=hSw
     go_simp;first|done|with_reducible rfl)) ?_
    simp only [zA,zB,zC]
    refine Disk.zt 6 47 (v:=.int .i64 (F.length:Nat)) rfl rfl hs (fun W' hSw=>(by
     obtain ⟨s0,s1,s2,s3⟩:=hSw
     go_simp;first|done|with_reducible rfl)) ?_
    simp only [zA,zB,zC]
    refine Disk.zt 7 48 (v:=.pointer (some ⟨wr.heap.size,0,none⟩)) rfl rfl hs (fun W' hSw=>(by
     obtain ⟨s0,s1,s2,s3⟩:=hSw
     go_simp;first|done|with_reducible rfl)) ?_
    simp only [zA,zB,zC]
    refine Disk.zt 8 49 (v:=.int .i64 c) rfl rfl hs (fun W' hSw=>(by
     obtain ⟨s0,s1,s2,s3⟩:=hSw
     go_simp;first|done|with_reducible rfl)) ?_
    simp only [zA,zB,zC]
    refine Disk.zt 9 50 (v:=.pointer (some ⟨wr.heap.size,1,none⟩)) rfl rfl hs (fun W' hSw=>(by
     obtain ⟨s0,s1,s2,s3⟩:=hSw
     go_simp;first|done|with_reducible rfl)) ?_
    simp only [zA,zB,zC]
    refine Disk.zt 10 51 (v:=.int .i64 z) rfl rfl hs (fun W' hSw=>(by
     obtain ⟨s0,s1,s2,s3⟩:=hSw
     go_simp;first|done|with_reducible rfl)) ?_
    simp only [zA,zB,zC]
    have R1:=(L1.words.later (Below.refl _ _).drew).later (C5 (wr.alloc (.cells #[.int .i64 c,.int .i64 z,.slice fa F.length fc] 41)).drew (.cells #[.int .i64 F.length,.int .i64 c,.int .i64 z,.int .i64 0] 2))
    have F1:=Jem (wr.alloc (.cells #[.int .i64 c,.int .i64 z,.slice fa F.length fc] 41)).drew F.length c z 0
    have b1:Below (wr.alloc (.cells #[.int .i64 c,.int .i64 z,.slice fa F.length fc] 41)).heap.size (wr.alloc (.cells #[.int .i64 c,.int .i64 z,.slice fa F.length fc] 41)) ((wr.alloc (.cells #[.int .i64 c,.int .i64 z,.slice fa F.length fc] 41)).drew.alloc (.cells #[.int .i64 F.length,.int .i64 c,.int .i64 z,.int .i64 0] 2)):=C3 (Below.refl (wr.alloc (.cells #[.int .i64 c,.int .i64 z,.slice fa F.length fc] 41)).heap.size (wr.alloc (.cells #[.int .i64 c,.int .i64 z,.slice fa F.length fc] 41))).drew (C5 (wr.alloc (.cells #[.int .i64 c,.int .i64 z,.slice fa F.length fc] 41)).drew (.cells #[.int .i64 F.length,.int .i64 c,.int .i64 z,.int .i64 0] 2))
    have hs1:(((wr.alloc (.cells #[.int .i64 c,.int .i64 z,.slice fa F.length fc] 41)).drew.alloc (.cells #[.int .i64 F.length,.int .i64 c,.int .i64 z,.int .i64 0] 2)).cell? ⟨H,0,none⟩=some (.slice (some ⟨gW,0,none⟩) 3200 3200)/\((wr.alloc (.cells #[.int .i64 c,.int .i64 z,.slice fa F.length fc] 41)).drew.alloc (.cells #[.int .i64 F.length,.int .i64 c,.int .i64 z,.int .i64 0] 2)).cell? ⟨wr.heap.size,0,none⟩=some (.int .i64 c)/\((wr.alloc (.cells #[.int .i64 c,.int .i64 z,.slice fa F.length fc] 41)).drew.alloc (.cells #[.int .i64 F.length,.int .i64 c,.int .i64 z,.int .i64 0] 2)).cell? ⟨wr.heap.size,1,none⟩=some (.int .i64 z)/\((wr.alloc (.cells #[.int .i64 c,.int .i64 z,.slice fa F.length fc] 41)).drew.alloc (.cells #[.int .i64 F.length,.int .i64 c,.int .i64 z,.int .i64 0] 2)).cell? ⟨wr.heap.size,2,none⟩=some (.slice fa F.length fc)):=⟨C2 b1 hx0,C2 b1 y0,C2 b1 y1,C2 b1 y2⟩
    refine Disk.zr 11 52 rfl rfl (w':=((wr.alloc (.cells #[.int .i64 c,.int .i64 z,.slice fa F.length fc] 41)).drew.alloc (.cells #[.int .i64 F.length,.int .i64 c,.int .i64 z,.int .i64 0] 2))) (v:=.slice (some ⟨(wr.alloc (.cells #[.int .i64 c,.int .i64 z,.slice fa F.length fc] 41)).drew.heap.size,0,none⟩) 4 4) (.inr hs1) ?_
    simp only [zA,zB,zC]
    obtain ⟨wc,hrun,R2,G2,sz2⟩:=Jhd (w:=((wr.alloc (.cells #[.int .i64 c,.int .i64 z,.slice fa F.length fc] 41)).drew.alloc (.cells #[.int .i64 F.length,.int .i64 c,.int .i64 z,.int .i64 0] 2))) 3 gW P (3200 - P) (3200 - P) (Oi g.nodes k) 3200 R1 (by omega) [(F.length:Int),c,z,0] (wr.alloc (.cells #[.int .i64 c,.int .i64 z,.slice fa F.length fc] 41)).drew.heap.size 4 F1 (by simp;omega)
    have hs2:(wc.cell? ⟨H,0,none⟩=some (.slice (some ⟨gW,0,none⟩) 3200 3200)/\wc.cell? ⟨wr.heap.size,0,none⟩=some (.int .i64 c)/\wc.cell? ⟨wr.heap.size,1,none⟩=some (.int .i64 z)/\wc.cell? ⟨wr.heap.size,2,none⟩=some (.slice fa F.length fc)):=⟨G2.cell hs1.1 (by simp <;> omega),G2.cell hs1.2.1 (by simp <;> omega),G2.cell hs1.2.2.1 (by simp <;> omega),G2.cell hs1.2.2.2 (by simp <;> omega)⟩
    refine Disk.z_run 12 53 (w':=wc) (v:=goInt 4) rfl rfl (by kernel_rfl) (by rfl) (by exact Zc _ _ _ (.tmp 44) (.tmp 52) rfl _ _ _ rfl rfl hrun) (.inr hs2) ?_
    simp only [zA,zB,zC]
    refine Disk.z_done (by kernel_rfl) ?_ _
    have GA:(wr.alloc (.cells #[.int .i64 c,.int .i64 z,.slice fa F.length fc] 41)).grownBy wc (some gW):=Disk.grown_trans (Disk.grown_below b1) G2
    have bwc:Below w.heap.size w wc:=Below.grown L1.bel GA L1.bel.size (fun k hk=>by cases hk;omega)
    have mwc:=(Grew.grown GA).mp L1.map (fun e=>by have e2:gW=M:=Option.some.inj e;omega)
    clear hs hs1 R1 F1 b1 G2 hrun
    go_wp2_with fail
    refine Disk.z_plain 99 (fun W'=>(W'.cell? ⟨H,0,none⟩=some (.slice (some ⟨gW,0,none⟩) 3200 3200)/\W'.cell? ⟨wr.heap.size,0,none⟩=some (.int .i64 c)/\W'.cell? ⟨wr.heap.size,1,none⟩=some (.int .i64 z)/\W'.cell? ⟨wr.heap.size,2,none⟩=some (.slice fa F.length fc))) hmx hs2 (fun hs=>?_)
    refine Disk.zt 0 54 (v:=.pointer (some ⟨H,0,none⟩)) rfl rfl hs (fun W' hSw=>(by
     obtain ⟨s0,s1,s2,s3⟩:=hSw
     go_simp;first|done|with_reducible rfl)) ?_
    simp only [zA,zB,zC]
    refine Disk.zt 1 55 (v:=.slice (some ⟨gW,0,none⟩) 3200 3200) rfl rfl hs (fun W' hSw=>(by
     obtain ⟨s0,s1,s2,s3⟩:=hSw
     go_simp;first|done|with_reducible rfl)) ?_
    simp only [zA,zB,zC]
    refine Disk.zt 2 56 (v:=.int .i64 (P:Nat)) rfl rfl hs (fun W' hSw=>(by
     obtain ⟨s0,s1,s2,s3⟩:=hSw
     go_simp;first|done|with_reducible rfl)) ?_
    simp only [zA,zB,zC]
    refine Disk.zt 3 57 (v:=.int .i64 ((P:Int)+4)) rfl rfl hs (fun W' hSw=>(by
     obtain ⟨s0,s1,s2,s3⟩:=hSw
     go_simp;first|done|with_reducible rfl)) ?_
    simp only [zA,zB,zC]
    refine Disk.zt 4 58 (v:=.slice (some ⟨gW,P+4,none⟩) (3200 - (P+4)) (3200 - (P+4))) rfl rfl hs (fun W' hSw=>(by
     go_simp;first|done|with_reducible rfl|rw [if_pos p04,tn4,if_neg nkE4])) ?_
    simp only [zA,zB,zC]
    refine Disk.zt 5 59 (v:=.pointer (some ⟨wr.heap.size,2,none⟩)) rfl rfl hs (fun W' hSw=>(by
     obtain ⟨s0,s1,s2,s3⟩:=hSw
     go_simp;first|done|with_reducible rfl)) ?_
    simp only [zA,zB,zC]
    refine Disk.zt 6 60 (v:=.slice fa F.length fc) rfl rfl hs (fun W' hSw=>(by
     obtain ⟨s0,s1,s2,s3⟩:=hSw
     go_simp;first|done|with_reducible rfl)) ?_
    simp only [zA,zB,zC]
    refine Disk.zt 7 61 (v:=.map (some M)) rfl rfl hs (fun W' hSw=>(by
     obtain ⟨s0,s1,s2,s3⟩:=hSw
     go_simp;first|done|with_reducible rfl)) ?_
    simp only [zA,zB,zC]
    refine Disk.zc 8 62 rfl rfl (f:=26) (args:=#[.slice fa F.length fc,.map (some M)]) (w0:=wc.drew) ?_
    refine (RF _ bwc.drew (mwc.later (Below.refl _ _).drew)).mono ?_
    rintro x wd ⟨⟨vf,rfl,hvf⟩,hbd⟩
    rw [Jbw] at hvf
    have bcd:=C3 (Below.refl wc.heap.size wc).drew hbd
    have hvf' : wd.ownsRow wc.drew.heap.size 2 1 vf (F.map (rnI g.nodes)).length (icells (F.map (rnI g.nodes))):=by rw [List.length_map];exact hvf
    have If:=E9 hvf'
    rw [List.length_map] at hvf'
    obtain ⟨fo,fcc,rfl⟩:∃ fo fcc,vf=.slice fo F.length fcc:=by
     rcases hvf'.2 with ⟨e,e0⟩|⟨gg,cap,cur,e,_⟩
     ·exact ⟨none,0,by rw [e,e0]⟩
     ·exact ⟨_,_,e⟩
    have hs3:(wd.cell? ⟨H,0,none⟩=some (.slice (some ⟨gW,0,none⟩) 3200 3200)/\wd.cell? ⟨wr.heap.size,0,none⟩=some (.int .i64 c)/\wd.cell? ⟨wr.heap.size,1,none⟩=some (.int .i64 z)/\wd.cell? ⟨wr.heap.size,2,none⟩=some (.slice fa F.length fc)):=⟨C2 bcd hs2.1,C2 bcd hs2.2.1,C2 bcd hs2.2.2.1,C2 bcd hs2.2.2.2⟩
    refine ⟨_,rfl,.inr hs3,?_⟩
    simp only [zA,zB,zC]
    have R3:=R2.later bcd
    have lsp:=length_splice (Oi g.nodes k) P [(F.length:Int),c,z,0] (by simp;omega)
    obtain ⟨we,hrun,R4,G4,sz4⟩:=Jfh (w:=wd) 3 gW (P+4) (3200 - (P+4)) (3200 - (P+4)) (splice (Oi g.nodes k) P [(F.length:Int),c,z,0]) 3200 R3 (by omega) (F.map (rnI g.nodes)) fo F.length fcc (by simp) If (by simp;omega)
    rw [PS.out] at R4
    have hs4:(we.cell? ⟨H,0,none⟩=some (.slice (some ⟨gW,0,none⟩) 3200 3200)/\we.cell? ⟨wr.heap.size,0,none⟩=some (.int .i64 c)/\we.cell? ⟨wr.heap.size,1,none⟩=some (.int .i64 z)/\we.cell? ⟨wr.heap.size,2,none⟩=some (.slice fa F.length fc)):=⟨G4.cell hs3.1 (by simp <;> omega),G4.cell hs3.2.1 (by simp <;> omega),G4.cell hs3.2.2.1 (by simp <;> omega),G4.cell hs3.2.2.2 (by simp <;> omega)⟩
    have GE:=Disk.grown_trans (Disk.grown_trans GA (Disk.grown_below bcd)) G4
    have L2:=L1.put GE R4
    have lm:(F.map (rnI g.nodes)).length=F.length:=List.length_map ..
    rw [lm] at hrun
    refine Disk.z_run 9 63 (w':=we) (v:=goInt F.length) rfl rfl (by kernel_rfl) (by rfl) (by exact Zc _ _ _ (.tmp 58) (.tmp 62) rfl _ _ _ rfl rfl hrun) (.inr hs4) ?_
    simp only [zA,zB,zC]
    refine Disk.z_done (by kernel_rfl) ?_ _
    clear hs hs2 hs3 hs4 GA GE G4 R2 R3 R4 mwc bwc hvf hvf' If hrun bcd hbd L L1 RF x0 x1 x2 y0 y1 y2 hx0
    go_wp2
    exact ⟨⟨k+1,by omega,by go_num,L2⟩,by simp [intOf];omega⟩
   ·obtain rfl:k=g.nodes.length:=by omega
    have bx:=L.box
    obtain ⟨fk,KX⟩:=L.res
    have OKC:(#[.slice (some ⟨gW,0,none⟩) 3200 3200,.slice ro g.roots.length cR,.int .i64 ((plc g.nodes g.nodes.length:Nat):Int),.int .i64 2000,.int .i64 2600,.bool false,.int .i64 g.hash,.slice none 0 0]:Array Value).all (·.oneCell')=true:=by simp [Value.oneCell']
    have h0:wr.cell? ⟨H,0,none⟩=some (.slice (some ⟨gW,0,none⟩) 3200 3200):=bx.cell (i:=0) (by omega)
    have h1:wr.cell? ⟨H,1,none⟩=some (.slice ro g.roots.length cR):=bx.cell (i:=1) (by omega)
    have h2:wr.cell? ⟨H,2,none⟩=some (.int .i64 ((plc g.nodes g.nodes.length:Nat):Int)):=bx.cell (i:=2) (by omega)
    have h3:wr.cell? ⟨H,3,none⟩=some (.int .i64 2000):=bx.cell (i:=3) (by omega)
    have h4:wr.cell? ⟨H,4,none⟩=some (.int .i64 2600):=bx.cell (i:=4) (by omega)
    have h5:wr.cell? ⟨H,5,none⟩=some (.bool false):=bx.cell (i:=5) (by omega)
    have h6:wr.cell? ⟨H,6,none⟩=some (.int .i64 g.hash):=bx.cell (i:=6) (by omega)
    have h7:wr.cell? ⟨H,7,none⟩=some (.slice none 0 0):=bx.cell (i:=7) (by omega)
    have ltH:=bx.lt
    go_wp2_with ((with_reducible refine C9 _ ?_ (.tmp 2) (.tmp 65) 30 ?_ 30 (w.heap.size+1) 8 #[.slice (some ⟨gW,0,none⟩) 3200 3200,.slice ro g.roots.length cR,.int .i64 ((plc g.nodes g.nodes.length:Nat):Int),.int .i64 2000,.int .i64 2600,.bool false,.int .i64 g.hash,.slice none 0 0] fk ?_ ?_ KX ?_ ?_ OKC ?_);rfl;rfl;rfl;rfl;rfl;kernel_rfl;intro w9 K9 G9;have r0:w9.cell? ⟨w.heap.size+1,0,none⟩=some (.slice (some ⟨gW,0,none⟩) 3200 3200):=K9.cell (i:=0) (by omega);have r1:w9.cell? ⟨w.heap.size+1,1,none⟩=some (.slice ro g.roots.length cR):=K9.cell (i:=1) (by omega);have r2:w9.cell? ⟨w.heap.size+1,2,none⟩=some (.int .i64 ((plc g.nodes g.nodes.length:Nat):Int)):=K9.cell (i:=2) (by omega);have r3:w9.cell? ⟨w.heap.size+1,3,none⟩=some (.int .i64 2000):=K9.cell (i:=3) (by omega);have r4:w9.cell? ⟨w.heap.size+1,4,none⟩=some (.int .i64 2600):=K9.cell (i:=4) (by omega);have r5:w9.cell? ⟨w.heap.size+1,5,none⟩=some (.bool false):=K9.cell (i:=5) (by omega);have r6:w9.cell? ⟨w.heap.size+1,6,none⟩=some (.int .i64 g.hash):=K9.cell (i:=6) (by omega);have r7:w9.cell? ⟨w.heap.size+1,7,none⟩=some (.slice none 0 0):=K9.cell (i:=7) (by omega))
    have o1:=L.o1
    have o2:=L.o2
    have o3:=L.o3
    have B9:Below w.heap.size w w9:=Below.grown L.bel G9 L.bel.size (fun k hk=>by cases hk;omega)
    have T1:=L.words.grown G9 (by simp <;> omega)
    have T2:=Jgg L.roots G9 (by omega)
    rw [Jcj] at T1
    have lw:(M0 g.nodes).length=3200:=Qs (by omega)
    have HF:HN w.heap.size w9 (.agg #[.slice (some ⟨gW,0,none⟩) 3200 3200,.slice ro g.roots.length cR,.int .i64 ((plc g.nodes g.nodes.length:Nat):Int),.int .i64 2000,.int .i64 2600,.bool false,.int .i64 g.hash,.slice none 0 0]) (C4 g):=by
     have rr:(C4 g).roots.length=g.roots.length:=by simp [C4]
     have lw' : (C4 g).words.length=3200:=lw
     have I2:IR w9 (.slice ro g.roots.length cR) (C4 g).roots:=by
      have q:=T2
      rw [<- rr] at q
      have q2:=E9 q
      rw [rr] at q2
      exact q2
     have O2:=Q5 T2
     have W2:=Qg T2
     refine ⟨_,_,_,rfl,⟨?_,?_,⟨_,_,rfl,.inl rfl⟩⟩,⟨?_,I2,⟨_,_,rfl,Nat.le_refl _,fun i hi=>absurd hi (Nat.not_lt_zero i)⟩⟩,⟨fun b q=>?_,fun b q=>?_,fun b q=>(Tu q).elim⟩,fun b q q'=>?_,fun b _ q=>Tu q,fun b _ q=>Tu q⟩
     ·have q:=T1.os (cap:=3200)
      rw [lw] at q
      rw [lw']
      exact q
     ·rw [rr]
      exact O2
     ·have q:=T1.ir (cap:=3200) (by omega)
      rw [lw] at q
      exact q
     ·rw [lw'] at q
      have:=rowof q
      omega
     ·rw [rr] at q
      have:=W2 b q
      omega
     ·rw [lw'] at q
      rw [rr] at q'
      have:=rowof q
      have:=W2 b q'
      omega
    exact bodyPost_ret (v:=.tuple #[.agg #[.slice (some ⟨gW,0,none⟩) 3200 3200,.slice ro g.roots.length cR,.int .i64 ((plc g.nodes g.nodes.length:Nat):Int),.int .i64 2000,.int .i64 2600,.bool false,.int .i64 g.hash,.slice none 0 0],.bool true]) (by simp [results,Tryz.results18,go_sem,r0,r1,r2,r3,r4,r5,r6,r7]) rfl ⟨.inl ⟨hp,_,rfl,HF⟩,B9⟩
end Go.Proofs.YtboiknllmnfipaaGreatDoor
