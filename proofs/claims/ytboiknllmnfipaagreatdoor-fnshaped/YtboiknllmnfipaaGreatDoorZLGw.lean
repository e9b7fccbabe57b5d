import Derived.Test.YtboiknllmnfipaaGreatDoorZU11
import Derived.Test.YtboiknllmnfipaaGreatDoorZGShO
import Derived.Test.YtboiknllmnfipaaGreatDoorZU14
namespace Go.Proofs.YtboiknllmnfipaaGreatDoor
open Go.RowKit
theorem E4 {W:World} {b:Nat} {rv nv:Value} {hh:Int} (k:W.rowIs b 27 3 (grF rv nv hh)):W.cell? ⟨b,0,none⟩=some rv/\W.cell? ⟨b,1,none⟩=some nv/\W.cell? ⟨b,2,none⟩=some (.int .i64 hh) :=
 ⟨k.cell (i:=0) (by omega),k.cell (i:=1) (by omega),k.cell (i:=2) (by omega)⟩
theorem Jle (h:Hp):(shC h).roots.length<=20/\(shC h).nodes.length<=3200/\U6 (shC h).nodes/\(∀ n,n ∈ (shC h).nodes->n.fl.length<=1000):=by
 cases k:okC h
 ·have e:shC h=gr0:=by unfold shC;rw [k];rfl
  rw [e]
  refine ⟨Nat.zero_le _,Nat.zero_le _,?_,?_⟩
  ·intro n hn
   cases hn
  ·intro n hn
   cases hn
 ·obtain ⟨a,b,c⟩:=Jcb k
  exact ⟨a,b,Jmx k,c⟩
theorem Jnb (h:Hp):R64 (shC h).roots:=by
 cases k:okC h
 ·have e:shC h=gr0:=by unfold shC;rw [k];rfl
  rw [e]
  intro x hx
  cases hx
 ·intro x hx
  have R:=Oa k
  have hl:=O7 R
  have e:(shC h).roots=h.roots.map (ren (C8 h.words h.roots)):=by
   unfold shC
   rw [if_pos k]
   rfl
  rw [e] at hx
  obtain ⟨y,hy,rfl⟩:=List.mem_map.1 hx
  exact Jhv (by omega) (Pl (Ss R y hy))
theorem Vh {w:World} {B B' e size n:Nat} {v:Value} {xs:List Value} (h:w.ownsRow B e size v n xs) (hB:B' <= B):w.ownsRow B' e size v n xs:=by
 refine ⟨h.1,?_⟩
 rcases h.2 with q|⟨g,cap,cur,e,hb,r⟩
 ·exact .inl q
 ·exact .inr ⟨g,cap,cur,e,Nat.le_trans hB hb,r⟩
theorem GP.new {w w1 w2:World} {N:Nat} {cv:Value} {cs:List UInt8} {rv nv:Value} {g:Gr} {fv:Nat->Value} (d0:Dw N cv cs w) (hN:N<w.heap.size) (g1:(w.alloc (.cells #[.slice none 0 0,.slice none 0 0,.int .i64 0] 27)).grownBy w1 (some N)) (d1:Dw N cv cs w1) (hb:Below w1.heap.size w1 w2)
  (rt:w2.ownsRow w1.heap.size 2 1 rv g.roots.length (icells g.roots)) (nd:NOwn w1.heap.size w2 nv g.nodes fv) (ap:∀ i,i<g.nodes.length->∀ b,rv.ownBlock=some b->(fv i).ownBlock ≠ some b)
  (sm:g.roots.length<=20/\g.nodes.length<=3200/\U6 g.nodes/\(∀ n,n ∈ g.nodes->n.fl.length<=1000)) (r6:R64 g.roots):GP w N cv cs w2.heap.size (w2.alloc (.cells #[rv,nv,.int .i64 g.hash] 27)) rv nv g fv:=by
 have al:=C5 w (.cells #[.slice none 0 0,.slice none 0 0,.int .i64 0] 27)
 have al2:=C5 w2 (.cells #[rv,nv,.int .i64 g.hash] 27)
 have s1:=g1.size
 have s2:=hb.size
 rw [World.size_alloc] at s1
 have R0:=I0 w #[.slice none 0 0,.slice none 0 0,.int .i64 0] 27
 have R1:=R0.of_block (g1.block _ R0.lt (fun e=>by have:=Option.some.inj e;omega))
 have R2:=R1.of_block (hb.block _ R1.lt)
 have R3:=R2.of_block (al2.block _ R2.lt)
 have gw:w.grownBy w1 (some N):=⟨g1.os.trans al.os,g1.tape.trans al.tape,g1.output.trans al.output,Nat.le_trans al.size g1.size,fun b h1 h2=>(g1.block b (by rw [World.size_alloc];omega) h2).trans (al.block b h1)⟩
 have b3:=C3 hb al2
 have G:=Grew.new al2 (fun _=>False)
 refine ⟨d1.more b3 (by omega),d0,gtrans gw ⟨b3.os,b3.tape,b3.output,b3.size,fun b h1 _=>b3.block b h1⟩,Qw w2 rv nv g.hash _,⟨_,R3⟩,hN,by omega,?_,?_,ap,sm,r6⟩
 ·exact Vh (G.own rt (fun _ _ q=>q.elim)) (by omega)
 ·obtain ⟨xs,ho,ht,hf,ha⟩:=nd
  exact ⟨xs,Vh (G.own ho (fun _ _ q=>q.elim)) (by omega),ht,fun i hi=>Vh (G.own (hf i hi) (fun _ _ q=>q.elim)) (by omega),ha⟩
theorem GP.lt {w:World} {N:Nat} {cv:Value} {cs:List UInt8} {H:Nat} {W:World} {rv nv:Value} {g:Gr} {fv:Nat->Value} (k:GP w N cv cs H W rv nv g fv):N<W.heap.size:=by
 have:=k.hN
 have:=k.gr.size
 omega
theorem GP.hB {w:World} {N:Nat} {cv:Value} {cs:List UInt8} {H:Nat} {W:World} {rv nv:Value} {g:Gr} {fv:Nat->Value} (k:GP w N cv cs H W rv nv g fv):w.heap.size+1<=W.heap.size:=by
 have:=k.hH
 have:=k.box.lt
 omega
theorem GP.at {w:World} {N:Nat} {cv:Value} {cs:List UInt8} {H:Nat} {W:World} {rv:Value} {pn:Option Addr} {en:Nat} {g:Gr} {fv:Nat->Value} (k:GP w N cv cs H W rv (.slice pn g.nodes.length en) g fv) (h:0<g.nodes.length):∃ nb,pn=some ⟨nb,0,none⟩:=by
 obtain ⟨xs,ho,_⟩:=k.nd
 rcases ho.2 with ⟨_,e⟩|⟨nb,cap,cur,e,_⟩
 ·omega
 ·simp only [Value.slice.injEq] at e
  exact ⟨nb,e.1⟩
theorem GP.cells {w:World} {N:Nat} {cv:Value} {cs:List UInt8} {H nb en:Nat} {W:World} {rv:Value} {g:Gr} {fv:Nat->Value} (k:GP w N cv cs H W rv (.slice (some ⟨nb,0,none⟩) g.nodes.length en) g fv) {i:Nat} (hi:i<g.nodes.length) :
  (W.cell? ⟨nb,i * 3,none⟩=some (.int .i64 (g.nodes.getD i nd0).cls)/\W.cell? ⟨nb,i * 3+1,none⟩=some (.int .i64 (g.nodes.getD i nd0).hash)/\W.cell? ⟨nb,i * 3+2,none⟩=some (fv i))/\∀ j,W.frozen? ⟨nb,j,none⟩=false:=by
 obtain ⟨⟨M,f,R,hM,r⟩,-⟩:=(NOwn.nb k.nd).1
 obtain ⟨e1,e2,e3⟩:=r i hi
 exact ⟨⟨e1 ▸ R.cell (i:=i * 3) (by omega),e2 ▸ R.cell (i:=i * 3+1) (by omega),e3 ▸ R.cell (i:=i * 3+2) (by omega)⟩,fun j=>R.frozen j⟩
theorem Jkg (x:Int):g64 (wrap64 x):=by
 unfold g64 wrap64
 omega
theorem M8 (x:Int):g64 (IntKind.i64.wrap x):=by
 unfold g64
 simp [IntKind.wrap,IntKind.bits,IntKind.signed]
 omega
theorem GP.after {w:World} {N:Nat} {cv:Value} {cs:List UInt8} {H nb en:Nat} {W W' : World} {rv:Value} {g:Gr} {fv:Nat->Value} (k:GP w N cv cs H W rv (.slice (some ⟨nb,0,none⟩) g.nodes.length en) g fv) {i:Nat} (hi:i<g.nodes.length) (gg:W.grownBy W' (fv i).ownBlock) :
  (W'.rowIs H 27 3 (grF rv (.slice (some ⟨nb,0,none⟩) g.nodes.length en) g.hash)/\W'.cell? ⟨nb,i * 3+2,none⟩=some (fv i))/\W'.frozen? ⟨nb,i * 3+2,none⟩=false:=by
 obtain ⟨xs,hn,ht,hf,ha⟩:=k.nd
 obtain ⟨⟨⟨M,q,R,hM,r⟩,-⟩,hc,hB,hd⟩:=NOwn.nb k.nd
 have R1:W'.rowIs nb 41 M q:=(Grew.grown gg).row R (fun e=>hd i hi nb e rfl)
 exact ⟨⟨(Grew.grown gg).row k.box (fun e=>Ot k.box (hf i hi) (by decide) e),(r i hi).2.2 ▸ R1.cell (i:=i * 3+2) (by omega)⟩,R1.frozen _⟩
theorem GP.fl {w:World} {N:Nat} {cv:Value} {cs:List UInt8} {H:Nat} {W:World} {rv nv:Value} {g:Gr} {fv:Nat->Value} (k:GP w N cv cs H W rv nv g fv) {i:Nat} (hi:i<g.nodes.length):W.ownsRow (w.heap.size+1) 2 1 (fv i) (g.nodes.getD i nd0).fl.length (icells (g.nodes.getD i nd0).fl)/\(g.nodes.getD i nd0).fl.length<=1000:=by
 obtain ⟨xs,hn,ht,hf,ha⟩:=k.nd
 exact ⟨hf i hi,k.sm.2.2.2 _ (by simp [hi])⟩
theorem GP.swap1 {w:World} {N:Nat} {cv:Value} {cs:List UInt8} {H nb en b:Nat} {W:World} {rv u0 u1 u2:Value} {g:Gr} {fv f:Nat->Value} (k:GP w N cv cs H W rv (.slice (some ⟨nb,0,none⟩) g.nodes.length en) g fv) (h2:1<g.nodes.length) (RB:W.rowIs b 41 3 f) (hb:b ≠ nb) :
  (((W.setCell ⟨nb,0,none⟩ u0).setCell ⟨nb,1,none⟩ u1).setCell ⟨nb,2,none⟩ u2).rowIs H 27 3 (grF rv (.slice (some ⟨nb,0,none⟩) g.nodes.length en) g.hash)/\(((W.setCell ⟨nb,0,none⟩ u0).setCell ⟨nb,1,none⟩ u1).setCell ⟨nb,2,none⟩ u2).rowIs b 41 3 f ∧
   ∃ M q,(((W.setCell ⟨nb,0,none⟩ u0).setCell ⟨nb,1,none⟩ u1).setCell ⟨nb,2,none⟩ u2).rowIs nb 41 M q/\6<=M:=by
 obtain ⟨xs,hn,ht,hf,ha⟩:=k.nd
 obtain ⟨⟨⟨M,q,R,hM,r⟩,-⟩,hc,hB,hd⟩:=NOwn.nb k.nd
 have G:Grew W (((W.setCell ⟨nb,0,none⟩ u0).setCell ⟨nb,1,none⟩ u1).setCell ⟨nb,2,none⟩ u2) (fun z=>z=nb):=((Grew.set _ _ _ _).trans (Grew.set _ _ _ _)).trans (Grew.set _ _ _ _)
 exact ⟨G.row k.box (fun e=>Ot k.box hn (by decide) (by rw [e];rfl)),G.row RB hb,M,_,((R.set 0 u0).set 1 u1).set 2 u2,by omega⟩
set_option maxRecDepth 100000 in
set_option maxHeartbeats 12800000 in
theorem Jgp {N:Nat} {cv:Value} {cs:List UInt8} {w:World} (d0:Dw N cv cs w) (hN:N<w.heap.size) (DH:∀ W,Dw N cv cs W->N<W.heap.size->Calls Tryz.prog 57 #[.pointer (some ⟨N,0,none⟩)] W fun x w'=>Jcz W N cv cs x w') :
  Calls Tryz.prog 38 #[.pointer (some ⟨N,0,none⟩)] w fun x w'=>Jdm w N cv cs x w':=by
 have hmx:Tryz.prog.follows .mixedOrders=true:=by kernel_rfl
 have al:=C5 w (.cells #[.slice none 0 0,.slice none 0 0,.int .i64 0] 27)
 have D1:=DH _ (d0.more al hN) (by rw [World.size_alloc];omega)
 clear DH
 go_enter Tryz.func38,Tryz.ntmps38
 go_wp2_with fail
 refine D1.mono ?_
 rintro x w1 ⟨⟨u,t,rfl,hm,sm,-⟩,g1,d1⟩
 have SH:=V4 u t w1 hm.hr (by have:=sm.2.1;omega) (by have:=sm.2.2;omega)
 clear D1 al
 go_wp2_with fail
 refine SH.mono ?_
 rintro x w2 ⟨⟨v2,rfl,rv,nv,fv,rfl,rt,nd,ap⟩,hb2⟩
 have K0:=GP.new d0 hN g1 d1 hb2 rt nd ap (Jle t) (Jnb t)
 obtain ⟨pr,er,rfl⟩:=H7 rt
 obtain ⟨pn,en,rfl⟩:∃ pn en,nv=.slice pn (shC t).nodes.length en:=by obtain ⟨xs,ho,_⟩:=nd;exact H7 ho
 clear SH rt nd ap hb2 g1 d1 hm sm
 generalize shC t=g at *
 go_wp2_with fail
 refine (K0.dw.once 4 (by omega) (by omega)).mono ?_
 rintro x w3 ⟨⟨bo,rfl⟩,g3,d3⟩
 have K1:=K0.step ⟨g3,d3⟩
 generalize w2.heap.size=H at *
 clear K0 g3 d3
 cases bo
 ·have K9:=K1.gf
  clear K1
  obtain ⟨fR,FR⟩:=K9.res
  have OKC:(#[.slice pr g.roots.length er,.slice pn g.nodes.length en,.int .i64 g.hash]:Array Value).all (·.oneCell')=true:=by simp [Value.oneCell']
  obtain ⟨c0,c1,c2⟩:=E4 K9.box
  have ED:=fun W' (q:World.grownBy _ W' _)=>K9.done q
  go_wp2_with ((with_reducible refine C9 _ ?_ (.tmp 2) (.tmp 119) 27 ?_ 27 w.heap.size 3 #[.slice pr g.roots.length er,.slice pn g.nodes.length en,.int .i64 g.hash] _ ?_ ?_ FR ?_ ?_ OKC ?_);rfl;rfl;rfl;rfl;rfl;kernel_rfl;intro w9 F9 G9)
  have r0:=F9.cell (i:=0) (by omega);have r1:=F9.cell (i:=1) (by omega);have r2:=F9.cell (i:=2) (by omega)
  exact bodyPost_ret (v:=.agg #[.slice pr g.roots.length er,.slice pn g.nodes.length en,.int .i64 g.hash]) (by simp [results,Tryz.results38,go_sem,r0,r1,r2]) rfl (ED _ G9)
 go_wp2_with fail
 refine (K1.dw.less 6 (by omega) (by omega)).mono ?_
 rintro x w4 ⟨⟨z,rfl,z0,z1⟩,g4,d4⟩
 have K2:=K1.step ⟨g4,d4⟩
 clear K1 g4 d4
 rcases (show z=0 ∨ z=1 ∨ z=2 ∨ z=3 ∨ z=4 ∨ z=5 from by omega) with rfl|rfl|rfl|rfl|rfl|rfl
 ·have KD:GP w N cv cs H w4.drew (.slice pr g.roots.length er) (.slice pn g.nodes.length en) g fv:=K2.step (Sx.refl K2.dw).drew
  go_wp2_with fail
  refine Disk.z_plain 9 (fun W'=>W'.rowIs H 27 3 (grF (.slice pr g.roots.length er) (.slice pn g.nodes.length en) g.hash)) hmx KD.box (fun hs=>?_)
  clear K2
  generalize w4.drew=wd at hs KD ⊢
  refine Disk.zt 0 16 (v:=.pointer (some ⟨H,2,none⟩)) rfl rfl hs (fun W' hSw=>(by
   obtain ⟨s0,s1,s2⟩:=E4 hSw
   go_simp;first|done|with_reducible rfl)) ?_
  simp only [zA,zB,zC]
  refine Disk.zt 1 17 (v:=.int .i64 g.hash) rfl rfl hs (fun W' hSw=>(by
   obtain ⟨s0,s1,s2⟩:=E4 hSw
   go_simp;first|done|with_reducible rfl)) ?_
  simp only [zA,zB,zC]
  refine Disk.zt 2 18 (v:=.int .i64 (IntKind.i64.wrap (g.hash+5))) rfl rfl hs (fun W' hSw=>(by
   obtain ⟨s0,s1,s2⟩:=E4 hSw
   go_simp;first|done|with_reducible rfl)) ?_
  simp only [zA,zB,zC]
  refine Disk.zt 4 20 (v:=.pointer (some ⟨N,0,none⟩)) rfl rfl hs (fun W' hSw=>(by
   obtain ⟨s0,s1,s2⟩:=E4 hSw
   go_simp;first|done|with_reducible rfl)) ?_
  simp only [zA,zB,zC]
  refine Tv (i:=3) (j:=5) (by kernel_rfl) ?_ ?_
  ·obtain ⟨wb,gb,ewb,egb,Kb,RB,lgb⟩:∃ wb gb,wb=wd.alloc (.cells #[.int .i64 0,.int .i64 1,.int .i64 1000000000,.int .i64 1000000001,.int .i64 (IntKind.i64.wrap (g.hash+5))] 2)/\gb=wd.heap.size/\GP w N cv cs H wb (.slice pr g.roots.length er) (.slice pn g.nodes.length en) g fv/\wb.rowIs gb 2 5 (fun i=>(#[.int .i64 0,.int .i64 1,.int .i64 1000000000,.int .i64 1000000001,.int .i64 (IntKind.i64.wrap (g.hash+5))]:Array Value)[i]?.getD undef)/\N<gb:=⟨_,_,rfl,rfl,KD.later (C5 _ _),I0 wd #[.int .i64 0,.int .i64 1,.int .i64 1000000000,.int .i64 1000000001,.int .i64 (IntKind.i64.wrap (g.hash+5))] 2,KD.lt⟩
   refine Qn 3 19 (v:=.slice (some ⟨gb,0,none⟩) 5 5) rfl rfl (by rfl) (w':=wb) (by subst ewb;subst egb;go_simp;first|done|with_reducible rfl) (.inr Kb.box) ?_
   simp only [zA,zB,zC]
   clear ewb egb
   refine Disk.zc 5 21 rfl rfl (f:=59) (args:=#[.pointer (some ⟨N,0,none⟩),.int .i64 5]) (w0:=wb) ?_
   refine (Kb.dw.less 5 (by omega) (by omega)).mono ?_
   rintro e wq ⟨⟨z,rfl,zl,zu⟩,gq,dq⟩
   have Kq:=Kb.step ⟨gq,dq⟩
   refine ⟨_,rfl,.inr Kq.box,?_⟩
   simp only [zA,zB,zC]
   replace RB:=RB.of_block (gq.block _ RB.lt (fun e=>by have:=Option.some.inj e;omega))
   clear hs KD Kb gq dq
   obtain ⟨k,rfl⟩:=Int.eq_ofNat_of_zero_le zl
   obtain ⟨m,ck,hm⟩:∃ m:Int,wq.cell? ⟨gb,k,none⟩=some (.int .i64 m)/\g64 m:=by
    rcases (show k=0 ∨ k=1 ∨ k=2 ∨ k=3 ∨ k=4 from by omega) with rfl|rfl|rfl|rfl|rfl
    ·exact ⟨_,RB.cell (i:=0) (by omega),by first|(unfold g64;omega)|exact M8 _⟩
    ·exact ⟨_,RB.cell (i:=1) (by omega),by first|(unfold g64;omega)|exact M8 _⟩
    ·exact ⟨_,RB.cell (i:=2) (by omega),by first|(unfold g64;omega)|exact M8 _⟩
    ·exact ⟨_,RB.cell (i:=3) (by omega),by first|(unfold g64;omega)|exact M8 _⟩
    ·exact ⟨_,RB.cell (i:=4) (by omega),by first|(unfold g64;omega)|exact M8 _⟩
   have kl:(k:Int)<5:=by omega
   clear RB
   refine Disk.zr 6 22 (v:=.pointer (some ⟨gb,k,none⟩)) rfl rfl (w':=wq) (.inr Kq.box) ?_
   simp only [zA,zB,zC]
   refine Disk.zr 7 23 (v:=.int .i64 m) rfl rfl (w':=wq) (.inr Kq.box) ?_
   simp only [zA,zB,zC]
   refine Disk.zr 8 24 (v:=.pointer (some ⟨H,2,none⟩)) rfl rfl (w':=wq) (.inr Kq.box) ?_
   simp only [zA,zB,zC]
   obtain ⟨c0,c1,c2⟩:=E4 Kq.box
   have fz:=Kq.box.frozen 2
   have K9:=Kq.hash m
   refine Disk.zk 9 (w':=wq.setCell ⟨H,2,none⟩ (.int .i64 m)) rfl rfl (.inl rfl) ?_
   refine Disk.z_done (by kernel_rfl) ?_ _
   clear Kq c0 c1 c2 fz ck
   obtain ⟨fR,FR⟩:=K9.res
   have OKC:(#[.slice pr g.roots.length er,.slice pn g.nodes.length en,.int .i64 m]:Array Value).all (·.oneCell')=true:=by simp [Value.oneCell']
   obtain ⟨c0,c1,c2⟩:=E4 K9.box
   have ED:=fun W' (q:World.grownBy _ W' _)=>K9.done q
   go_wp2_with ((with_reducible refine C9 _ ?_ (.tmp 2) (.tmp 119) 27 ?_ 27 w.heap.size 3 #[.slice pr g.roots.length er,.slice pn g.nodes.length en,.int .i64 m] _ ?_ ?_ FR ?_ ?_ OKC ?_);rfl;rfl;rfl;rfl;rfl;kernel_rfl;intro w9 F9 G9)
   have r0:=F9.cell (i:=0) (by omega);have r1:=F9.cell (i:=1) (by omega);have r2:=F9.cell (i:=2) (by omega)
   exact bodyPost_ret (v:=.agg #[.slice pr g.roots.length er,.slice pn g.nodes.length en,.int .i64 m]) (by simp [results,Tryz.results38,go_sem,r0,r1,r2]) rfl (ED _ G9)
  ·refine Pq 5 21 rfl rfl (by rfl) (f:=59) (args:=#[.pointer (some ⟨N,0,none⟩),.int .i64 5]) (w0:=wd) (by go_simp) ?_
   refine (KD.dw.less 5 (by omega) (by omega)).mono ?_
   rintro e wq ⟨⟨z,rfl,zl,zu⟩,gq,dq⟩
   have Kq:=KD.step ⟨gq,dq⟩
   refine ⟨_,rfl,.inr Kq.box,?_⟩
   simp only [zA,zB,zC]
   clear hs KD gq dq
   obtain ⟨wb,gb,ewb,egb,Kb,RB,lgb⟩:∃ wb gb,wb=wq.alloc (.cells #[.int .i64 0,.int .i64 1,.int .i64 1000000000,.int .i64 1000000001,.int .i64 (IntKind.i64.wrap (g.hash+5))] 2)/\gb=wq.heap.size/\GP w N cv cs H wb (.slice pr g.roots.length er) (.slice pn g.nodes.length en) g fv/\wb.rowIs gb 2 5 (fun i=>(#[.int .i64 0,.int .i64 1,.int .i64 1000000000,.int .i64 1000000001,.int .i64 (IntKind.i64.wrap (g.hash+5))]:Array Value)[i]?.getD undef)/\N<gb:=⟨_,_,rfl,rfl,Kq.later (C5 _ _),I0 wq #[.int .i64 0,.int .i64 1,.int .i64 1000000000,.int .i64 1000000001,.int .i64 (IntKind.i64.wrap (g.hash+5))] 2,Kq.lt⟩
   refine Disk.z_run 3 19 (v:=.slice (some ⟨gb,0,none⟩) 5 5) rfl rfl (by kernel_rfl) (by rfl) (w':=wb) (by subst ewb;subst egb;go_simp;first|done|with_reducible rfl) (.inr Kb.box) ?_
   simp only [zA,zB,zC]
   clear ewb egb Kq
   obtain ⟨k,rfl⟩:=Int.eq_ofNat_of_zero_le zl
   obtain ⟨m,ck,hm⟩:∃ m:Int,wb.cell? ⟨gb,k,none⟩=some (.int .i64 m)/\g64 m:=by
    rcases (show k=0 ∨ k=1 ∨ k=2 ∨ k=3 ∨ k=4 from by omega) with rfl|rfl|rfl|rfl|rfl
    ·exact ⟨_,RB.cell (i:=0) (by omega),by first|(unfold g64;omega)|exact M8 _⟩
    ·exact ⟨_,RB.cell (i:=1) (by omega),by first|(unfold g64;omega)|exact M8 _⟩
    ·exact ⟨_,RB.cell (i:=2) (by omega),by first|(unfold g64;omega)|exact M8 _⟩
    ·exact ⟨_,RB.cell (i:=3) (by omega),by first|(unfold g64;omega)|exact M8 _⟩
    ·exact ⟨_,RB.cell (i:=4) (by omega),by first|(unfold g64;omega)|exact M8 _⟩
   have kl:(k:Int)<5:=by omega
   clear RB
   refine Disk.zr 6 22 (v:=.pointer (some ⟨gb,k,none⟩)) rfl rfl (w':=wb) (.inr Kb.box) ?_
   simp only [zA,zB,zC]
   refine Disk.zr 7 23 (v:=.int .i64 m) rfl rfl (w':=wb) (.inr Kb.box) ?_
   simp only [zA,zB,zC]
   refine Disk.zr 8 24 (v:=.pointer (some ⟨H,2,none⟩)) rfl rfl (w':=wb) (.inr Kb.box) ?_
   simp only [zA,zB,zC]
   obtain ⟨c0,c1,c2⟩:=E4 Kb.box
   have fz:=Kb.box.frozen 2
   have K9:=Kb.hash m
   refine Disk.zk 9 (w':=wb.setCell ⟨H,2,none⟩ (.int .i64 m)) rfl rfl (.inl rfl) ?_
   refine Disk.z_done (by kernel_rfl) ?_ _
   clear Kb c0 c1 c2 fz ck
   obtain ⟨fR,FR⟩:=K9.res
   have OKC:(#[.slice pr g.roots.length er,.slice pn g.nodes.length en,.int .i64 m]:Array Value).all (·.oneCell')=true:=by simp [Value.oneCell']
   obtain ⟨c0,c1,c2⟩:=E4 K9.box
   have ED:=fun W' (q:World.grownBy _ W' _)=>K9.done q
   go_wp2_with ((with_reducible refine C9 _ ?_ (.tmp 2) (.tmp 119) 27 ?_ 27 w.heap.size 3 #[.slice pr g.roots.length er,.slice pn g.nodes.length en,.int .i64 m] _ ?_ ?_ FR ?_ ?_ OKC ?_);rfl;rfl;rfl;rfl;rfl;kernel_rfl;intro w9 F9 G9)
   have r0:=F9.cell (i:=0) (by omega);have r1:=F9.cell (i:=1) (by omega);have r2:=F9.cell (i:=2) (by omega)
   exact bodyPost_ret (v:=.agg #[.slice pr g.roots.length er,.slice pn g.nodes.length en,.int .i64 m]) (by simp [results,Tryz.results38,go_sem,r0,r1,r2]) rfl (ED _ G9)
 ·have KD:GP w N cv cs H w4.drew (.slice pr g.roots.length er) (.slice pn g.nodes.length en) g fv:=K2.step (Sx.refl K2.dw).drew
  go_wp2_with fail
  refine Disk.z_plain 10 (fun W'=>W'.rowIs H 27 3 (grF (.slice pr g.roots.length er) (.slice pn g.nodes.length en) g.hash)) hmx KD.box (fun hs=>?_)
  clear K2
  generalize w4.drew=wd at hs KD ⊢
  refine Disk.zt 0 27 (v:=.pointer (some ⟨H,0,none⟩)) rfl rfl hs (fun W' hSw=>(by
   obtain ⟨s0,s1,s2⟩:=E4 hSw
   go_simp;first|done|with_reducible rfl)) ?_
  simp only [zA,zB,zC]
  refine Disk.zt 1 28 (v:=.slice pr g.roots.length er) rfl rfl hs (fun W' hSw=>(by
   obtain ⟨s0,s1,s2⟩:=E4 hSw
   go_simp;first|done|with_reducible rfl)) ?_
  simp only [zA,zB,zC]
  refine Disk.zt 3 30 (v:=.pointer (some ⟨N,0,none⟩)) rfl rfl hs (fun W' hSw=>(by
   obtain ⟨s0,s1,s2⟩:=E4 hSw
   go_simp;first|done|with_reducible rfl)) ?_
  simp only [zA,zB,zC]
  refine Tv (i:=2) (j:=4) (by kernel_rfl) ?_ ?_
  ·obtain ⟨wb,gb,ewb,egb,Kb,RB,lgb⟩:∃ wb gb,wb=wd.alloc (.cells #[.int .i64 1,.int .i64 3,.int .i64 (-1),.int .i64 5,.int .i64 2000000000,.int .i64 4611686018427387904] 2)/\gb=wd.heap.size/\GP w N cv cs H wb (.slice pr g.roots.length er) (.slice pn g.nodes.length en) g fv/\wb.rowIs gb 2 6 (fun i=>(#[.int .i64 1,.int .i64 3,.int .i64 (-1),.int .i64 5,.int .i64 2000000000,.int .i64 4611686018427387904]:Array Value)[i]?.getD undef)/\N<gb:=⟨_,_,rfl,rfl,KD.later (C5 _ _),I0 wd #[.int .i64 1,.int .i64 3,.int .i64 (-1),.int .i64 5,.int .i64 2000000000,.int .i64 4611686018427387904] 2,KD.lt⟩
   refine Qn 2 29 (v:=.slice (some ⟨gb,0,none⟩) 6 6) rfl rfl (by rfl) (w':=wb) (by subst ewb;subst egb;go_simp;first|done|with_reducible rfl) (.inr Kb.box) ?_
   simp only [zA,zB,zC]
   clear ewb egb
   refine Disk.zc 4 31 rfl rfl (f:=59) (args:=#[.pointer (some ⟨N,0,none⟩),.int .i64 6]) (w0:=wb) ?_
   refine (Kb.dw.less 6 (by omega) (by omega)).mono ?_
   rintro e wq ⟨⟨z,rfl,zl,zu⟩,gq,dq⟩
   have Kq:=Kb.step ⟨gq,dq⟩
   refine ⟨_,rfl,.inr Kq.box,?_⟩
   simp only [zA,zB,zC]
   replace RB:=RB.of_block (gq.block _ RB.lt (fun e=>by have:=Option.some.inj e;omega))
   clear hs KD Kb gq dq
   obtain ⟨k,rfl⟩:=Int.eq_ofNat_of_zero_le zl
   obtain ⟨m,ck,hm⟩:∃ m:Int,wq.cell? ⟨gb,k,none⟩=some (.int .i64 m)/\g64 m:=by
    rcases (show k=0 ∨ k=1 ∨ k=2 ∨ k=3 ∨ k=4 ∨ k=5 from by omega) with rfl|rfl|rfl|rfl|rfl|rfl
    ·exact ⟨_,RB.cell (i:=0) (by omega),by first|(unfold g64;omega)|exact M8 _⟩
    ·exact ⟨_,RB.cell (i:=1) (by omega),by first|(unfold g64;omega)|exact M8 _⟩
    ·exact ⟨_,RB.cell (i:=2) (by omega),by first|(unfold g64;omega)|exact M8 _⟩
    ·exact ⟨_,RB.cell (i:=3) (by omega),by first|(unfold g64;omega)|exact M8 _⟩
    ·exact ⟨_,RB.cell (i:=4) (by omega),by first|(unfold g64;omega)|exact M8 _⟩
    ·exact ⟨_,RB.cell (i:=5) (by omega),by first|(unfold g64;omega)|exact M8 _⟩
   have kl:(k:Int)<6:=by omega
   clear RB
   refine Disk.zr 5 32 (v:=.pointer (some ⟨gb,k,none⟩)) rfl rfl (w':=wq) (.inr Kq.box) ?_
   simp only [zA,zB,zC]
   refine Disk.zr 6 33 (v:=.int .i64 m) rfl rfl (w':=wq) (.inr Kq.box) ?_
   simp only [zA,zB,zC]
   obtain ⟨wc,gc,ewc,egc,Kc,cc⟩:∃ wc gc,wc=wq.alloc (.cells #[.int .i64 m] 2)/\gc=wq.heap.size/\GP w N cv cs H wc (.slice pr g.roots.length er) (.slice pn g.nodes.length en) g fv/\wc.cell? ⟨gc,0,none⟩=some (.int .i64 m):=⟨_,_,rfl,rfl,Kq.later (C5 _ _),by simp⟩
   refine Disk.z_run 7 34 (v:=.slice (some ⟨gc,0,none⟩) 1 1) rfl rfl (by kernel_rfl) (by rfl) (w':=wc) (by subst ewc;subst egc;go_simp;first|done|with_reducible rfl) (.inr Kc.box) ?_
   simp only [zA,zB,zC]
   clear ewc egc Kq ck
   obtain ⟨u,w5,run,O5,G5,-⟩:=Pc wc 24 (w.heap.size+1) (.slice pr g.roots.length er) g.roots g.roots.length rfl Kc.rt (by have:=Kc.sm.1;omega) gc 1 m cc Kc.hB
   obtain ⟨pu,eu,rfl⟩:=H7 O5
   have K9:=Kc.root (x:=m) hm (by rw [show icells g.roots ++ [Value.int .i64 m]=icells (g.roots ++ [m]) from by simp [icells]];exact O5) G5
   have bx5:=(Grew.grown G5).row Kc.box (fun e=>Ot Kc.box Kc.rt (by decide) e)
   have c0':=bx5.cell (i:=0) (by omega)
   have fz0:=bx5.frozen 0
   refine Disk.z_run 8 35 rfl rfl (by kernel_rfl) (by rfl) (Pt _ _ rfl _ _ rfl rfl run) (.inr bx5) ?_
   simp only [zA,zB,zC]
   refine Disk.zr 9 36 (v:=.pointer (some ⟨H,0,none⟩)) rfl rfl (w':=w5) (.inr bx5) ?_
   simp only [zA,zB,zC]
   refine Disk.zk 10 (w':=w5.setCell ⟨H,0,none⟩ (.slice pu (g.roots.length+1) eu)) rfl rfl (.inl rfl) ?_
   refine Disk.z_done (by kernel_rfl) ?_ _
   clear Kc run O5 G5 bx5 c0' fz0
   obtain ⟨fR,FR⟩:=K9.res
   have OKC:(#[.slice pu (g.roots.length+1) eu,.slice pn g.nodes.length en,.int .i64 g.hash]:Array Value).all (·.oneCell')=true:=by simp [Value.oneCell']
   obtain ⟨c0,c1,c2⟩:=E4 K9.box
   have ED:=fun W' (q:World.grownBy _ W' _)=>K9.done q
   go_wp2_with ((with_reducible refine C9 _ ?_ (.tmp 2) (.tmp 119) 27 ?_ 27 w.heap.size 3 #[.slice pu (g.roots.length+1) eu,.slice pn g.nodes.length en,.int .i64 g.hash] _ ?_ ?_ FR ?_ ?_ OKC ?_);rfl;rfl;rfl;rfl;rfl;kernel_rfl;intro w9 F9 G9)
   have r0:=F9.cell (i:=0) (by omega);have r1:=F9.cell (i:=1) (by omega);have r2:=F9.cell (i:=2) (by omega)
   exact bodyPost_ret (v:=.agg #[.slice pu (g.roots.length+1) eu,.slice pn g.nodes.length en,.int .i64 g.hash]) (by simp [results,Tryz.results38,go_sem,r0,r1,r2]) rfl (ED _ G9)
  ·refine Pq 4 31 rfl rfl (by rfl) (f:=59) (args:=#[.pointer (some ⟨N,0,none⟩),.int .i64 6]) (w0:=wd) (by go_simp) ?_
   refine (KD.dw.less 6 (by omega) (by omega)).mono ?_
   rintro e wq ⟨⟨z,rfl,zl,zu⟩,gq,dq⟩
   have Kq:=KD.step ⟨gq,dq⟩
   refine ⟨_,rfl,.inr Kq.box,?_⟩
   simp only [zA,zB,zC]
   clear hs KD gq dq
   obtain ⟨wb,gb,ewb,egb,Kb,RB,lgb⟩:∃ wb gb,wb=wq.alloc (.cells #[.int .i64 1,.int .i64 3,.int .i64 (-1),.int .i64 5,.int .i64 2000000000,.int .i64 4611686018427387904] 2)/\gb=wq.heap.size/\GP w N cv cs H wb (.slice pr g.roots.length er) (.slice pn g.nodes.length en) g fv/\wb.rowIs gb 2 6 (fun i=>(#[.int .i64 1,.int .i64 3,.int .i64 (-1),.int .i64 5,.int .i64 2000000000,.int .i64 4611686018427387904]:Array Value)[i]?.getD undef)/\N<gb:=⟨_,_,rfl,rfl,Kq.later (C5 _ _),I0 wq #[.int .i64 1,.int .i64 3,.int .i64 (-1),.int .i64 5,.int .i64 2000000000,.int .i64 4611686018427387904] 2,Kq.lt⟩
   refine Disk.z_run 2 29 (v:=.slice (some ⟨gb,0,none⟩) 6 6) rfl rfl (by kernel_rfl) (by rfl) (w':=wb) (by subst ewb;subst egb;go_simp;first|done|with_reducible rfl) (.inr Kb.box) ?_
   simp only [zA,zB,zC]
   clear ewb egb Kq
   obtain ⟨k,rfl⟩:=Int.eq_ofNat_of_zero_le zl
   obtain ⟨m,ck,hm⟩:∃ m:Int,wb.cell? ⟨gb,k,none⟩=some (.int .i64 m)/\g64 m:=by
    rcases (show k=0 ∨ k=1 ∨ k=2 ∨ k=3 ∨ k=4 ∨ k=5 from by omega) with rfl|rfl|rfl|rfl|rfl|rfl
    ·exact ⟨_,RB.cell (i:=0) (by omega),by first|(unfold g64;omega)|exact M8 _⟩
    ·exact ⟨_,RB.cell (i:=1) (by omega),by first|(unfold g64;omega)|exact M8 _⟩
    ·exact ⟨_,RB.cell (i:=2) (by omega),by first|(unfold g64;omega)|exact M8 _⟩
    ·exact ⟨_,RB.cell (i:=3) (by omega),by first|(unfold g64;omega)|exact M8 _⟩
    ·exact ⟨_,RB.cell (i:=4) (by omega),by first|(unfold g64;omega)|exact M8 _⟩
    ·exact ⟨_,RB.cell (i:=5) (by omega),by first|(unfold g64;omega)|exact M8 _⟩
   have kl:(k:Int)<6:=by omega
   clear RB
   refine Disk.zr 5 32 (v:=.pointer (some ⟨gb,k,none⟩)) rfl rfl (w':=wb) (.inr Kb.box) ?_
   simp only [zA,zB,zC]
   refine Disk.zr 6 33 (v:=.int .i64 m) rfl rfl (w':=wb) (.inr Kb.box) ?_
   simp only [zA,zB,zC]
   obtain ⟨wc,gc,ewc,egc,Kc,cc⟩:∃ wc gc,wc=wb.alloc (.cells #[.int .i64 m] 2)/\gc=wb.heap.size/\GP w N cv cs H wc (.slice pr g.roots.length er) (.slice pn g.nodes.length en) g fv/\wc.cell? ⟨gc,0,none⟩=some (.int .i64 m):=⟨_,_,rfl,rfl,Kb.later (C5 _ _),by simp⟩
   refine Disk.z_run 7 34 (v:=.slice (some ⟨gc,0,none⟩) 1 1) rfl rfl (by kernel_rfl) (by rfl) (w':=wc) (by subst ewc;subst egc;go_simp;first|done|with_reducible rfl) (.inr Kc.box) ?_
   simp only [zA,zB,zC]
   clear ewc egc Kb ck
   obtain ⟨u,w5,run,O5,G5,-⟩:=Pc wc 24 (w.heap.size+1) (.slice pr g.roots.length er) g.roots g.roots.length rfl Kc.rt (by have:=Kc.sm.1;omega) gc 1 m cc Kc.hB
   obtain ⟨pu,eu,rfl⟩:=H7 O5
   have K9:=Kc.root (x:=m) hm (by rw [show icells g.roots ++ [Value.int .i64 m]=icells (g.roots ++ [m]) from by simp [icells]];exact O5) G5
   have bx5:=(Grew.grown G5).row Kc.box (fun e=>Ot Kc.box Kc.rt (by decide) e)
   have c0':=bx5.cell (i:=0) (by omega)
   have fz0:=bx5.frozen 0
   refine Disk.z_run 8 35 rfl rfl (by kernel_rfl) (by rfl) (Pt _ _ rfl _ _ rfl rfl run) (.inr bx5) ?_
   simp only [zA,zB,zC]
   refine Disk.zr 9 36 (v:=.pointer (some ⟨H,0,none⟩)) rfl rfl (w':=w5) (.inr bx5) ?_
   simp only [zA,zB,zC]
   refine Disk.zk 10 (w':=w5.setCell ⟨H,0,none⟩ (.slice pu (g.roots.length+1) eu)) rfl rfl (.inl rfl) ?_
   refine Disk.z_done (by kernel_rfl) ?_ _
   clear Kc run O5 G5 bx5 c0' fz0
   obtain ⟨fR,FR⟩:=K9.res
   have OKC:(#[.slice pu (g.roots.length+1) eu,.slice pn g.nodes.length en,.int .i64 g.hash]:Array Value).all (·.oneCell')=true:=by simp [Value.oneCell']
   obtain ⟨c0,c1,c2⟩:=E4 K9.box
   have ED:=fun W' (q:World.grownBy _ W' _)=>K9.done q
   go_wp2_with ((with_reducible refine C9 _ ?_ (.tmp 2) (.tmp 119) 27 ?_ 27 w.heap.size 3 #[.slice pu (g.roots.length+1) eu,.slice pn g.nodes.length en,.int .i64 g.hash] _ ?_ ?_ FR ?_ ?_ OKC ?_);rfl;rfl;rfl;rfl;rfl;kernel_rfl;intro w9 F9 G9)
   have r0:=F9.cell (i:=0) (by omega);have r1:=F9.cell (i:=1) (by omega);have r2:=F9.cell (i:=2) (by omega)
   exact bodyPost_ret (v:=.agg #[.slice pu (g.roots.length+1) eu,.slice pn g.nodes.length en,.int .i64 g.hash]) (by simp [results,Tryz.results38,go_sem,r0,r1,r2]) rfl (ED _ G9)
 ·have al:=C5 w4 (.cells #[.int .i64 0,.int .i64 (wrap64 (g.hash - 1)),.slice none 0 0] 41)
  have K3:=K2.later al
  obtain ⟨xs,ho3,ht3,-,-⟩:=K3.nd
  have hc:∀ W:World,(W.alloc (.cells #[.int .i64 0,.int .i64 (wrap64 (g.hash - 1)),.slice none 0 0] 41)).cell? ⟨W.heap.size,0,none⟩=some (.int .i64 0)/\(W.alloc (.cells #[.int .i64 0,.int .i64 (wrap64 (g.hash - 1)),.slice none 0 0] 41)).cell? ⟨W.heap.size,1,none⟩=some (.int .i64 (wrap64 (g.hash - 1)))/\(W.alloc (.cells #[.int .i64 0,.int .i64 (wrap64 (g.hash - 1)),.slice none 0 0] 41)).cell? ⟨W.heap.size,2,none⟩=some (.slice none 0 0):=fun W=>⟨by simp,by simp,by simp⟩
  have FIN:Hid (∀ w5 pu eu,w5.ownsRow (w.heap.size+1) 41 3 (.slice pu (g.nodes.length+1) eu) (g.nodes.length+1) (xs ++ [.int .i64 0,.int .i64 (wrap64 (g.hash - 1)),.slice none 0 0])->(w4.alloc (.cells #[.int .i64 0,.int .i64 (wrap64 (g.hash - 1)),.slice none 0 0] 41)).grownBy w5 (Value.ownBlock (.slice pn g.nodes.length en))->GF w N cv cs H (w5.setCell ⟨H,1,none⟩ (.slice pu (g.nodes.length+1) eu)) (.slice pr g.roots.length er) (.slice pu (g.nodes.length+1) eu) g.hash/\w5.frozen? ⟨H,1,none⟩=false/\w5.cell? ⟨H,1,none⟩=some (.slice pn g.nodes.length en)):=fun w5 pu eu q1 q2=>by
   have bx5:=(Grew.grown q2).row K3.box (fun e=>Ot K3.box ho3 (by decide) e)
   exact ⟨K3.node ho3 ht3 q1 q2 (by unfold g64;omega) (Jkg _),bx5.frozen 1,bx5.cell (i:=1) (by omega)⟩
  have hBB:=K3.hB
  have n1:=K3.sm.2.1
  obtain ⟨c0,c1,c2⟩:=E4 K2.box
  clear K3 K2 ht3 al
  go_wp2_with (first
   | ((with_reducible refine C9 _ ?_ (.tmp 2) (.tmp 119) 27 ?_ 27 w.heap.size 3 #[.slice pr g.roots.length er,.slice pu (g.nodes.length+1) eu,.int .i64 g.hash] _ ?_ ?_ FR ?_ ?_ OKC ?_);rfl;rfl;rfl;rfl;rfl;kernel_rfl;intro w9 F9 G9)
   | (at_builtin;refine Xy _ rfl _ _ rfl (w.heap.size+1) _ g.nodes.length xs rfl ho3 _ 1 0 (wrap64 (g.hash - 1)) none 0 0 rfl (hc _) (by omega) hBB ?_;intro v5 w5 hown5 hg5 hloc;(obtain ⟨pu,eu,hv5⟩:=H7 hown5);subst hv5;(obtain ⟨K9,fz,cz⟩:=FIN.out w5 pu eu hown5 hg5);clear hown5 hg5 hloc FIN c0 c1 c2;(obtain ⟨fR,FR⟩:=K9.res);(obtain ⟨c0,c1,c2⟩:=E4 K9.box);have OKC:(#[.slice pr g.roots.length er,.slice pu (g.nodes.length+1) eu,.int .i64 g.hash]:Array Value).all (·.oneCell')=true:=by simp [Value.oneCell']))
  have r0:=F9.cell (i:=0) (by omega);have r1:=F9.cell (i:=1) (by omega);have r2:=F9.cell (i:=2) (by omega)
  exact bodyPost_ret (v:=.agg #[.slice pr g.roots.length er,.slice pu (g.nodes.length+1) eu,.int .i64 g.hash]) (by simp [results,Tryz.results38,go_sem,r0,r1,r2]) rfl (K9.done G9)
 ·by_cases h0:0<g.nodes.length
  ·have hl0:(0:Int)<(g.nodes.length:Int):=by omega
   obtain ⟨nb,rfl⟩:=K2.at h0
   obtain ⟨c0,c1,c2⟩:=E4 K2.box
   have KD:GP w N cv cs H w4.drew (.slice pr g.roots.length er) (.slice (some ⟨nb,0,none⟩) g.nodes.length en) g fv:=K2.step (Sx.refl K2.dw).drew
   go_wp2_with fail
   refine Disk.z_plain 99 (fun W'=>W'.rowIs H 27 3 (grF (.slice pr g.roots.length er) (.slice (some ⟨nb,0,none⟩) g.nodes.length en) g.hash)) hmx KD.box (fun hs=>?_)
   clear K2 c0 c1 c2
   generalize w4.drew=wd at hs KD ⊢
   refine Disk.zt 0 54 (v:=.pointer (some ⟨H,1,none⟩)) rfl rfl hs (fun W' hSw=>(by
    obtain ⟨s0,s1,s2⟩:=E4 hSw
    go_simp;first|done|with_reducible rfl)) ?_
   simp only [zA,zB,zC]
   refine Disk.zt 1 55 (v:=.slice (some ⟨nb,0,none⟩) g.nodes.length en) rfl rfl hs (fun W' hSw=>(by
    obtain ⟨s0,s1,s2⟩:=E4 hSw
    go_simp;first|done|with_reducible rfl)) ?_
   simp only [zA,zB,zC]
   refine Disk.zt 2 56 (v:=.pointer (some ⟨N,0,none⟩)) rfl rfl hs (fun W' hSw=>(by
    obtain ⟨s0,s1,s2⟩:=E4 hSw
    go_simp;first|done|with_reducible rfl)) ?_
   simp only [zA,zB,zC]
   refine Disk.zt 3 57 (v:=.pointer (some ⟨H,1,none⟩)) rfl rfl hs (fun W' hSw=>(by
    obtain ⟨s0,s1,s2⟩:=E4 hSw
    go_simp;first|done|with_reducible rfl)) ?_
   simp only [zA,zB,zC]
   refine Disk.zt 4 58 (v:=.slice (some ⟨nb,0,none⟩) g.nodes.length en) rfl rfl hs (fun W' hSw=>(by
    obtain ⟨s0,s1,s2⟩:=E4 hSw
    go_simp;first|done|with_reducible rfl)) ?_
   simp only [zA,zB,zC]
   refine Disk.zt 5 59 (v:=.int .i64 (g.nodes.length:Int)) rfl rfl hs (fun W' hSw=>(by
    obtain ⟨s0,s1,s2⟩:=E4 hSw
    go_simp;first|done|with_reducible rfl)) ?_
   simp only [zA,zB,zC]
   have n1:=KD.sm.2.1
   refine Disk.zc 6 60 rfl rfl (f:=59) (args:=#[.pointer (some ⟨N,0,none⟩),.int .i64 (g.nodes.length:Int)]) (w0:=wd) ?_
   refine (KD.dw.less (g.nodes.length:Int) hl0 (by omega)).mono ?_
   rintro e wq ⟨⟨z,rfl,zl,zu⟩,gq,dq⟩
   have Kq:=KD.step ⟨gq,dq⟩
   refine ⟨_,rfl,.inr Kq.box,?_⟩
   simp only [zA,zB,zC]
   clear hs KD gq dq
   obtain ⟨i,rfl⟩:=Int.eq_ofNat_of_zero_le zl
   have hi:i<g.nodes.length:=by omega
   refine Disk.zr 7 61 (v:=.pointer (some ⟨nb,i * 3,none⟩)) rfl rfl (w':=wq) (.inr Kq.box) ?_
   simp only [zA,zB,zC]
   refine Disk.zr 8 4 (v:=.pointer (some ⟨nb,i * 3,none⟩)) rfl rfl (w':=wq) (.inr Kq.box) ?_
   simp only [zA,zB,zC]
   refine Disk.z_done (by kernel_rfl) ?_ _
   have al:=C5 wq (.cells #[.int .i64 (-1),.int .i64 99,.int .i64 100,.int .i64 5] 2)
   have Ka:=Kq.later al
   have lta:=Kq.lt
   go_wp2_with fail
   refine (Ka.dw.less 4 (by omega) (by omega)).mono ?_
   rintro x wl ⟨⟨z,rfl,zl',zu'⟩,gl,dl⟩
   obtain ⟨k,rfl⟩:=Int.eq_ofNat_of_zero_le zl'
   obtain ⟨m,ck,hm⟩:=Jmf _ (by rfl) gl lta k (by simp;omega)
   have kl:(k:Int)<4:=by omega
   have Kl:=Ka.step ⟨gl,dl⟩
   have K9:=Kl.cls hi hm
   obtain ⟨⟨cn,-,-⟩,fz⟩:=Kl.cells hi
   clear gl dl Ka al Kl Kq
   obtain ⟨fR,FR⟩:=K9.res
   have OKC:(#[.slice pr g.roots.length er,.slice (some ⟨nb,0,none⟩) g.nodes.length en,.int .i64 g.hash]:Array Value).all (·.oneCell')=true:=by simp [Value.oneCell']
   obtain ⟨c0,c1,c2⟩:=E4 K9.box
   have ED:=fun W' (q:World.grownBy _ W' _)=>K9.done q
   go_wp2_with ((with_reducible refine C9 _ ?_ (.tmp 2) (.tmp 119) 27 ?_ 27 w.heap.size 3 #[.slice pr g.roots.length er,.slice (some ⟨nb,0,none⟩) g.nodes.length en,.int .i64 g.hash] _ ?_ ?_ FR ?_ ?_ OKC ?_);rfl;rfl;rfl;rfl;rfl;kernel_rfl;intro w9 F9 G9)
   have r0:=F9.cell (i:=0) (by omega);have r1:=F9.cell (i:=1) (by omega);have r2:=F9.cell (i:=2) (by omega)
   exact bodyPost_ret (v:=.agg #[.slice pr g.roots.length er,.slice (some ⟨nb,0,none⟩) g.nodes.length en,.int .i64 g.hash]) (by simp [results,Tryz.results38,go_sem,r0,r1,r2]) rfl (ED _ G9)
  ·have hl0:¬ (0:Int)<(g.nodes.length:Int):=by omega
   obtain ⟨c0,c1,c2⟩:=E4 K2.box
   have K9:=K2.gf
   clear c0 c1 c2
   obtain ⟨fR,FR⟩:=K9.res
   have OKC:(#[.slice pr g.roots.length er,.slice pn g.nodes.length en,.int .i64 g.hash]:Array Value).all (·.oneCell')=true:=by simp [Value.oneCell']
   obtain ⟨c0,c1,c2⟩:=E4 K9.box
   have ED:=fun W' (q:World.grownBy _ W' _)=>K9.done q
   go_wp2_with ((with_reducible refine C9 _ ?_ (.tmp 2) (.tmp 119) 27 ?_ 27 w.heap.size 3 #[.slice pr g.roots.length er,.slice pn g.nodes.length en,.int .i64 g.hash] _ ?_ ?_ FR ?_ ?_ OKC ?_);rfl;rfl;rfl;rfl;rfl;kernel_rfl;intro w9 F9 G9)
   have r0:=F9.cell (i:=0) (by omega);have r1:=F9.cell (i:=1) (by omega);have r2:=F9.cell (i:=2) (by omega)
   exact bodyPost_ret (v:=.agg #[.slice pr g.roots.length er,.slice pn g.nodes.length en,.int .i64 g.hash]) (by simp [results,Tryz.results38,go_sem,r0,r1,r2]) rfl (ED _ G9)
 ·by_cases h0:0<g.nodes.length
  ·have hl0:(0:Int)<(g.nodes.length:Int):=by omega
   obtain ⟨nb,rfl⟩:=K2.at h0
   obtain ⟨c0,c1,c2⟩:=E4 K2.box
   have KD:GP w N cv cs H w4.drew (.slice pr g.roots.length er) (.slice (some ⟨nb,0,none⟩) g.nodes.length en) g fv:=K2.step (Sx.refl K2.dw).drew
   go_wp2_with fail
   refine Disk.z_plain 99 (fun W'=>W'.rowIs H 27 3 (grF (.slice pr g.roots.length er) (.slice (some ⟨nb,0,none⟩) g.nodes.length en) g.hash)) hmx KD.box (fun hs=>?_)
   clear K2 c0 c1 c2
   generalize w4.drew=wd at hs KD ⊢
   refine Disk.zt 0 76 (v:=.pointer (some ⟨H,1,none⟩)) rfl rfl hs (fun W' hSw=>(by
    obtain ⟨s0,s1,s2⟩:=E4 hSw
    go_simp;first|done|with_reducible rfl)) ?_
   simp only [zA,zB,zC]
   refine Disk.zt 1 77 (v:=.slice (some ⟨nb,0,none⟩) g.nodes.length en) rfl rfl hs (fun W' hSw=>(by
    obtain ⟨s0,s1,s2⟩:=E4 hSw
    go_simp;first|done|with_reducible rfl)) ?_
   simp only [zA,zB,zC]
   refine Disk.zt 2 78 (v:=.pointer (some ⟨N,0,none⟩)) rfl rfl hs (fun W' hSw=>(by
    obtain ⟨s0,s1,s2⟩:=E4 hSw
    go_simp;first|done|with_reducible rfl)) ?_
   simp only [zA,zB,zC]
   refine Disk.zt 3 79 (v:=.pointer (some ⟨H,1,none⟩)) rfl rfl hs (fun W' hSw=>(by
    obtain ⟨s0,s1,s2⟩:=E4 hSw
    go_simp;first|done|with_reducible rfl)) ?_
   simp only [zA,zB,zC]
   refine Disk.zt 4 80 (v:=.slice (some ⟨nb,0,none⟩) g.nodes.length en) rfl rfl hs (fun W' hSw=>(by
    obtain ⟨s0,s1,s2⟩:=E4 hSw
    go_simp;first|done|with_reducible rfl)) ?_
   simp only [zA,zB,zC]
   refine Disk.zt 5 81 (v:=.int .i64 (g.nodes.length:Int)) rfl rfl hs (fun W' hSw=>(by
    obtain ⟨s0,s1,s2⟩:=E4 hSw
    go_simp;first|done|with_reducible rfl)) ?_
   simp only [zA,zB,zC]
   have n1:=KD.sm.2.1
   refine Disk.zc 6 82 rfl rfl (f:=59) (args:=#[.pointer (some ⟨N,0,none⟩),.int .i64 (g.nodes.length:Int)]) (w0:=wd) ?_
   refine (KD.dw.less (g.nodes.length:Int) hl0 (by omega)).mono ?_
   rintro e wq ⟨⟨z,rfl,zl,zu⟩,gq,dq⟩
   have Kq:=KD.step ⟨gq,dq⟩
   refine ⟨_,rfl,.inr Kq.box,?_⟩
   simp only [zA,zB,zC]
   clear hs KD gq dq
   obtain ⟨i,rfl⟩:=Int.eq_ofNat_of_zero_le zl
   have hi:i<g.nodes.length:=by omega
   refine Disk.zr 7 83 (v:=.pointer (some ⟨nb,i * 3,none⟩)) rfl rfl (w':=wq) (.inr Kq.box) ?_
   simp only [zA,zB,zC]
   refine Disk.zr 8 5 (v:=.pointer (some ⟨nb,i * 3,none⟩)) rfl rfl (w':=wq) (.inr Kq.box) ?_
   simp only [zA,zB,zC]
   refine Disk.z_done (by kernel_rfl) ?_ _
   have KD:GP w N cv cs H wq.drew (.slice pr g.roots.length er) (.slice (some ⟨nb,0,none⟩) g.nodes.length en) g fv:=Kq.step (Sx.refl Kq.dw).drew
   go_wp2_with fail
   refine Disk.z_plain 14 (fun W'=>W'.rowIs H 27 3 (grF (.slice pr g.roots.length er) (.slice (some ⟨nb,0,none⟩) g.nodes.length en) g.hash)/\W'.cell? ⟨nb,i * 3+2,none⟩=some (fv i)) hmx ⟨KD.box,(KD.cells hi).1.2.2⟩ (fun hs=>?_)
   clear Kq
   generalize wq.drew=wd at hs KD ⊢
   refine Disk.zt 0 84 (v:=.pointer (some ⟨nb,i * 3,none⟩)) rfl rfl hs (fun W' hSw=>(by
    obtain ⟨hbx,n2⟩:=hSw
    obtain ⟨s0,s1,s2⟩:=E4 hbx
    go_simp;first|done|with_reducible rfl|(intro hq;exact (hne hq).elim))) ?_
   simp only [zA,zB,zC]
   refine Disk.zt 1 85 (v:=.pointer (some ⟨nb,i * 3,none⟩)) rfl rfl hs (fun W' hSw=>(by
    obtain ⟨hbx,n2⟩:=hSw
    obtain ⟨s0,s1,s2⟩:=E4 hbx
    go_simp;first|done|with_reducible rfl|(intro hq;exact (hne hq).elim))) ?_
   simp only [zA,zB,zC]
   refine Disk.zt 2 86 (v:=.pointer (some ⟨nb,i * 3,none⟩)) rfl rfl hs (fun W' hSw=>(by
    obtain ⟨hbx,n2⟩:=hSw
    obtain ⟨s0,s1,s2⟩:=E4 hbx
    go_simp;first|done|with_reducible rfl|(intro hq;exact (hne hq).elim))) ?_
   simp only [zA,zB,zC]
   refine Disk.zt 3 87 (v:=.pointer (some ⟨nb,i * 3+2,none⟩)) rfl rfl hs (fun W' hSw=>(by
    obtain ⟨hbx,n2⟩:=hSw
    obtain ⟨s0,s1,s2⟩:=E4 hbx
    go_simp;first|done|with_reducible rfl|(intro hq;exact (hne hq).elim))) ?_
   simp only [zA,zB,zC]
   refine Disk.zt 4 88 (v:=fv i) rfl rfl hs (fun W' hSw=>(by
    obtain ⟨hbx,n2⟩:=hSw
    obtain ⟨s0,s1,s2⟩:=E4 hbx
    go_simp;first|done|with_reducible rfl|(intro hq;exact (hne hq).elim))) ?_
   simp only [zA,zB,zC]
   refine Disk.zt 6 90 (v:=.pointer (some ⟨N,0,none⟩)) rfl rfl hs (fun W' hSw=>(by
    obtain ⟨hbx,n2⟩:=hSw
    obtain ⟨s0,s1,s2⟩:=E4 hbx
    go_simp;first|done|with_reducible rfl|(intro hq;exact (hne hq).elim))) ?_
   simp only [zA,zB,zC]
   refine Tv (i:=5) (j:=7) (by kernel_rfl) ?_ ?_
   ·obtain ⟨wb,gb,ewb,egb,Kb,RB,lgb⟩:∃ wb gb,wb=wd.alloc (.cells #[.int .i64 1,.int .i64 (-1),.int .i64 4,.int .i64 99,.int .i64 4611686018427387904] 2)/\gb=wd.heap.size/\GP w N cv cs H wb (.slice pr g.roots.length er) (.slice (some ⟨nb,0,none⟩) g.nodes.length en) g fv/\wb.rowIs gb 2 5 (fun i=>(#[.int .i64 1,.int .i64 (-1),.int .i64 4,.int .i64 99,.int .i64 4611686018427387904]:Array Value)[i]?.getD undef)/\N<gb:=⟨_,_,rfl,rfl,KD.later (C5 _ _),I0 wd #[.int .i64 1,.int .i64 (-1),.int .i64 4,.int .i64 99,.int .i64 4611686018427387904] 2,KD.lt⟩
    refine Qn 5 89 (v:=.slice (some ⟨gb,0,none⟩) 5 5) rfl rfl (by rfl) (w':=wb) (by subst ewb;subst egb;go_simp;first|done|with_reducible rfl) (.inr ⟨Kb.box,(Kb.cells hi).1.2.2⟩) ?_
    simp only [zA,zB,zC]
    clear ewb egb
    refine Disk.zc 7 91 rfl rfl (f:=59) (args:=#[.pointer (some ⟨N,0,none⟩),.int .i64 5]) (w0:=wb) ?_
    refine (Kb.dw.less 5 (by omega) (by omega)).mono ?_
    rintro e wq ⟨⟨z,rfl,zl,zu⟩,gq,dq⟩
    have Kq:=Kb.step ⟨gq,dq⟩
    refine ⟨_,rfl,.inr ⟨Kq.box,(Kq.cells hi).1.2.2⟩,?_⟩
    simp only [zA,zB,zC]
    replace RB:=RB.of_block (gq.block _ RB.lt (fun e=>by have:=Option.some.inj e;omega))
    clear hs KD Kb gq dq
    obtain ⟨k,rfl⟩:=Int.eq_ofNat_of_zero_le zl
    obtain ⟨m,ck,hm⟩:∃ m:Int,wq.cell? ⟨gb,k,none⟩=some (.int .i64 m)/\g64 m:=by
     rcases (show k=0 ∨ k=1 ∨ k=2 ∨ k=3 ∨ k=4 from by omega) with rfl|rfl|rfl|rfl|rfl
     ·exact ⟨_,RB.cell (i:=0) (by omega),by first|(unfold g64;omega)|exact M8 _⟩
     ·exact ⟨_,RB.cell (i:=1) (by omega),by first|(unfold g64;omega)|exact M8 _⟩
     ·exact ⟨_,RB.cell (i:=2) (by omega),by first|(unfold g64;omega)|exact M8 _⟩
     ·exact ⟨_,RB.cell (i:=3) (by omega),by first|(unfold g64;omega)|exact M8 _⟩
     ·exact ⟨_,RB.cell (i:=4) (by omega),by first|(unfold g64;omega)|exact M8 _⟩
    have kl:(k:Int)<5:=by omega
    clear RB
    refine Disk.zr 8 92 (v:=.pointer (some ⟨gb,k,none⟩)) rfl rfl (w':=wq) (.inr ⟨Kq.box,(Kq.cells hi).1.2.2⟩) ?_
    simp only [zA,zB,zC]
    refine Disk.zr 9 93 (v:=.int .i64 m) rfl rfl (w':=wq) (.inr ⟨Kq.box,(Kq.cells hi).1.2.2⟩) ?_
    simp only [zA,zB,zC]
    obtain ⟨wc,gc,ewc,egc,Kc,cc⟩:∃ wc gc,wc=wq.alloc (.cells #[.int .i64 m] 2)/\gc=wq.heap.size/\GP w N cv cs H wc (.slice pr g.roots.length er) (.slice (some ⟨nb,0,none⟩) g.nodes.length en) g fv/\wc.cell? ⟨gc,0,none⟩=some (.int .i64 m):=⟨_,_,rfl,rfl,Kq.later (C5 _ _),by simp⟩
    refine Disk.z_run 10 94 (v:=.slice (some ⟨gc,0,none⟩) 1 1) rfl rfl (by kernel_rfl) (by rfl) (w':=wc) (by subst ewc;subst egc;go_simp;first|done|with_reducible rfl) (.inr ⟨Kc.box,(Kc.cells hi).1.2.2⟩) ?_
    simp only [zA,zB,zC]
    clear ewc egc Kq ck
    obtain ⟨fo,fle⟩:=Kc.fl hi
    obtain ⟨u,w5,run,O5,G5,-⟩:=Pc wc 24 (w.heap.size+1) (fv i) (g.nodes.getD i nd0).fl _ rfl fo (by omega) gc 1 m cc Kc.hB
    obtain ⟨pu,eu,rfl⟩:=H7 O5
    have K9:=Kc.field hi hm (by rw [show icells (g.nodes.getD i nd0).fl ++ [Value.int .i64 m]=icells ((g.nodes.getD i nd0).fl ++ [m]) from by simp [icells]];exact O5) G5
    obtain ⟨sp5,fz5⟩:=Kc.after hi G5
    have cz5:=sp5.2
    generalize (g.nodes.getD i nd0).fl.length+1=L at run K9
    refine Disk.z_run 11 95 rfl rfl (by kernel_rfl) (by rfl) (Pt _ _ rfl _ _ rfl rfl run) (.inr sp5) ?_
    simp only [zA,zB,zC]
    refine Disk.zr 12 96 (v:=.pointer (some ⟨nb,i * 3,none⟩)) rfl rfl (w':=w5) (.inr sp5) ?_
    simp only [zA,zB,zC]
    refine Disk.zr 13 97 (v:=.pointer (some ⟨nb,i * 3+2,none⟩)) rfl rfl (w':=w5) (.inr sp5) ?_
    simp only [zA,zB,zC]
    refine Disk.zk 14 (w':=w5.setCell ⟨nb,i * 3+2,none⟩ (.slice pu L eu)) rfl rfl (.inl rfl) ?_
    refine Disk.z_done (by kernel_rfl) ?_ _
    clear Kc run O5 G5 sp5 cz5 fz5 fo fle
    obtain ⟨fR,FR⟩:=K9.res
    have OKC:(#[.slice pr g.roots.length er,.slice (some ⟨nb,0,none⟩) g.nodes.length en,.int .i64 g.hash]:Array Value).all (·.oneCell')=true:=by simp [Value.oneCell']
    obtain ⟨c0,c1,c2⟩:=E4 K9.box
    have ED:=fun W' (q:World.grownBy _ W' _)=>K9.done q
    go_wp2_with ((with_reducible refine C9 _ ?_ (.tmp 2) (.tmp 119) 27 ?_ 27 w.heap.size 3 #[.slice pr g.roots.length er,.slice (some ⟨nb,0,none⟩) g.nodes.length en,.int .i64 g.hash] _ ?_ ?_ FR ?_ ?_ OKC ?_);rfl;rfl;rfl;rfl;rfl;kernel_rfl;intro w9 F9 G9)
    have r0:=F9.cell (i:=0) (by omega);have r1:=F9.cell (i:=1) (by omega);have r2:=F9.cell (i:=2) (by omega)
    exact bodyPost_ret (v:=.agg #[.slice pr g.roots.length er,.slice (some ⟨nb,0,none⟩) g.nodes.length en,.int .i64 g.hash]) (by simp [results,Tryz.results38,go_sem,r0,r1,r2]) rfl (ED _ G9)
   ·refine Pq 7 91 rfl rfl (by rfl) (f:=59) (args:=#[.pointer (some ⟨N,0,none⟩),.int .i64 5]) (w0:=wd) (by go_simp) ?_
    refine (KD.dw.less 5 (by omega) (by omega)).mono ?_
    rintro e wq ⟨⟨z,rfl,zl,zu⟩,gq,dq⟩
    have Kq:=KD.step ⟨gq,dq⟩
    refine ⟨_,rfl,.inr ⟨Kq.box,(Kq.cells hi).1.2.2⟩,?_⟩
    simp only [zA,zB,zC]
    clear hs KD gq dq
    obtain ⟨wb,gb,ewb,egb,Kb,RB,lgb⟩:∃ wb gb,wb=wq.alloc (.cells #[.int .i64 1,.int .i64 (-1),.int .i64 4,.int .i64 99,.int .i64 4611686018427387904] 2)/\gb=wq.heap.size/\GP w N cv cs H wb (.slice pr g.roots.length er) (.slice (some ⟨nb,0,none⟩) g.nodes.length en) g fv/\wb.rowIs gb 2 5 (fun i=>(#[.int .i64 1,.int .i64 (-1),.int .i64 4,.int .i64 99,.int .i64 4611686018427387904]:Array Value)[i]?.getD undef)/\N<gb:=⟨_,_,rfl,rfl,Kq.later (C5 _ _),I0 wq #[.int .i64 1,.int .i64 (-1),.int .i64 4,.int .i64 99,.int .i64 4611686018427387904] 2,Kq.lt⟩
    refine Disk.z_run 5 89 (v:=.slice (some ⟨gb,0,none⟩) 5 5) rfl rfl (by kernel_rfl) (by rfl) (w':=wb) (by subst ewb;subst egb;go_simp;first|done|with_reducible rfl) (.inr ⟨Kb.box,(Kb.cells hi).1.2.2⟩) ?_
    simp only [zA,zB,zC]
    clear ewb egb Kq
    obtain ⟨k,rfl⟩:=Int.eq_ofNat_of_zero_le zl
    obtain ⟨m,ck,hm⟩:∃ m:Int,wb.cell? ⟨gb,k,none⟩=some (.int .i64 m)/\g64 m:=by
     rcases (show k=0 ∨ k=1 ∨ k=2 ∨ k=3 ∨ k=4 from by omega) with rfl|rfl|rfl|rfl|rfl
     ·exact ⟨_,RB.cell (i:=0) (by omega),by first|(unfold g64;omega)|exact M8 _⟩
     ·exact ⟨_,RB.cell (i:=1) (by omega),by first|(unfold g64;omega)|exact M8 _⟩
     ·exact ⟨_,RB.cell (i:=2) (by omega),by first|(unfold g64;omega)|exact M8 _⟩
     ·exact ⟨_,RB.cell (i:=3) (by omega),by first|(unfold g64;omega)|exact M8 _⟩
     ·exact ⟨_,RB.cell (i:=4) (by omega),by first|(unfold g64;omega)|exact M8 _⟩
    have kl:(k:Int)<5:=by omega
    clear RB
    refine Disk.zr 8 92 (v:=.pointer (some ⟨gb,k,none⟩)) rfl rfl (w':=wb) (.inr ⟨Kb.box,(Kb.cells hi).1.2.2⟩) ?_
    simp only [zA,zB,zC]
    refine Disk.zr 9 93 (v:=.int .i64 m) rfl rfl (w':=wb) (.inr ⟨Kb.box,(Kb.cells hi).1.2.2⟩) ?_
    simp only [zA,zB,zC]
    obtain ⟨wc,gc,ewc,egc,Kc,cc⟩:∃ wc gc,wc=wb.alloc (.cells #[.int .i64 m] 2)/\gc=wb.heap.size/\GP w N cv cs H wc (.slice pr g.roots.length er) (.slice (some ⟨nb,0,none⟩) g.nodes.length en) g fv/\wc.cell? ⟨gc,0,none⟩=some (.int .i64 m):=⟨_,_,rfl,rfl,Kb.later (C5 _ _),by simp⟩
    refine Disk.z_run 10 94 (v:=.slice (some ⟨gc,0,none⟩) 1 1) rfl rfl (by kernel_rfl) (by rfl) (w':=wc) (by subst ewc;subst egc;go_simp;first|done|with_reducible rfl) (.inr ⟨Kc.box,(Kc.cells hi).1.2.2⟩) ?_
    simp only [zA,zB,zC]
    clear ewc egc Kb ck
    obtain ⟨fo,fle⟩:=Kc.fl hi
    obtain ⟨u,w5,run,O5,G5,-⟩:=Pc wc 24 (w.heap.size+1) (fv i) (g.nodes.getD i nd0).fl _ rfl fo (by omega) gc 1 m cc Kc.hB
    obtain ⟨pu,eu,rfl⟩:=H7 O5
    have K9:=Kc.field hi hm (by rw [show icells (g.nodes.getD i nd0).fl ++ [Value.int .i64 m]=icells ((g.nodes.getD i nd0).fl ++ [m]) from by simp [icells]];exact O5) G5
    obtain ⟨sp5,fz5⟩:=Kc.after hi G5
    have cz5:=sp5.2
    generalize (g.nodes.getD i nd0).fl.length+1=L at run K9
    refine Disk.z_run 11 95 rfl rfl (by kernel_rfl) (by rfl) (Pt _ _ rfl _ _ rfl rfl run) (.inr sp5) ?_
    simp only [zA,zB,zC]
    refine Disk.zr 12 96 (v:=.pointer (some ⟨nb,i * 3,none⟩)) rfl rfl (w':=w5) (.inr sp5) ?_
    simp only [zA,zB,zC]
    refine Disk.zr 13 97 (v:=.pointer (some ⟨nb,i * 3+2,none⟩)) rfl rfl (w':=w5) (.inr sp5) ?_
    simp only [zA,zB,zC]
    refine Disk.zk 14 (w':=w5.setCell ⟨nb,i * 3+2,none⟩ (.slice pu L eu)) rfl rfl (.inl rfl) ?_
    refine Disk.z_done (by kernel_rfl) ?_ _
    clear Kc run O5 G5 sp5 cz5 fz5 fo fle
    obtain ⟨fR,FR⟩:=K9.res
    have OKC:(#[.slice pr g.roots.length er,.slice (some ⟨nb,0,none⟩) g.nodes.length en,.int .i64 g.hash]:Array Value).all (·.oneCell')=true:=by simp [Value.oneCell']
    obtain ⟨c0,c1,c2⟩:=E4 K9.box
    have ED:=fun W' (q:World.grownBy _ W' _)=>K9.done q
    go_wp2_with ((with_reducible refine C9 _ ?_ (.tmp 2) (.tmp 119) 27 ?_ 27 w.heap.size 3 #[.slice pr g.roots.length er,.slice (some ⟨nb,0,none⟩) g.nodes.length en,.int .i64 g.hash] _ ?_ ?_ FR ?_ ?_ OKC ?_);rfl;rfl;rfl;rfl;rfl;kernel_rfl;intro w9 F9 G9)
    have r0:=F9.cell (i:=0) (by omega);have r1:=F9.cell (i:=1) (by omega);have r2:=F9.cell (i:=2) (by omega)
    exact bodyPost_ret (v:=.agg #[.slice pr g.roots.length er,.slice (some ⟨nb,0,none⟩) g.nodes.length en,.int .i64 g.hash]) (by simp [results,Tryz.results38,go_sem,r0,r1,r2]) rfl (ED _ G9)
  ·have hl0:¬ (0:Int)<(g.nodes.length:Int):=by omega
   obtain ⟨c0,c1,c2⟩:=E4 K2.box
   have K9:=K2.gf
   clear c0 c1 c2
   obtain ⟨fR,FR⟩:=K9.res
   have OKC:(#[.slice pr g.roots.length er,.slice pn g.nodes.length en,.int .i64 g.hash]:Array Value).all (·.oneCell')=true:=by simp [Value.oneCell']
   obtain ⟨c0,c1,c2⟩:=E4 K9.box
   have ED:=fun W' (q:World.grownBy _ W' _)=>K9.done q
   go_wp2_with ((with_reducible refine C9 _ ?_ (.tmp 2) (.tmp 119) 27 ?_ 27 w.heap.size 3 #[.slice pr g.roots.length er,.slice pn g.nodes.length en,.int .i64 g.hash] _ ?_ ?_ FR ?_ ?_ OKC ?_);rfl;rfl;rfl;rfl;rfl;kernel_rfl;intro w9 F9 G9)
   have r0:=F9.cell (i:=0) (by omega);have r1:=F9.cell (i:=1) (by omega);have r2:=F9.cell (i:=2) (by omega)
   exact bodyPost_ret (v:=.agg #[.slice pr g.roots.length er,.slice pn g.nodes.length en,.int .i64 g.hash]) (by simp [results,Tryz.results38,go_sem,r0,r1,r2]) rfl (ED _ G9)
 ·by_cases h1:1<g.nodes.length
  ·have hl1:(1:Int)<(g.nodes.length:Int):=by omega
   have hne:¬ g.nodes=[]:=fun e=>by rw [e] at h1;simp at h1
   obtain ⟨nb,rfl⟩:=K2.at (by omega)
   obtain ⟨p0,q0,hv0⟩:=H7 (K2.fl (i:=0) (by omega)).1
   obtain ⟨p1,q1,hv1⟩:=H7 (K2.fl h1).1
   generalize (g.nodes.getD 0 nd0).fl.length=f0 at hv0
   generalize (g.nodes.getD 1 nd0).fl.length=f1 at hv1
   obtain ⟨x0,hx0⟩:∃ x,x=(g.nodes.getD 0 nd0).cls:=⟨_,rfl⟩
   obtain ⟨y0,hy0⟩:∃ x,x=(g.nodes.getD 0 nd0).hash:=⟨_,rfl⟩
   obtain ⟨x1,hx1⟩:∃ x,x=(g.nodes.getD 1 nd0).cls:=⟨_,rfl⟩
   obtain ⟨y1,hy1⟩:∃ x,x=(g.nodes.getD 1 nd0).hash:=⟨_,rfl⟩
   replace hx0:Hid _:=hx0
   replace hy0:Hid _:=hy0
   replace hx1:Hid _:=hx1
   replace hy1:Hid _:=hy1
   replace hv0:Hid _:=hv0
   replace hv1:Hid _:=hv1
   have e0:w4.cell? ⟨nb,0,none⟩=some (.int .i64 x0):=by rw [hx0.out];exact (K2.cells (i:=0) (by omega)).1.1
   have e1:w4.cell? ⟨nb,1,none⟩=some (.int .i64 y0):=by rw [hy0.out];exact (K2.cells (i:=0) (by omega)).1.2.1
   have e2:w4.cell? ⟨nb,2,none⟩=some (.slice p0 f0 q0):=by rw [<- hv0.out];exact (K2.cells (i:=0) (by omega)).1.2.2
   have K3:=K2.later (C5 w4 (.cells #[.int .i64 x0,.int .i64 y0,.slice p0 f0 q0] 41))
   have RB0:=I0 w4 #[.int .i64 x0,.int .i64 y0,.slice p0 f0 q0] 41
   have nbb:w4.heap.size ≠ nb:=by have q:nb<w4.heap.size:=World.block_lt_of_cell? _ _ e0;omega
   obtain ⟨c0,c1,c2⟩:=E4 K2.box
   have KD:GP w N cv cs H (w4.alloc (.cells #[.int .i64 x0,.int .i64 y0,.slice p0 f0 q0] 41)).drew (.slice pr g.roots.length er) (.slice (some ⟨nb,0,none⟩) g.nodes.length en) g fv:=K3.step (Sx.refl K3.dw).drew
   have RB:(w4.alloc (.cells #[.int .i64 x0,.int .i64 y0,.slice p0 f0 q0] 41)).drew.rowIs w4.heap.size 41 3 _:=RB0
   clear K3 K2 RB0
   go_wp2_with fail
   clear c0 c1 c2 e0 e1 e2
   have n3:(w4.alloc (.cells #[.int .i64 x0,.int .i64 y0,.slice p0 f0 q0] 41)).drew.cell? ⟨nb,3,none⟩=some (.int .i64 x1):=by rw [hx1.out];exact (KD.cells h1).1.1
   have n4:(w4.alloc (.cells #[.int .i64 x0,.int .i64 y0,.slice p0 f0 q0] 41)).drew.cell? ⟨nb,4,none⟩=some (.int .i64 y1):=by rw [hy1.out];exact (KD.cells h1).1.2.1
   have n5:(w4.alloc (.cells #[.int .i64 x0,.int .i64 y0,.slice p0 f0 q0] 41)).drew.cell? ⟨nb,5,none⟩=some (.slice p1 f1 q1):=by rw [<- hv1.out];exact (KD.cells h1).1.2.2
   have fz:∀ j,(w4.alloc (.cells #[.int .i64 x0,.int .i64 y0,.slice p0 f0 q0] 41)).drew.frozen? ⟨nb,j,none⟩=false:=(KD.cells h1).2
   refine Disk.z_plain 7 (fun W'=>W'.rowIs H 27 3 (grF (.slice pr g.roots.length er) (.slice (some ⟨nb,0,none⟩) g.nodes.length en) g.hash)/\W'.cell? ⟨nb,3,none⟩=some (.int .i64 x1)/\W'.cell? ⟨nb,4,none⟩=some (.int .i64 y1)/\W'.cell? ⟨nb,5,none⟩=some (.slice p1 f1 q1)) hmx ⟨KD.box,n3,n4,n5⟩ (fun hs=>?_)
   generalize (w4.alloc (.cells #[.int .i64 x0,.int .i64 y0,.slice p0 f0 q0] 41)).drew=wd at *
   generalize w4.heap.size=b6 at *
   refine Disk.zt 0 108 (v:=.pointer (some ⟨H,1,none⟩)) rfl rfl hs (fun W' hSw=>(by
    obtain ⟨hbx,n3,n4,n5⟩:=hSw
    obtain ⟨s0,s1,s2⟩:=E4 hbx
    go_simp;first|done|with_reducible rfl|(intro hq;exact (hne hq).elim))) ?_
   simp only [zA,zB,zC]
   refine Disk.zt 1 109 (v:=.slice (some ⟨nb,0,none⟩) g.nodes.length en) rfl rfl hs (fun W' hSw=>(by
    obtain ⟨hbx,n3,n4,n5⟩:=hSw
    obtain ⟨s0,s1,s2⟩:=E4 hbx
    go_simp;first|done|with_reducible rfl|(intro hq;exact (hne hq).elim))) ?_
   simp only [zA,zB,zC]
   refine Disk.zt 2 110 (v:=.pointer (some ⟨H,1,none⟩)) rfl rfl hs (fun W' hSw=>(by
    obtain ⟨hbx,n3,n4,n5⟩:=hSw
    obtain ⟨s0,s1,s2⟩:=E4 hbx
    go_simp;first|done|with_reducible rfl|(intro hq;exact (hne hq).elim))) ?_
   simp only [zA,zB,zC]
   refine Disk.zt 3 111 (v:=.slice (some ⟨nb,0,none⟩) g.nodes.length en) rfl rfl hs (fun W' hSw=>(by
    obtain ⟨hbx,n3,n4,n5⟩:=hSw
    obtain ⟨s0,s1,s2⟩:=E4 hbx
    go_simp;first|done|with_reducible rfl|(intro hq;exact (hne hq).elim))) ?_
   simp only [zA,zB,zC]
   refine Disk.zt 4 112 (v:=.pointer (some ⟨nb,3,none⟩)) rfl rfl hs (fun W' hSw=>(by
    obtain ⟨hbx,n3,n4,n5⟩:=hSw
    obtain ⟨s0,s1,s2⟩:=E4 hbx
    go_simp;first|done|with_reducible rfl|(intro hq;exact (hne hq).elim))) ?_
   simp only [zA,zB,zC]
   refine Disk.zt 5 113 (v:=.agg #[.int .i64 x1,.int .i64 y1,.slice p1 f1 q1]) rfl rfl hs (fun W' hSw=>(by
    obtain ⟨hbx,n3,n4,n5⟩:=hSw
    obtain ⟨s0,s1,s2⟩:=E4 hbx
    go_simp;first|done|with_reducible rfl|(intro hq;exact (hne hq).elim))) ?_
   simp only [zA,zB,zC]
   refine Disk.zt 6 114 (v:=.pointer (some ⟨nb,0,none⟩)) rfl rfl hs (fun W' hSw=>(by
    obtain ⟨hbx,n3,n4,n5⟩:=hSw
    obtain ⟨s0,s1,s2⟩:=E4 hbx
    go_simp;first|done|with_reducible rfl|(intro hq;exact (hne hq).elim))) ?_
   simp only [zA,zB,zC]
   have m0:wd.cell? ⟨nb,0,none⟩=some (.int .i64 x0):=by rw [hx0.out];exact (KD.cells (i:=0) (by omega)).1.1
   have m1:wd.cell? ⟨nb,1,none⟩=some (.int .i64 y0):=by rw [hy0.out];exact (KD.cells (i:=0) (by omega)).1.2.1
   have m2:wd.cell? ⟨nb,2,none⟩=some (.slice p0 f0 q0):=by rw [<- hv0.out];exact (KD.cells (i:=0) (by omega)).1.2.2
   have K9:=KD.swap h1
   rw [hv0.out,hv1.out,← hx0.out,← hy0.out,← hx1.out,← hy1.out] at K9
   obtain ⟨bx1,RB1,M,q,RN1,hM⟩:=KD.swap1 (u0:=.int .i64 x1) (u1:=.int .i64 y1) (u2:=.slice p1 f1 q1) h1 RB nbb
   obtain ⟨W1,hW1⟩:∃ W1,W1=((wd.setCell ⟨nb,0,none⟩ (.int .i64 x1)).setCell ⟨nb,1,none⟩ (.int .i64 y1)).setCell ⟨nb,2,none⟩ (.slice p1 f1 q1):=⟨_,rfl⟩
   rw [<- hW1] at K9 bx1 RB1 RN1
   refine Disk.z_skip 7 (w':=W1) rfl rfl (by kernel_rfl) (by rfl) (by subst hW1;go_simp;first|done|with_reducible rfl) (.inl rfl) ?_
   refine Disk.z_done (by kernel_rfl) ?_ _
   clear hW1 KD RB hs n3 n4 n5 m0 m1 m2 fz
   obtain ⟨-,d1,-⟩:=E4 bx1
   have b0:W1.cell? ⟨b6,0,none⟩=some (.int .i64 x0):=RB1.cell (i:=0) (by omega)
   have b1:W1.cell? ⟨b6,1,none⟩=some (.int .i64 y0):=RB1.cell (i:=1) (by omega)
   have b2:W1.cell? ⟨b6,2,none⟩=some (.slice p0 f0 q0):=RB1.cell (i:=2) (by omega)
   have n3:=RN1.cell (i:=3) (by omega)
   have n4:=RN1.cell (i:=4) (by omega)
   have n5:=RN1.cell (i:=5) (by omega)
   have fz:=fun j=>RN1.frozen j
   obtain ⟨fR,FR⟩:=K9.res
   have OKC:(#[.slice pr g.roots.length er,.slice (some ⟨nb,0,none⟩) g.nodes.length en,.int .i64 g.hash]:Array Value).all (·.oneCell')=true:=by simp [Value.oneCell']
   obtain ⟨c0,c1,c2⟩:=E4 K9.box
   have ED:=fun W' (q:World.grownBy _ W' _)=>K9.done q
   go_wp2_with ((with_reducible refine C9 _ ?_ (.tmp 2) (.tmp 119) 27 ?_ 27 w.heap.size 3 #[.slice pr g.roots.length er,.slice (some ⟨nb,0,none⟩) g.nodes.length en,.int .i64 g.hash] _ ?_ ?_ FR ?_ ?_ OKC ?_);rfl;rfl;rfl;rfl;rfl;kernel_rfl;intro w9 F9 G9)
   have r0:=F9.cell (i:=0) (by omega);have r1:=F9.cell (i:=1) (by omega);have r2:=F9.cell (i:=2) (by omega)
   exact bodyPost_ret (v:=.agg #[.slice pr g.roots.length er,.slice (some ⟨nb,0,none⟩) g.nodes.length en,.int .i64 g.hash]) (by simp [results,Tryz.results38,go_sem,r0,r1,r2]) rfl (ED _ G9)
  ·have hl1:¬ (1:Int)<(g.nodes.length:Int):=by omega
   obtain ⟨c0,c1,c2⟩:=E4 K2.box
   have K9:=K2.gf
   clear c0 c1 c2
   obtain ⟨fR,FR⟩:=K9.res
   have OKC:(#[.slice pr g.roots.length er,.slice pn g.nodes.length en,.int .i64 g.hash]:Array Value).all (·.oneCell')=true:=by simp [Value.oneCell']
   obtain ⟨c0,c1,c2⟩:=E4 K9.box
   have ED:=fun W' (q:World.grownBy _ W' _)=>K9.done q
   go_wp2_with ((with_reducible refine C9 _ ?_ (.tmp 2) (.tmp 119) 27 ?_ 27 w.heap.size 3 #[.slice pr g.roots.length er,.slice pn g.nodes.length en,.int .i64 g.hash] _ ?_ ?_ FR ?_ ?_ OKC ?_);rfl;rfl;rfl;rfl;rfl;kernel_rfl;intro w9 F9 G9)
   have r0:=F9.cell (i:=0) (by omega);have r1:=F9.cell (i:=1) (by omega);have r2:=F9.cell (i:=2) (by omega)
   exact bodyPost_ret (v:=.agg #[.slice pr g.roots.length er,.slice pn g.nodes.length en,.int .i64 g.hash]) (by simp [results,Tryz.results38,go_sem,r0,r1,r2]) rfl (ED _ G9)
end Go.Proofs.YtboiknllmnfipaaGreatDoor
