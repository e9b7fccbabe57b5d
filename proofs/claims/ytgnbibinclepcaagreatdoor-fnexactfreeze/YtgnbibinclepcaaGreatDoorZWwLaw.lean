
import Derived.Test.YtgnbibinclepcaaGreatDoorZP26
set_option linter.unusedVariables false
set_option linter.unusedSimpArgs false
namespace Go.Proofs.YtgnbibinclepcaaGreatDoor
open Go.Conc Go.Proofs.YtgnbibinclepcaaGreatDoor.Lf Go.RowKit
def nthS:Code->Nat->Code
 | .seq a _,0=>a
 | .seq _ b,n+1=>nthS b n
 | c,_=>c
def dropS:Code->Nat->Code
 | c,0=>c
 | .seq _ b,n+1=>dropS b n
 | c,_=>c
def b4:Frame:=Conc.base 4
noncomputable def body4:Code:=Tryz.f4.body.getD .skip
set_option maxRecDepth 100000 in
theorem enter4 (x:Value):Frame.enter Tryz.prog 4 #[x] .normal=b4.at ⟨List.toArray (x::undef::undef::undef::undef::undef::undef::undef::undef::undef::undef::undef::undef::undef::undef::undef::undef::undef::undef::undef::undef::undef::undef::undef::undef::undef::undef::undef::undef::undef::undef::undef::undef::undef::undef::undef::undef::undef::undef::undef::undef::undef::undef::undef::undef::undef::undef::undef::undef::undef::undef::undef::undef::undef::undef::undef::undef::undef::undef::undef::undef::undef::undef::undef::undef::undef::undef::undef::undef::undef::undef::undef::undef::undef::undef::undef::undef::undef::undef::undef::undef::undef::undef::undef::undef::undef::undef::undef::undef::undef::undef::undef::undef::undef::undef::undef::[]),[]⟩ [.code body4]:=by
 rw [enter_at (c:=body4) _ Tryz.func4 rfl]
 have e:(#[x] ++ Array.replicate (96 - 1) undef:Array Value)=List.toArray (x::undef::undef::undef::undef::undef::undef::undef::undef::undef::undef::undef::undef::undef::undef::undef::undef::undef::undef::undef::undef::undef::undef::undef::undef::undef::undef::undef::undef::undef::undef::undef::undef::undef::undef::undef::undef::undef::undef::undef::undef::undef::undef::undef::undef::undef::undef::undef::undef::undef::undef::undef::undef::undef::undef::undef::undef::undef::undef::undef::undef::undef::undef::undef::undef::undef::undef::undef::undef::undef::undef::undef::undef::undef::undef::undef::undef::undef::undef::undef::undef::undef::undef::undef::undef::undef::undef::undef::undef::undef::undef::undef::undef::undef::undef::undef::[]):=by
  apply Array.ext'
  rw [Array.toList_append,Array.toList_replicate]
  rfl
 show (base 4).at { tmps:=#[x] ++ Array.replicate (96 - 1) undef,defers:=[] } _=_
 rw [e]
 rfl
theorem HN.re {B:Nat} {w:World} {v:Value} {h:Hp} (k:HN B w v h) (T:Nat->Question->Nat) (d:Nat):HN B (w.re T d) v h:=⟨k.ex⟩
theorem VN.re {B:Nat} {w:World} {v:Value} {m:Mp} (k:VN B w v m) (T:Nat->Question->Nat) (d:Nat):VN B (w.re T d) v m:=by
 obtain ⟨v1,v2,v3,vp,vo,e,hh,r⟩:=k.ex
 exact ⟨v1,v2,v3,vp,vo,e,hh.re T d,r⟩
def LPost (W:World) (e:Ending) (w:World):Prop:=e=.returned (.bool true)/\Below W.heap.size (W.re w.tape 0) w
theorem below_re {W w:World} {T:Nat->Question->Nat} {d:Nat} (h:Below W.heap.size (W.re T d) w):Below W.heap.size (W.re w.tape 0) w:=by
 have e:w.tape=T:=h.tape
 rw [e]
 exact ⟨h.os,e,h.output,h.size,h.block⟩
structure LA (W:World) (C:Array Value) (m:Mp) (ov:Value) (w:World):Prop where
 below:Below W.heap.size (W.re w.tape 0) w
 box:Bk w W.heap.size C 50
 own:w.ownsRow W.heap.size 9 1 ov (pgV m).length ((pgV m).map .string)
theorem LA.re {W:World} {C:Array Value} {m:Mp} {ov:Value} {w:World} (h:LA W C m ov w) (T:Nat->Question->Nat) (d:Nat):LA W C m ov (w.re T d):=⟨⟨h.below.os,rfl,h.below.output,h.below.size,h.below.block⟩,h.box,h.own⟩
structure LB (W:World) (C:Array Value) (m:Mp) (ov:Value) (X:Nat) (Cx:Array Value) (w:World):Prop extends LA W C m ov w where
 xbox:Bk w X Cx 29
 xge:W.heap.size<=X
 vn:∃ B,W.heap.size<B/\VN B w (.agg Cx) m
theorem LB.re {W:World} {C Cx:Array Value} {m:Mp} {ov:Value} {X:Nat} {w:World} (h:LB W C m ov X Cx w) (T:Nat->Question->Nat) (d:Nat):LB W C m ov X Cx (w.re T d):=⟨h.toLA.re T d,h.xbox,h.xge,h.vn.imp fun B q=>⟨q.1,q.2.re T d⟩⟩
structure LC (W:World) (C:Array Value) (m:Mp) (ov:Value) (X:Nat) (Cx:Array Value) (ow:Value) (w:World):Prop extends LB W C m ov X Cx w where
 own1:∃ B,W.heap.size<B/\w.ownsRow B 9 1 ow (pgV m).length ((pgV m).map .string)
 far:∀ k,ov.ownBlock=some k->ow.ownBlock ≠ some k
theorem LC.re {W:World} {C Cx:Array Value} {m:Mp} {ov ow:Value} {X:Nat} {w:World} (h:LC W C m ov X Cx ow w) (T:Nat->Question->Nat) (d:Nat):LC W C m ov X Cx ow (w.re T d):=⟨h.toLB.re T d,h.own1,h.far⟩
theorem re_after {W w w' : World} (h:Below W.heap.size (W.re w.tape 0) w) (k:Below w.heap.size (w.re w'.tape 0) w'):Below W.heap.size (W.re w'.tape 0) w' :=
 ⟨k.os.trans h.os,rfl,k.output.trans h.output,Nat.le_trans h.size k.size,fun i hi=>(k.block i (Nat.lt_of_lt_of_le hi h.size)).trans (h.block i hi)⟩
theorem LA.gtb {W:World} {C:Array Value} {m:Mp} {ov:Value} {w:World} (h:LA W C m ov w) (ht:GTb W):GTb w:=(show GTb (W.re w.tape 0) from ht).later h.below
theorem LB.freeze {W:World} {C Cx:Array Value} {m:Mp} {ov ow:Value} {X:Nat} {w w' : World} (h:LB W C m ov X Cx w) (hb:Below w.heap.size (w.re w'.tape 0) w') (ho:w'.ownsRow w.heap.size 9 1 ow (pgV m).length ((pgV m).map .string)):LC W C m ov X Cx ow w':=by
 obtain ⟨B,hB,hv⟩:=h.vn
 exact ⟨⟨⟨re_after h.below hb,(show Bk (w.re w'.tape 0) _ _ _ from h.box).later hb,own_later (show (w.re w'.tape 0).ownsRow _ _ _ _ _ _ from h.own) hb⟩,(show Bk (w.re w'.tape 0) _ _ _ from h.xbox).later hb,h.xge,B,hB,(hv.re w'.tape 0).later hb⟩,⟨_,h.box.lt,ho⟩,fun k h1 h2=>by
  have:=(h.own.lt k h1).2
  have:=(ho.lt k h2).1
  omega⟩
theorem ev8:∀ (t:Array Value) (w:World),(results Tryz.f8 t).events Tryz.prog w #[]=#[]:=fun t w=>by
 simp [results,Tryz.f8,go_sem]
theorem SR_only {w w' : World} {v:Value} {ss:List ByteArray} {R:Nat->Prop} (h:Disk.SR w v ss) (o:Only w w' R) (hne:ss.length=0 ∨ ∀ k,v.ownBlock=some k->¬ R k):Disk.SR w' v ss:=by
 obtain ⟨ao,cap,rfl,h⟩:=h
 refine ⟨ao,cap,rfl,fun i hi=>?_⟩
 obtain ⟨b,o2,rfl,hc⟩:=h i hi
 have hlt:b<w.heap.size:=World.block_lt_of_cell? w _ hc
 exact ⟨b,o2,rfl,(World.cell?_of_block (w:=w) (a:=⟨b,o2+i,none⟩) (o.block b hlt (hne.resolve_left (by omega) b rfl))).trans hc⟩
theorem OS_only {w w' : World} {v:Value} {n:Nat} {R:Nat->Prop} (h:Disk.OS w 9 1 v n) (o:Only w w' R) (hne:n=0 ∨ ∀ k,v.ownBlock=some k->¬ R k):Disk.OS w' 9 1 v n:=by
 obtain ⟨ao,cap,rfl,h⟩:=h
 refine ⟨ao,cap,rfl,?_⟩
 rcases h with h|⟨b,N,f,rfl,hN,hr⟩
 ·exact .inl h
 ·rcases hne with h|hne
  ·exact .inl h
  ·exact .inr ⟨b,N,f,rfl,hN,hr.of_block (o.block b hr.lt (hne b rfl))⟩
theorem VN.apart {B:Nat} {w:World} {v u:Value} {m:Mp} {n:Nat} (k:VN B w v m) (h:Disk.OS w 9 1 u n):n=0 ∨ ∀ b,u.ownBlock=some b->¬ VRow v m b:=by
 obtain ⟨v1,v2,v3,vp,vo,rfl,hh,⟨_,op⟩,⟨_,oo⟩,_⟩:=k.ex
 obtain ⟨⟨o1,o2,o3⟩,_⟩:=hh.irs
 by_cases hn:n=0
 ·exact .inl hn
 ·refine .inr fun b hb=>?_
  rintro ⟨u1,u2,u3,up,uo,e,hr⟩
  injection e with e
  simp only [Array.mk.injEq,List.cons.injEq,and_true,true_and] at e
  obtain ⟨rfl,rfl,rfl,rfl,rfl⟩:=e
  rcases hr with q|q|q|q|q
  ·exact (Disk.OS.apart (by decide) h o1).resolve_left hn (hb.trans q.symm)
  ·exact (Disk.OS.apart (by decide) h o2).resolve_left hn (hb.trans q.symm)
  ·exact (Disk.OS.apart (by decide) h o3).resolve_left hn (hb.trans q.symm)
  ·exact (Disk.OS.apart (by decide) h op).resolve_left hn (hb.trans q.symm)
  ·exact (Disk.OS.apart (by decide) h oo).resolve_left hn (hb.trans q.symm)
theorem kTot_pos (m:Mp):0<=kTot m:=by unfold kTot;omega
theorem SR_own_some {w:World} {v:Value} {ss:List ByteArray} (h:Disk.SR w v ss) (h0:ss.length ≠ 0):∃ k,v.ownBlock=some k:=by
 obtain ⟨ao,cap,rfl,h⟩:=h
 obtain ⟨b,o,rfl,_⟩:=h 0 (by omega)
 exact ⟨b,rfl⟩
section
variable (W : World) (v1 v2 v3 vp vo : Value) (m : Mp)
set_option maxRecDepth 100000 in
def Q1 (e:Exit) (a:Act) (w:World):Prop :=
 (e=.ret/\∃ t,a=⟨t,[]⟩/\t[2]?=some (.bool true)/\Below W.heap.size (W.re w.tape 0) w) ∨
 (e=.normal/\smM m 1048576/\∃ (X:Nat) (ov:Value) (a1 a2 a3 ap ao:Option Addr) (c1 c2 c3 cp co:Nat) (u3 u7 u8 u9 Bd Bf Bb Bc Ba Be Ce Cf Cg Ch Ci Cj Ck Cl Cm Cn Co Cq Bi Bj Bl Bn Bo Bp Bq Br Bs Bt Bu Bw Bz Ca Cb Cc Cr Cs Cu Cv Cw Cy Cz Da Db Dc De Df Dg Dh Di Dj Dk Dl Dm Dn Do Dp Dq Dr Ds Dt Du Dv Dw Dx Dy Dz Ea Eb Ec Ed Ee Ef Eg Eh Ei Ej Ek El Em En Eo Ep Er Es Et Eu:Value),a=⟨List.toArray (.agg #[v1,v2,.int .i64 m.h.old,.int .i64 m.h.eden,.int .i64 m.h.surv,.bool m.h.flip,.int .i64 m.h.hash,v3,vp,.int .i64 m.pc,vo,.int .i64 m.st]::.pointer (some ⟨W.heap.size,0,none⟩)::.bool false::u3::ov::.bool (rbV m)::.pointer (some ⟨X,0,none⟩)::u7::u8::u9::Bd::Bf::Bb::Bc::Ba::Be::Ce::Cf::Cg::Ch::Ci::Cj::Ck::Cl::Cm::Cn::Co::Cq::Bi::Bj::Bl::Bn::Bo::Bp::Bq::Br::Bs::Bt::Bu::Bw::Bz::Ca::Cb::Cc::Cr::Cs::Cu::Cv::Cw::Cy::Cz::Da::Db::Dc::De::Df::Dg::Dh::Di::Dj::Dk::Dl::Dm::Dn::Do::Dp::Dq::Dr::Ds::Dt::Du::Dv::Dw::Dx::Dy::Dz::Ea::Eb::Ec::Ed::Ee::Ef::Eg::Eh::Ei::Ej::Ek::El::Em::En::Eo::Ep::Er::Es::Et::Eu::[]),[]⟩/\LB W (vmV v1 v2 v3 vp vo m) m ov X #[.slice a1 m.h.words.length c1,.slice a2 m.h.roots.length c2,.int .i64 m.h.old,.int .i64 m.h.eden,.int .i64 m.h.surv,.bool m.h.flip,.int .i64 m.h.hash,.slice a3 m.h.kept.length c3,.slice ap m.prog.length cp,.int .i64 m.pc,.slice ao m.out.length co,.int .i64 m.st] w)
set_option maxRecDepth 100000 in
set_option maxHeartbeats 3200000 in
theorem law_a (i1:IR W v1 m.h.words) (i2:IR W v2 m.h.roots) (i3:IR W v3 m.h.kept) (ip:CR W vp m.prog) (io:IR W vo m.out) (hs:smM m 1000000000000000) (T:Nat->Question->Nat) :
  Chain Tryz.prog [nthS body4 0,nthS body4 1,nthS body4 2,nthS body4 3,nthS body4 4,nthS body4 5] (Q1 W v1 v2 v3 vp vo m) ⟨List.toArray (.agg #[v1,v2,.int .i64 m.h.old,.int .i64 m.h.eden,.int .i64 m.h.surv,.bool m.h.flip,.int .i64 m.h.hash,v3,vp,.int .i64 m.pc,vo,.int .i64 m.st]::undef::undef::undef::undef::undef::undef::undef::undef::undef::undef::undef::undef::undef::undef::undef::undef::undef::undef::undef::undef::undef::undef::undef::undef::undef::undef::undef::undef::undef::undef::undef::undef::undef::undef::undef::undef::undef::undef::undef::undef::undef::undef::undef::undef::undef::undef::undef::undef::undef::undef::undef::undef::undef::undef::undef::undef::undef::undef::undef::undef::undef::undef::undef::undef::undef::undef::undef::undef::undef::undef::undef::undef::undef::undef::undef::undef::undef::undef::undef::undef::undef::undef::undef::undef::undef::undef::undef::undef::undef::undef::undef::undef::undef::undef::undef::[]),[]⟩ (W.re T 0):=by
 have hfin:Hid (∀ w,Below (W.re T 0).heap.size (W.re T 0) w->Below W.heap.size (W.re w.tape 0) w):=fun w h=>below_re h
 have hsz:Hid ((W.re T 0).heap.size=W.heap.size):=(rfl:(W.re T 0).heap.size=W.heap.size)
 replace i1:IR (W.re T 0) v1 m.h.words:=i1
 replace i2:IR (W.re T 0) v2 m.h.roots:=i2
 replace i3:IR (W.re T 0) v3 m.h.kept:=i3
 replace ip:CR (W.re T 0) vp m.prog:=ip
 replace io:IR (W.re T 0) vo m.out:=io
 simp only [body4,Tryz.f4,Option.getD_some,nthS]
 generalize W.re T 0=w at *
 have hb0:=bel_one w (.cells #[v1,v2,.int .i64 m.h.old,.int .i64 m.h.eden,.int .i64 m.h.surv,.bool m.h.flip,.int .i64 m.h.hash,v3,vp,.int .i64 m.pc,vo,.int .i64 m.st] 50)
 have B0:Bk (w.alloc (.cells #[v1,v2,.int .i64 m.h.old,.int .i64 m.h.eden,.int .i64 m.h.surv,.bool m.h.flip,.int .i64 m.h.hash,v3,vp,.int .i64 m.pc,vo,.int .i64 m.st] 50)) w.heap.size #[v1,v2,.int .i64 m.h.old,.int .i64 m.h.eden,.int .i64 m.h.surv,.bool m.h.flip,.int .i64 m.h.hash,v3,vp,.int .i64 m.pc,vo,.int .i64 m.st] 50:=Bk.new w _ _
 have SZ:=szVm_any v1 v2 v3 vp vo m _ (i1.later hb0) (i2.later hb0) (i3.later hb0) (ip.later hb0) (io.later hb0) hs
 have x0:=B0.cell 0 (v1) rfl
 have x1:=B0.cell 1 (v2) rfl
 have x2:=B0.cell 2 (.int .i64 m.h.old) rfl
 have x3:=B0.cell 3 (.int .i64 m.h.eden) rfl
 have x4:=B0.cell 4 (.int .i64 m.h.surv) rfl
 have x5:=B0.cell 5 (.bool m.h.flip) rfl
 have x6:=B0.cell 6 (.int .i64 m.h.hash) rfl
 have x7:=B0.cell 7 (v3) rfl
 have x8:=B0.cell 8 (vp) rfl
 have x9:=B0.cell 9 (.int .i64 m.pc) rfl
 have Bg:=B0.cell 10 (vo) rfl
 have Bh:=B0.cell 11 (.int .i64 m.st) rfl
 refine chain_k fun K hK=>?_
 go_wp2
 refine chain_k fun K hK=>?_
 go_wp2
 refine chain_k fun K hK=>?_
 go_wp2_with fail
 refine SZ.mono ?_
 clear SZ x0 x1 x2 x3 x4 x5 x6 x7 x8 x9 Bg Bh
 rintro e w1 ⟨⟨y,rfl,hy⟩,hb1⟩
 have bw1:=bel_after hb0 hb1
 have B1:=B0.later hb1
 go_wp2
 by_cases hn:y<0
 ·clear hy
  refine chain_k fun K hK=>?_
  go_wp2
  exact .inl ⟨rfl,_,rfl,rfl,hfin.out _ bw1⟩
 have sm:=hy.out (by omega)
 have sm20:Hid (smM m 1048576):=sm
 have sm9:smM m 1000000000:=by unfold smM at *;omega
 have TV:=fun W (hb:Below w.heap.size w W)=>toVm_any v1 v2 v3 vp vo m W (i1.later hb) (i2.later hb) (i3.later hb) (ip.later hb) (io.later hb) (by unfold smM at *;omega)
 replace sm9:Hid (smM m 1000000000):=sm9
 clear hy sm hs i1 i2 i3 ip io B0
 refine chain_k fun K hK=>?_
 go_wp2
 have x0:=B1.cell 0 (v1) rfl
 have x1:=B1.cell 1 (v2) rfl
 have x2:=B1.cell 2 (.int .i64 m.h.old) rfl
 have x3:=B1.cell 3 (.int .i64 m.h.eden) rfl
 have x4:=B1.cell 4 (.int .i64 m.h.surv) rfl
 have x5:=B1.cell 5 (.bool m.h.flip) rfl
 have x6:=B1.cell 6 (.int .i64 m.h.hash) rfl
 have x7:=B1.cell 7 (v3) rfl
 have x8:=B1.cell 8 (vp) rfl
 have x9:=B1.cell 9 (.int .i64 m.pc) rfl
 have Bg:=B1.cell 10 (vo) rfl
 have Bh:=B1.cell 11 (.int .i64 m.st) rfl
 refine chain_k fun K hK=>?_
 go_wp2_with fail
 refine (TV _ bw1).mono ?_
 clear x0 x1 x2 x3 x4 x5 x6 x7 x8 x9 Bg Bh
 rintro e w2 ⟨⟨p,rfl,hp⟩,hb2⟩
 have bw2:=bel_after bw1 hb2
 have B2:=B1.later hb2
 have SP:=specFreeze_c p m w2 hp.vr sm9.out
 have sz2:w.heap.size<=w2.heap.size:=bw2.size
 clear hp
 go_wp2_with fail
 refine SP.mono ?_
 clear SP
 rintro e w3 ⟨⟨ov,rfl,ho⟩,hb3⟩
 replace ho:Hid (w3.ownsRow w.heap.size 9 1 ov (pgV m).length ((pgV m).map .string)):=⟨ho.1,ho.2.imp id fun ⟨g,cp,cur,e,hB,r⟩=>⟨g,cp,cur,e,by omega,r⟩⟩
 have bw3:=bel_after bw2 hb3
 have B3:=B2.later hb3
 go_wp2
 have x0:=B3.cell 0 (v1) rfl
 have x1:=B3.cell 1 (v2) rfl
 have x2:=B3.cell 2 (.int .i64 m.h.old) rfl
 have x3:=B3.cell 3 (.int .i64 m.h.eden) rfl
 have x4:=B3.cell 4 (.int .i64 m.h.surv) rfl
 have x5:=B3.cell 5 (.bool m.h.flip) rfl
 have x6:=B3.cell 6 (.int .i64 m.h.hash) rfl
 have x7:=B3.cell 7 (v3) rfl
 have x8:=B3.cell 8 (vp) rfl
 have x9:=B3.cell 9 (.int .i64 m.pc) rfl
 have Bg:=B3.cell 10 (vo) rfl
 have Bh:=B3.cell 11 (.int .i64 m.st) rfl
 refine chain_k fun K hK=>?_
 go_wp2_with fail
 refine (TV _ bw3).mono ?_
 clear x0 x1 x2 x3 x4 x5 x6 x7 x8 x9 Bg Bh B1 B2
 rintro e w4 ⟨⟨q,rfl,hq⟩,hb4⟩
 have bw4:=bel_after bw3 hb4
 have B4:=B3.later hb4
 have ho4:=own_later ho.out hb4
 obtain ⟨u1,u2,u3,up,uo,rfl,k1,k2,k3,kp,ko⟩:=hq.vr
 obtain ⟨a1,c1,rfl,-⟩:=IRs k1
 obtain ⟨a2,c2,rfl,-⟩:=IRs k2
 obtain ⟨a3,c3,rfl,-⟩:=IRs k3
 obtain ⟨ap,cp,rfl,-⟩:=CRs kp
 obtain ⟨ao,co,rfl,-⟩:=IRs ko
 have al:=bel_one w4 (.cells #[.slice a1 m.h.words.length c1,.slice a2 m.h.roots.length c2,.int .i64 m.h.old,.int .i64 m.h.eden,.int .i64 m.h.surv,.bool m.h.flip,.int .i64 m.h.hash,.slice a3 m.h.kept.length c3,.slice ap m.prog.length cp,.int .i64 m.pc,.slice ao m.out.length co,.int .i64 m.st] 29)
 have D5:Bk (w4.alloc (.cells #[.slice a1 m.h.words.length c1,.slice a2 m.h.roots.length c2,.int .i64 m.h.old,.int .i64 m.h.eden,.int .i64 m.h.surv,.bool m.h.flip,.int .i64 m.h.hash,.slice a3 m.h.kept.length c3,.slice ap m.prog.length cp,.int .i64 m.pc,.slice ao m.out.length co,.int .i64 m.st] 29)) w4.heap.size #[.slice a1 m.h.words.length c1,.slice a2 m.h.roots.length c2,.int .i64 m.h.old,.int .i64 m.h.eden,.int .i64 m.h.surv,.bool m.h.flip,.int .i64 m.h.hash,.slice a3 m.h.kept.length c3,.slice ap m.prog.length cp,.int .i64 m.pc,.slice ao m.out.length co,.int .i64 m.st] 29:=Bk.new w4 _ _
 have bw5:=bel_after bw4 al
 have B5:=B4.later al
 have ho5:=own_later ho4 al
 have hq5:=hq.later al
 have sz4:w.heap.size<=w4.heap.size:=bw4.size
 replace ho5:Hid _:=ho5
 have hlt3:=B3.lt
 clear k1 k2 k3 kp ko ho ho4 hq B3 B4
 go_wp2
 have hz:=hsz.out
 rw [hz]
 rw [hz] at B5 ho5 sz4
 obtain ⟨B6,hB6,hq6⟩:∃ B,W.heap.size<B/\VN B (w4.alloc (.cells #[.slice a1 m.h.words.length c1,.slice a2 m.h.roots.length c2,.int .i64 m.h.old,.int .i64 m.h.eden,.int .i64 m.h.surv,.bool m.h.flip,.int .i64 m.h.hash,.slice a3 m.h.kept.length c3,.slice ap m.prog.length cp,.int .i64 m.pc,.slice ao m.out.length co,.int .i64 m.st] 29)) (.agg #[.slice a1 m.h.words.length c1,.slice a2 m.h.roots.length c2,.int .i64 m.h.old,.int .i64 m.h.eden,.int .i64 m.h.surv,.bool m.h.flip,.int .i64 m.h.hash,.slice a3 m.h.kept.length c3,.slice ap m.prog.length cp,.int .i64 m.pc,.slice ao m.out.length co,.int .i64 m.st]) m:=⟨_,by rw [<- hz];exact hlt3,hq5⟩
 exact .inr ⟨rfl,sm20.out,w4.heap.size,ov,a1,a2,a3,ap,ao,c1,c2,c3,cp,co,_,_,_,_,_,_,_,_,_,_,_,_,_,_,_,_,_,_,_,_,_,_,_,_,_,_,_,_,_,_,_,_,_,_,_,_,_,_,_,_,_,_,_,_,_,_,_,_,_,_,_,_,_,_,_,_,_,_,_,_,_,_,_,_,_,_,_,_,_,_,_,_,_,_,_,_,_,_,_,_,_,_,_,_,_,_,_,_,_,_,rfl,⟨⟨hfin.out _ bw5,B5,ho5.out⟩,D5,sz4,B6,hB6,hq6⟩⟩
set_option maxRecDepth 100000 in
set_option maxHeartbeats 3200000 in
theorem law_b {S:Goroutine->World->Prop} (i1:True) (ht:GTb W) (sm:smM m 1000000000) (X:Nat) (ov:Value) (a1 a2 a3 ap ao:Option Addr) (c1 c2 c3 cp co:Nat) (u3 u7 u8 u9 Bd Bf Bb Bc Ba Be Ce Cf Cg Ch Ci Cj Ck Cl Cm Cn Co Cq Bi Bj Bl Bn Bo Bp Bq Br Bs Bt Bu Bw Bz Ca Cb Cc Cr Cs Cu Cv Cw Cy Cz Da Db Dc De Df Dg Dh Di Dj Dk Dl Dm Dn Do Dp Dq Dr Ds Dt Du Dv Dw Dx Dy Dz Ea Eb Ec Ed Ee Ef Eg Eh Ei Ej Ek El Em En Eo Ep Er Es Et Eu:Value) (w:World) (hL:LB W (vmV v1 v2 v3 vp vo m) m ov X #[.slice a1 m.h.words.length c1,.slice a2 m.h.roots.length c2,.int .i64 m.h.old,.int .i64 m.h.eden,.int .i64 m.h.surv,.bool m.h.flip,.int .i64 m.h.hash,.slice a3 m.h.kept.length c3,.slice ap m.prog.length cp,.int .i64 m.pc,.slice ao m.out.length co,.int .i64 m.st] w)
  (next:∀ (ow:Value) (z3 z9 z10 z11 z12 z13 z14 z15 z16 z17 z18 z19 z20 z21 z22 z23 z24 z25 z26 z27 z28 z29 z30 z31 z32 z33 z34 z35 z36 z37 z38 z39 z40 z41 z42 z43 z44 z45 z46 z47 z48 z49 z50 z51 z52 z53 z54 z55 z56 z57 z58 z59 z60 z61 z62 z63 z64 z65 z66 z67 z68 z69 z70 z71 z72 z73 z74 z75 z76 z77 z78 z79 z80 z81 z82 z83 z84 z85 z86 z87 z88 z89 z90 z91 z92 z93 z94 z95:Value) (w:World),LC W (vmV v1 v2 v3 vp vo m) m ov X #[.slice a1 m.h.words.length c1,.slice a2 m.h.roots.length c2,.int .i64 m.h.old,.int .i64 m.h.eden,.int .i64 m.h.surv,.bool m.h.flip,.int .i64 m.h.hash,.slice a3 m.h.kept.length c3,.slice ap m.prog.length cp,.int .i64 m.pc,.slice ao m.out.length co,.int .i64 m.st] ow w->Runs Tryz.prog S (G (b4.at ⟨List.toArray (.agg #[v1,v2,.int .i64 m.h.old,.int .i64 m.h.eden,.int .i64 m.h.surv,.bool m.h.flip,.int .i64 m.h.hash,v3,vp,.int .i64 m.pc,vo,.int .i64 m.st]::.pointer (some ⟨W.heap.size,0,none⟩)::.bool false::z3::ov::.bool (rbV m)::.pointer (some ⟨X,0,none⟩)::ow::.bool (rbV m)::z9::z10::z11::z12::z13::z14::z15::z16::z17::z18::z19::z20::z21::z22::z23::z24::z25::z26::z27::z28::z29::z30::z31::z32::z33::z34::z35::z36::z37::z38::z39::z40::z41::z42::z43::z44::z45::z46::z47::z48::z49::z50::z51::z52::z53::z54::z55::z56::z57::z58::z59::z60::z61::z62::z63::z64::z65::z66::z67::z68::z69::z70::z71::z72::z73::z74::z75::z76::z77::z78::z79::z80::z81::z82::z83::z84::z85::z86::z87::z88::z89::z90::z91::z92::z93::z94::z95::[]),[]⟩ [.code (dropS body4 7)]) []) w) :
  Runs Tryz.prog S (G (b4.at ⟨List.toArray (.agg #[v1,v2,.int .i64 m.h.old,.int .i64 m.h.eden,.int .i64 m.h.surv,.bool m.h.flip,.int .i64 m.h.hash,v3,vp,.int .i64 m.pc,vo,.int .i64 m.st]::.pointer (some ⟨W.heap.size,0,none⟩)::.bool false::u3::ov::.bool (rbV m)::.pointer (some ⟨X,0,none⟩)::u7::u8::u9::Bd::Bf::Bb::Bc::Ba::Be::Ce::Cf::Cg::Ch::Ci::Cj::Ck::Cl::Cm::Cn::Co::Cq::Bi::Bj::Bl::Bn::Bo::Bp::Bq::Br::Bs::Bt::Bu::Bw::Bz::Ca::Cb::Cc::Cr::Cs::Cu::Cv::Cw::Cy::Cz::Da::Db::Dc::De::Df::Dg::Dh::Di::Dj::Dk::Dl::Dm::Dn::Do::Dp::Dq::Dr::Ds::Dt::Du::Dv::Dw::Dx::Dy::Dz::Ea::Eb::Ec::Ed::Ee::Ef::Eg::Eh::Ei::Ej::Ek::El::Em::En::Eo::Ep::Er::Es::Et::Eu::[]),[]⟩ [.code (dropS body4 6)]) []) w:=by
 have hB:=blind_runs (P:=Tryz.prog) S
 have hf:Fit (G (b4.at ⟨List.toArray (.agg #[v1,v2,.int .i64 m.h.old,.int .i64 m.h.eden,.int .i64 m.h.surv,.bool m.h.flip,.int .i64 m.h.hash,v3,vp,.int .i64 m.pc,vo,.int .i64 m.st]::.pointer (some ⟨W.heap.size,0,none⟩)::.bool false::u3::ov::.bool (rbV m)::.pointer (some ⟨X,0,none⟩)::u7::u8::u9::Bd::Bf::Bb::Bc::Ba::Be::Ce::Cf::Cg::Ch::Ci::Cj::Ck::Cl::Cm::Cn::Co::Cq::Bi::Bj::Bl::Bn::Bo::Bp::Bq::Br::Bs::Bt::Bu::Bw::Bz::Ca::Cb::Cc::Cr::Cs::Cu::Cv::Cw::Cy::Cz::Da::Db::Dc::De::Df::Dg::Dh::Di::Dj::Dk::Dl::Dm::Dn::Do::Dp::Dq::Dr::Ds::Dt::Du::Dv::Dw::Dx::Dy::Dz::Ea::Eb::Ec::Ed::Ee::Ef::Eg::Eh::Ei::Ej::Ek::El::Em::En::Eo::Ep::Er::Es::Et::Eu::[]),[]⟩ [.code (dropS body4 6)]) []):=⟨fit_at (fun _ h=>absurd h (List.not_mem_nil)),fun _ h=>absurd h (List.not_mem_nil)⟩
 refine runs_tree ?_
 simp only [body4,Tryz.f4,Option.getD_some,dropS] at hf next ⊢
 refine tree_ctl Tryz.cf hB (run_G _ _) hf (fun _=>stepG_seq) (run_G _ _) (fun hfn=>?_)
 clear hf
 have hf:=hfn
 clear hfn
 refine tree_ctl Tryz.cf hB (run_G _ _) hf (fun _=>stepG_region) (run_G _ _) (fun hfn=>?_)
 simp only [List.size_toArray,List.length_cons,List.length_nil,Nat.reduceAdd,Nat.zero_add,List.range,List.range.loop] at hfn ⊢
 clear hf
 have hf:=hfn
 clear hfn
 refine tree_oper_k Tryz.cf hf rfl rfl (by decide) (fun T d K hK=>?_)
 replace hL:=hL.re T d
 generalize World.re w T d=w1 at hL hK ⊢
 have x0:=hL.xbox.cell 0 (.slice a1 m.h.words.length c1) rfl
 have x1:=hL.xbox.cell 1 (.slice a2 m.h.roots.length c2) rfl
 have x2:=hL.xbox.cell 2 (.int .i64 m.h.old) rfl
 have x3:=hL.xbox.cell 3 (.int .i64 m.h.eden) rfl
 have x4:=hL.xbox.cell 4 (.int .i64 m.h.surv) rfl
 have x5:=hL.xbox.cell 5 (.bool m.h.flip) rfl
 have x6:=hL.xbox.cell 6 (.int .i64 m.h.hash) rfl
 have x7:=hL.xbox.cell 7 (.slice a3 m.h.kept.length c3) rfl
 have x8:=hL.xbox.cell 8 (.slice ap m.prog.length cp) rfl
 have x9:=hL.xbox.cell 9 (.int .i64 m.pc) rfl
 have Bg:=hL.xbox.cell 10 (.slice ao m.out.length co) rfl
 have Bh:=hL.xbox.cell 11 (.int .i64 m.st) rfl
 clear hf
 go_simp
 refine hK _ _ (fun hf=>?_)
 clear hK K x0 x1 x2 x3 x4 x5 x6 x7 x8 x9 Bg Bh
 clear w
 refine .stop (runs_call Tryz.cf hf rfl rfl (by decide) (fun T d=>by go_simp) Tryz.func8 ev8 (implFreeze_runs (.agg #[.slice a1 m.h.words.length c1,.slice a2 m.h.roots.length c2,.int .i64 m.h.old,.int .i64 m.h.eden,.int .i64 m.h.surv,.bool m.h.flip,.int .i64 m.h.hash,.slice a3 m.h.kept.length c3,.slice ap m.prog.length cp,.int .i64 m.pc,.slice ao m.out.length co,.int .i64 m.st]) m w1 _ (fun f hm=>(List.mem_cons.1 hm).elim (fun e=>e ▸ hf.1) fun h=>absurd h List.not_mem_nil) (hL.vn.elim fun B q=>q.2.vr) sm (hL.toLA.gtb ht)) (fun e w h=>h.elim fun _ q=>⟨_,q.1⟩) fun v w2 hr hf=>?_)
 obtain ⟨ow,he,hb,ho⟩:=hr
 cases he
 replace hL:=hL.freeze hb ho
 clear hb ho w1
 refine runs_tree ?_
 refine tree_oper_k Tryz.cf hf rfl rfl (by decide) (fun T d K hK=>?_)
 replace hL:=hL.re T d
 generalize World.re w2 T d=w3 at hL hK ⊢
 clear hf
 go_simp
 refine hK _ _ (fun hf=>?_)
 clear hK K 
 clear w2
 refine tree_oper_k Tryz.cf hf rfl rfl (by decide) (fun T d K hK=>?_)
 replace hL:=hL.re T d
 generalize World.re w3 T d=w4 at hL hK ⊢
 clear hf
 go_simp
 refine hK _ _ (fun hf=>?_)
 clear hK K 
 clear w3
 refine tree_oper_k Tryz.cf hf rfl rfl (by decide) (fun T d K hK=>?_)
 replace hL:=hL.re T d
 generalize World.re w4 T d=w5 at hL hK ⊢
 clear hf
 go_simp
 refine hK _ _ (fun hf=>?_)
 clear hK K 
 clear w4
 refine tree_oper_k Tryz.cf hf rfl rfl (by decide) (fun T d K hK=>?_)
 replace hL:=hL.re T d
 generalize World.re w5 T d=w6 at hL hK ⊢
 clear hf
 go_simp
 refine hK _ _ (fun hf=>?_)
 clear hK K 
 clear w5
 refine tree_oper_k Tryz.cf hf rfl rfl (by decide) (fun T d K hK=>?_)
 replace hL:=hL.re T d
 generalize World.re w6 T d=w7 at hL hK ⊢
 clear hf
 go_simp
 refine hK _ _ (fun hf=>?_)
 clear hK K 
 clear w6
 refine tree_ctl Tryz.cf hB (run_G _ _) hf (fun _=>stepG_region_end) (run_G _ _) (fun hfn=>?_)
 clear hf
 have hf:=hfn
 clear hfn
 exact .stop (next ow _ _ _ _ _ _ _ _ _ _ _ _ _ _ _ _ _ _ _ _ _ _ _ _ _ _ _ _ _ _ _ _ _ _ _ _ _ _ _ _ _ _ _ _ _ _ _ _ _ _ _ _ _ _ _ _ _ _ _ _ _ _ _ _ _ _ _ _ _ _ _ _ _ _ _ _ _ _ _ _ _ _ _ _ _ _ _ _ _ hL)
set_option maxRecDepth 100000 in
def Q2 (ov ow:Value) (e:Exit) (a:Act) (w:World):Prop :=
 e=.normal/\∃ (y3 y6 y8 y9 y11 y12 y13 y14 y15 y16 y17 y18 y19 y20 y21 y22 y23 y24 y25 y26 y27 y28 y29 y30 y31 y32 y33 y34 y35 y36 y37 y38 y39 y40 y41 y42 y43 y44 y45 y46 y47 y48 y49 y50 y51 y52 y53 y54 y55 y56 y57 y58 y59 y60 y61 y62 y63 y64 y65 y66 y67 y68 y69 y70 y71 y72 y73 y74 y75 y76 y77 y78 y79 y80 y81 y82 y83 y84 y85 y86 y87 y88 y89 y90 y91 y92 y93 y94 y95:Value),a=⟨List.toArray (.agg #[v1,v2,.int .i64 m.h.old,.int .i64 m.h.eden,.int .i64 m.h.surv,.bool m.h.flip,.int .i64 m.h.hash,v3,vp,.int .i64 m.pc,vo,.int .i64 m.st]::.pointer (some ⟨W.heap.size,0,none⟩)::.bool false::y3::ov::.bool (rbV m)::y6::ow::y8::y9::.int .i64 (1+((pgV m).length:Int))::y11::y12::y13::y14::y15::y16::y17::y18::y19::y20::y21::y22::y23::y24::y25::y26::y27::y28::y29::y30::y31::y32::y33::y34::y35::y36::y37::y38::y39::y40::y41::y42::y43::y44::y45::y46::y47::y48::y49::y50::y51::y52::y53::y54::y55::y56::y57::y58::y59::y60::y61::y62::y63::y64::y65::y66::y67::y68::y69::y70::y71::y72::y73::y74::y75::y76::y77::y78::y79::y80::y81::y82::y83::y84::y85::y86::y87::y88::y89::y90::y91::y92::y93::y94::y95::[]),[]⟩/\Below W.heap.size (W.re w.tape 0) w/\Bk w W.heap.size (vmV v1 v2 v3 vp vo m) 50/\Disk.SR w ov (pgV m)/\Disk.SR w ow (Disk.marks 1 (pgV m).length)
set_option maxRecDepth 100000 in
set_option maxHeartbeats 3200000 in
theorem law_c (i1:IR W v1 m.h.words) (i2:IR W v2 m.h.roots) (i3:IR W v3 m.h.kept) (ip:CR W vp m.prog) (io:IR W vo m.out) (sm:smM m 1000000000) (sm7:smM m 10000000) (X:Nat) (ov:Value) (a1 a2 a3 ap ao:Option Addr) (c1 c2 c3 cp co:Nat) (ow:Value) (u3 u9 Bd Bf Bb Bc Ba Be Ce Cf Cg Ch Ci Cj Ck Cl Cm Cn Co Cq Bi Bj Bl Bn Bo Bp Bq Br Bs Bt Bu Bw Bz Ca Cb Cc Cr Cs Cu Cv Cw Cy Cz Da Db Dc De Df Dg Dh Di Dj Dk Dl Dm Dn Do Dp Dq Dr Ds Dt Du Dv Dw Dx Dy Dz Ea Eb Ec Ed Ee Ef Eg Eh Ei Ej Ek El Em En Eo Ep Er Es Et Eu:Value) (w:World) (hL:LC W (vmV v1 v2 v3 vp vo m) m ov X #[.slice a1 m.h.words.length c1,.slice a2 m.h.roots.length c2,.int .i64 m.h.old,.int .i64 m.h.eden,.int .i64 m.h.surv,.bool m.h.flip,.int .i64 m.h.hash,.slice a3 m.h.kept.length c3,.slice ap m.prog.length cp,.int .i64 m.pc,.slice ao m.out.length co,.int .i64 m.st] ow w) (T:Nat->Question->Nat) :
  Chain Tryz.prog [nthS body4 7,nthS body4 8,nthS body4 9,nthS body4 10,nthS body4 11,nthS body4 12,nthS body4 13,nthS body4 14,nthS body4 15,nthS body4 16,nthS body4 17] (Q2 W v1 v2 v3 vp vo m ov ow) ⟨List.toArray (.agg #[v1,v2,.int .i64 m.h.old,.int .i64 m.h.eden,.int .i64 m.h.surv,.bool m.h.flip,.int .i64 m.h.hash,v3,vp,.int .i64 m.pc,vo,.int .i64 m.st]::.pointer (some ⟨W.heap.size,0,none⟩)::.bool false::u3::ov::.bool (rbV m)::.pointer (some ⟨X,0,none⟩)::ow::.bool (rbV m)::u9::Bd::Bf::Bb::Bc::Ba::Be::Ce::Cf::Cg::Ch::Ci::Cj::Ck::Cl::Cm::Cn::Co::Cq::Bi::Bj::Bl::Bn::Bo::Bp::Bq::Br::Bs::Bt::Bu::Bw::Bz::Ca::Cb::Cc::Cr::Cs::Cu::Cv::Cw::Cy::Cz::Da::Db::Dc::De::Df::Dg::Dh::Di::Dj::Dk::Dl::Dm::Dn::Do::Dp::Dq::Dr::Ds::Dt::Du::Dv::Dw::Dx::Dy::Dz::Ea::Eb::Ec::Ed::Ee::Ef::Eg::Eh::Ei::Ej::Ek::El::Em::En::Eo::Ep::Er::Es::Et::Eu::[]),[]⟩ (w.re T 0):=by
 replace hL:=hL.re T 0
 simp only [body4,Tryz.f4,Option.getD_some,nthS]
 generalize w.re T 0=w at *
 have TV:=fun w' (hb:Below w.heap.size w w')=>toVm_any v1 v2 v3 vp vo m w' (((show IR (W.re w.tape 0) _ _ from i1).later hL.below).later hb) (((show IR (W.re w.tape 0) _ _ from i2).later hL.below).later hb) (((show IR (W.re w.tape 0) _ _ from i3).later hL.below).later hb) (((show CR (W.re w.tape 0) _ _ from ip).later hL.below).later hb) (((show IR (W.re w.tape 0) _ _ from io).later hL.below).later hb) sm7
 have hfin:Hid (∀ w',Below W.heap.size w w' -> Below W.heap.size (W.re w'.tape 0) w'):=(fun w' k=>⟨k.os.trans hL.below.os,rfl,k.output.trans hL.below.output,Nat.le_trans hL.below.size k.size,fun i hi=>(k.block i hi).trans (hL.below.block i hi)⟩:∀ w',Below W.heap.size w w' -> Below W.heap.size (W.re w'.tape 0) w')
 obtain ⟨⟨⟨hW,B1,ho⟩,D1,hXge,Bv,hBv,vn⟩,⟨B1w,hB1w,how⟩,hfar⟩:=hL
 have sW:W.heap.size<=w.heap.size:=hW.size
 have s1:=SR_own ho
 have s2:=SR_own how
 have o2:=OS_of_owns how
 have ap1:=vn.apart (OS_of_owns ho)
 have ap2:=vn.apart o2
 have nl:(pgV m).length<=30:=pgV_len m
 have rr:(rbV m != rbV m)=false:=by simp
 have far2:Hid ((pgV m).length=0 ∨ ov.ownBlock ≠ Disk.rowOf ow (pgV m).length):=(by
  by_cases hn:(pgV m).length=0
  ·exact .inl hn
  ·refine .inr fun e=>?_
   obtain ⟨k,hk⟩:=SR_own_some s1 hn
   unfold Disk.rowOf at e
   rw [if_neg hn,hk] at e
   exact hfar k hk e.symm:(pgV m).length=0 ∨ ov.ownBlock ≠ Disk.rowOf ow (pgV m).length)
 have rowg:=row_of_owns how
 have EQ:=fun w' (a:Disk.SR w' ow (pgV m)) (b:Disk.SR w' ov (pgV m))=>Disk.eqStringS_any ow ov (pgV m) (pgV m) w' a b (by omega) (by omega)
 rw [decide_eq_true rfl] at EQ
 clear hW ho how hfar i1 i2 i3 ip io
 refine chain_k fun K hK=>?_
 go_wp2_with fail
 refine (EQ w s2 s1).mono ?_
 rintro e w1 ⟨rfl,hb1⟩
 have bw1:=hb1
 have D2:=D1.later hb1
 have B2:=B1.later hb1
 replace B1:Bk w W.heap.size #[v1,v2,.int .i64 m.h.old,.int .i64 m.h.eden,.int .i64 m.h.surv,.bool m.h.flip,.int .i64 m.h.hash,v3,vp,.int .i64 m.pc,vo,.int .i64 m.st] 50:=B1
 replace B2:Bk w1 W.heap.size #[v1,v2,.int .i64 m.h.old,.int .i64 m.h.eden,.int .i64 m.h.surv,.bool m.h.flip,.int .i64 m.h.hash,v3,vp,.int .i64 m.pc,vo,.int .i64 m.st] 50:=B2
 go_wp2
 refine chain_k fun K hK=>?_
 go_wp2_with fail
 refine Disk.z_plain 99 (fun W'=>Bk W' W.heap.size #[v1,v2,.int .i64 m.h.old,.int .i64 m.h.eden,.int .i64 m.h.surv,.bool m.h.flip,.int .i64 m.h.hash,v3,vp,.int .i64 m.pc,vo,.int .i64 m.st] 50/\Bk W' X #[.slice a1 m.h.words.length c1,.slice a2 m.h.roots.length c2,.int .i64 m.h.old,.int .i64 m.h.eden,.int .i64 m.h.surv,.bool m.h.flip,.int .i64 m.h.hash,.slice a3 m.h.kept.length c3,.slice ap m.prog.length cp,.int .i64 m.pc,.slice ao m.out.length co,.int .i64 m.st] 29) (by kernel_rfl) ⟨B2.drew,D2.drew⟩ fun hz=>?_
 refine Disk.zt 0 41 (v:=.agg #[.slice a1 m.h.words.length c1,.slice a2 m.h.roots.length c2,.int .i64 m.h.old,.int .i64 m.h.eden,.int .i64 m.h.surv,.bool m.h.flip,.int .i64 m.h.hash,.slice a3 m.h.kept.length c3,.slice ap m.prog.length cp,.int .i64 m.pc,.slice ao m.out.length co,.int .i64 m.st]) rfl rfl hz (fun W' hSw=>(by
  have z0:=hSw.2.cell 0 (.slice a1 m.h.words.length c1) rfl
  have z1:=hSw.2.cell 1 (.slice a2 m.h.roots.length c2) rfl
  have z2:=hSw.2.cell 2 (.int .i64 m.h.old) rfl
  have z3:=hSw.2.cell 3 (.int .i64 m.h.eden) rfl
  have z4:=hSw.2.cell 4 (.int .i64 m.h.surv) rfl
  have z5:=hSw.2.cell 5 (.bool m.h.flip) rfl
  have z6:=hSw.2.cell 6 (.int .i64 m.h.hash) rfl
  have z7:=hSw.2.cell 7 (.slice a3 m.h.kept.length c3) rfl
  have z8:=hSw.2.cell 8 (.slice ap m.prog.length cp) rfl
  have z9:=hSw.2.cell 9 (.int .i64 m.pc) rfl
  have z10:=hSw.2.cell 10 (.slice ao m.out.length co) rfl
  have z11:=hSw.2.cell 11 (.int .i64 m.st) rfl
  clear hSw
  go_simp;first|done|with_reducible rfl)) ?_
 simp only [zA,zB,zC]
 refine Disk.zt 1 42 (v:=.agg #[v1,v2,.int .i64 m.h.old,.int .i64 m.h.eden,.int .i64 m.h.surv,.bool m.h.flip,.int .i64 m.h.hash,v3,vp,.int .i64 m.pc,vo,.int .i64 m.st]) rfl rfl hz (fun W' hSw=>(by
  have z0:=hSw.1.cell 0 (v1) rfl
  have z1:=hSw.1.cell 1 (v2) rfl
  have z2:=hSw.1.cell 2 (.int .i64 m.h.old) rfl
  have z3:=hSw.1.cell 3 (.int .i64 m.h.eden) rfl
  have z4:=hSw.1.cell 4 (.int .i64 m.h.surv) rfl
  have z5:=hSw.1.cell 5 (.bool m.h.flip) rfl
  have z6:=hSw.1.cell 6 (.int .i64 m.h.hash) rfl
  have z7:=hSw.1.cell 7 (v3) rfl
  have z8:=hSw.1.cell 8 (vp) rfl
  have z9:=hSw.1.cell 9 (.int .i64 m.pc) rfl
  have z10:=hSw.1.cell 10 (vo) rfl
  have z11:=hSw.1.cell 11 (.int .i64 m.st) rfl
  clear hSw
  go_simp;first|done|with_reducible rfl)) ?_
 simp only [zA,zB,zC]
 refine Disk.z_call 2 43 rfl rfl (by kernel_rfl) (by rfl) (f:=20) (args:=#[.agg #[v1,v2,.int .i64 m.h.old,.int .i64 m.h.eden,.int .i64 m.h.surv,.bool m.h.flip,.int .i64 m.h.hash,v3,vp,.int .i64 m.pc,vo,.int .i64 m.st]]) (w0:=w1.drew) (by go_simp;first|done|with_reducible rfl) ?_
 refine (TV _ (bel_after bw1 (Below.refl _ _).drew)).mono ?_
 rintro e w2 ⟨⟨s,rfl,hsv⟩,hb2⟩
 have b12:Below w1.heap.size w1 w2:=bel_after (Below.refl _ _).drew hb2
 refine ⟨_,rfl,.inr ⟨B2.later b12,D2.later b12⟩,?_⟩
 simp only [zA,zB,zC]
 refine Disk.z_call 3 44 rfl rfl (by kernel_rfl) (by rfl) (f:=22) (args:=#[.agg #[.slice a1 m.h.words.length c1,.slice a2 m.h.roots.length c2,.int .i64 m.h.old,.int .i64 m.h.eden,.int .i64 m.h.surv,.bool m.h.flip,.int .i64 m.h.hash,.slice a3 m.h.kept.length c3,.slice ap m.prog.length cp,.int .i64 m.pc,.slice ao m.out.length co,.int .i64 m.st],s]) (w0:=w2) (by go_simp;first|done|with_reducible rfl) ?_
 refine (eqVm_any _ _ m w2 ((vn.later (bel_after bw1 b12)).vr) hsv.vr sm).mono ?_
 rintro e w3 ⟨rfl,hb3⟩
 have b13:Below w1.heap.size w1 w3:=bel_after b12 hb3
 have hz3:Bk w3 W.heap.size #[v1,v2,.int .i64 m.h.old,.int .i64 m.h.eden,.int .i64 m.h.surv,.bool m.h.flip,.int .i64 m.h.hash,v3,vp,.int .i64 m.pc,vo,.int .i64 m.st] 50/\Bk w3 X #[.slice a1 m.h.words.length c1,.slice a2 m.h.roots.length c2,.int .i64 m.h.old,.int .i64 m.h.eden,.int .i64 m.h.surv,.bool m.h.flip,.int .i64 m.h.hash,.slice a3 m.h.kept.length c3,.slice ap m.prog.length cp,.int .i64 m.pc,.slice ao m.out.length co,.int .i64 m.st] 29:=⟨B2.later b13,D2.later b13⟩
 refine ⟨_,rfl,.inr hz3,?_⟩
 simp only [zA,zB,zC]
 refine Disk.zt 4 45 (v:=.bool false) rfl rfl hz3 (fun W' hSw=>(by
  clear hSw
  go_simp;first|done|with_reducible rfl)) ?_
 simp only [zA,zB,zC]
 refine Disk.z_done (by kernel_rfl) ?_ _
 have bw3:=bel_after bw1 b13
 obtain ⟨B3,D3⟩:=hz3
 clear hsv hb2 hb3 b12 b13 B2 D2 hb1
 go_wp2
 refine chain_k fun K hK=>?_
 go_wp2
 have x0:=D3.cell 0 (.slice a1 m.h.words.length c1) rfl
 have x1:=D3.cell 1 (.slice a2 m.h.roots.length c2) rfl
 have x2:=D3.cell 2 (.int .i64 m.h.old) rfl
 have x3:=D3.cell 3 (.int .i64 m.h.eden) rfl
 have x4:=D3.cell 4 (.int .i64 m.h.surv) rfl
 have x5:=D3.cell 5 (.bool m.h.flip) rfl
 have x6:=D3.cell 6 (.int .i64 m.h.hash) rfl
 have x7:=D3.cell 7 (.slice a3 m.h.kept.length c3) rfl
 have x8:=D3.cell 8 (.slice ap m.prog.length cp) rfl
 have x9:=D3.cell 9 (.int .i64 m.pc) rfl
 have Bg:=D3.cell 10 (.slice ao m.out.length co) rfl
 have Bh:=D3.cell 11 (.int .i64 m.st) rfl
 refine chain_k fun K hK=>?_
 go_wp2_with fail
 refine (markVm_any Bv _ m w3 (vn.later bw3) sm).mono ?_
 clear x0 x1 x2 x3 x4 x5 x6 x7 x8 x9 Bg Bh
 rintro e w4 ⟨rfl,on4,-⟩
 have B4:Bk w4 W.heap.size #[v1,v2,.int .i64 m.h.old,.int .i64 m.h.eden,.int .i64 m.h.surv,.bool m.h.flip,.int .i64 m.h.hash,v3,vp,.int .i64 m.pc,vo,.int .i64 m.st] 50:=(on4.block _ B3.lt (fun q=>by have:=((vn.later bw3).row q).1;omega)).trans B3
 have t1:=SR_only (s1.later bw3) on4 ap1
 have t2:=SR_only (s2.later bw3) on4 ap2
 have t3:=OS_only (o2.later bw3) on4 ap2
 have bw4:Below W.heap.size w w4:=(bw3.mono sW).trans (on4.below (Nat.le_trans sW bw3.size) fun k q=>Nat.le_of_lt (Nat.lt_of_lt_of_le hBv ((vn.later bw3).row q).1))
 have s4:W.heap.size<=w4.heap.size:=Nat.le_trans sW bw4.size
 have kp:=kTot_pos m
 generalize kTot m=kt at *
 clear TV B1 D1 D3 B3 vn on4 ap1 ap2 s1 s2 o2 bw3 bw1 hBv
 go_wp2
 refine chain_k fun K hK=>?_
 have kn:¬ kt<0:=by omega
 go_wp2_with fail
 refine (EQ w4 t2 t1).mono ?_
 rintro e w5 ⟨rfl,hb5⟩
 have B5:=B4.later hb5
 have p1:=t1.later hb5
 have p3:=t3.later hb5
 have bw5:=bw4.trans (hb5.mono s4)
 have s5:W.heap.size<=w5.heap.size:=Nat.le_trans s4 hb5.size
 clear t1 t2 t3 B4 hb5 bw4 s4 EQ
 go_wp2
 refine chain_k fun K hK=>?_
 go_wp2
 refine chain_k fun K hK=>?_
 go_wp2_with fail
 refine (Disk.markStringS_any ow (pgV m).length 1 w5 p3 (by omega) (by omega)).mono ?_
 rintro e w6 ⟨rfl,gr6,q2⟩
 have q1:=p1.grown gr6 (far2.out.imp List.length_eq_zero_iff.1 id)
 have B6:Bk w6 W.heap.size #[v1,v2,.int .i64 m.h.old,.int .i64 m.h.eden,.int .i64 m.h.surv,.bool m.h.flip,.int .i64 m.h.hash,v3,vp,.int .i64 m.pc,vo,.int .i64 m.st] 50:=B5.off gr6 (fun e=>by have:=rowg _ e.symm;omega)
 have bw6:Below W.heap.size w w6:=Below.grown bw5 gr6 s5 (fun k e=>by have:=rowg k e;omega)
 have s6:W.heap.size<=w6.heap.size:=Nat.le_trans s5 gr6.size
 have mg:¬ (1+((pgV m).length:Int))<0:=by omega
 have me:(1+((pgV m).length:Int) != 1+((pgV m).length:Int))=false:=by simp
 clear p1 p3 far2 gr6 bw5 s5 B5
 go_wp2
 refine chain_k fun K hK=>?_
 go_wp2
 refine chain_k fun K hK=>?_
 go_wp2_with fail
 refine (Disk.heldStringS_any ow (pgV m).length 1 w6 q2 (by omega) (by omega)).mono ?_
 rintro e w7 ⟨rfl,hb7⟩
 have B7:=B6.later hb7
 have r1:=q1.later hb7
 have r2:=q2.later hb7
 have bw7:=hfin.out _ (bw6.trans (hb7.mono s6))
 clear q1 q2 B6 hb7 bw6 s6
 go_wp2
 refine chain_k fun K hK=>?_
 go_wp2
 refine chain_k fun K hK=>?_
 go_wp2
 exact ⟨rfl,_,_,_,_,_,_,_,_,_,_,_,_,_,_,_,_,_,_,_,_,_,_,_,_,_,_,_,_,_,_,_,_,_,_,_,_,_,_,_,_,_,_,_,_,_,_,_,_,_,_,_,_,_,_,_,_,_,_,_,_,_,_,_,_,_,_,_,_,_,_,_,_,_,_,_,_,_,_,_,_,_,_,_,_,_,_,_,_,_,rfl,bw7,B7,r1,r2⟩
structure LE (W:World) (C:Array Value) (m:Mp) (ov ow oz:Value) (w:World):Prop where
 below:Below W.heap.size (W.re w.tape 0) w
 box:Bk w W.heap.size C 50
 s1:Disk.SR w ov (pgV m)
 s2:Disk.SR w ow (Disk.marks 1 (pgV m).length)
 s3:Disk.SR w oz (pgV m)
theorem LE.re {W:World} {C:Array Value} {m:Mp} {ov ow oz:Value} {w:World} (h:LE W C m ov ow oz w) (T:Nat->Question->Nat) (d:Nat):LE W C m ov ow oz (w.re T d):=⟨⟨h.below.os,rfl,h.below.output,h.below.size,h.below.block⟩,h.box,h.s1,h.s2,h.s3⟩
structure LD (W:World) (C:Array Value) (m:Mp) (ov ow:Value) (w:World):Prop where
 below:Below W.heap.size (W.re w.tape 0) w
 box:Bk w W.heap.size C 50
 s1:Disk.SR w ov (pgV m)
 s2:Disk.SR w ow (Disk.marks 1 (pgV m).length)
theorem LD.re {W:World} {C:Array Value} {m:Mp} {ov ow:Value} {w:World} (h:LD W C m ov ow w) (T:Nat->Question->Nat) (d:Nat):LD W C m ov ow (w.re T d):=⟨⟨h.below.os,rfl,h.below.output,h.below.size,h.below.block⟩,h.box,h.s1,h.s2⟩
theorem LD.later {W:World} {C:Array Value} {m:Mp} {ov ow:Value} {w w' : World} (h:LD W C m ov ow w) (hb:Below w.heap.size w w'):LD W C m ov ow w':=⟨re_after h.below ⟨hb.os,rfl,hb.output,hb.size,hb.block⟩,h.box.later hb,h.s1.later hb,h.s2.later hb⟩
theorem LD.freeze {W:World} {C:Array Value} {m:Mp} {ov ow oz:Value} {w w' : World} (h:LD W C m ov ow w) (hb:Below w.heap.size (w.re w'.tape 0) w') (ho:w'.ownsRow w.heap.size 9 1 oz (pgV m).length ((pgV m).map .string)):LE W C m ov ow oz w' :=
 ⟨re_after h.below hb,(show Bk (w.re w'.tape 0) _ _ _ from h.box).later hb,(show Disk.SR (w.re w'.tape 0) _ _ from h.s1).later hb,(show Disk.SR (w.re w'.tape 0) _ _ from h.s2).later hb,SR_own ho⟩
set_option maxRecDepth 100000 in
set_option maxHeartbeats 3200000 in
theorem law_d {S:Goroutine->World->Prop} (i1:IR W v1 m.h.words) (i2:IR W v2 m.h.roots) (i3:IR W v3 m.h.kept) (ip:CR W vp m.prog) (io:IR W vo m.out) (sm:smM m 1000000000) (sm7:smM m 10000000) (ht:GTb W) (ov ow:Value) (u3 u6 u8 u9 Bf Bb Bc Ba Be Ce Cf Cg Ch Ci Cj Ck Cl Cm Cn Co Cq Bi Bj Bl Bn Bo Bp Bq Br Bs Bt Bu Bw Bz Ca Cb Cc Cr Cs Cu Cv Cw Cy Cz Da Db Dc De Df Dg Dh Di Dj Dk Dl Dm Dn Do Dp Dq Dr Ds Dt Du Dv Dw Dx Dy Dz Ea Eb Ec Ed Ee Ef Eg Eh Ei Ej Ek El Em En Eo Ep Er Es Et Eu:Value) (w:World) (hL:LD W (vmV v1 v2 v3 vp vo m) m ov ow w)
  (next:∀ (oz:Value) (z3 z6 z8 z9 z11 z14 z15 z16 z17 z18 z19 z20 z21 z22 z23 z24 z25 z26 z27 z28 z29 z30 z31 z32 z33 z34 z35 z36 z37 z38 z39 z40 z41 z42 z43 z44 z45 z46 z47 z48 z49 z50 z51 z52 z53 z54 z55 z56 z57 z58 z59 z60 z61 z62 z63 z64 z65 z66 z67 z68 z69 z70 z71 z72 z73 z74 z75 z76 z77 z78 z79 z80 z81 z82 z83 z84 z85 z86 z87 z88 z89 z90 z91 z92 z93 z94 z95:Value) (w:World),LE W (vmV v1 v2 v3 vp vo m) m ov ow oz w->Runs Tryz.prog S (G (b4.at ⟨List.toArray (.agg #[v1,v2,.int .i64 m.h.old,.int .i64 m.h.eden,.int .i64 m.h.surv,.bool m.h.flip,.int .i64 m.h.hash,v3,vp,.int .i64 m.pc,vo,.int .i64 m.st]::.pointer (some ⟨W.heap.size,0,none⟩)::.bool false::z3::ov::.bool (rbV m)::z6::ow::z8::z9::.int .i64 (1+((pgV m).length:Int))::z11::oz::.bool (rbV m)::z14::z15::z16::z17::z18::z19::z20::z21::z22::z23::z24::z25::z26::z27::z28::z29::z30::z31::z32::z33::z34::z35::z36::z37::z38::z39::z40::z41::z42::z43::z44::z45::z46::z47::z48::z49::z50::z51::z52::z53::z54::z55::z56::z57::z58::z59::z60::z61::z62::z63::z64::z65::z66::z67::z68::z69::z70::z71::z72::z73::z74::z75::z76::z77::z78::z79::z80::z81::z82::z83::z84::z85::z86::z87::z88::z89::z90::z91::z92::z93::z94::z95::[]),[]⟩ [.code (dropS body4 19)]) []) w) :
  Runs Tryz.prog S (G (b4.at ⟨List.toArray (.agg #[v1,v2,.int .i64 m.h.old,.int .i64 m.h.eden,.int .i64 m.h.surv,.bool m.h.flip,.int .i64 m.h.hash,v3,vp,.int .i64 m.pc,vo,.int .i64 m.st]::.pointer (some ⟨W.heap.size,0,none⟩)::.bool false::u3::ov::.bool (rbV m)::u6::ow::u8::u9::.int .i64 (1+((pgV m).length:Int))::Bf::Bb::Bc::Ba::Be::Ce::Cf::Cg::Ch::Ci::Cj::Ck::Cl::Cm::Cn::Co::Cq::Bi::Bj::Bl::Bn::Bo::Bp::Bq::Br::Bs::Bt::Bu::Bw::Bz::Ca::Cb::Cc::Cr::Cs::Cu::Cv::Cw::Cy::Cz::Da::Db::Dc::De::Df::Dg::Dh::Di::Dj::Dk::Dl::Dm::Dn::Do::Dp::Dq::Dr::Ds::Dt::Du::Dv::Dw::Dx::Dy::Dz::Ea::Eb::Ec::Ed::Ee::Ef::Eg::Eh::Ei::Ej::Ek::El::Em::En::Eo::Ep::Er::Es::Et::Eu::[]),[]⟩ [.code (dropS body4 18)]) []) w:=by
 have hB:=blind_runs (P:=Tryz.prog) S
 have hf:Fit (G (b4.at ⟨List.toArray (.agg #[v1,v2,.int .i64 m.h.old,.int .i64 m.h.eden,.int .i64 m.h.surv,.bool m.h.flip,.int .i64 m.h.hash,v3,vp,.int .i64 m.pc,vo,.int .i64 m.st]::.pointer (some ⟨W.heap.size,0,none⟩)::.bool false::u3::ov::.bool (rbV m)::u6::ow::u8::u9::.int .i64 (1+((pgV m).length:Int))::Bf::Bb::Bc::Ba::Be::Ce::Cf::Cg::Ch::Ci::Cj::Ck::Cl::Cm::Cn::Co::Cq::Bi::Bj::Bl::Bn::Bo::Bp::Bq::Br::Bs::Bt::Bu::Bw::Bz::Ca::Cb::Cc::Cr::Cs::Cu::Cv::Cw::Cy::Cz::Da::Db::Dc::De::Df::Dg::Dh::Di::Dj::Dk::Dl::Dm::Dn::Do::Dp::Dq::Dr::Ds::Dt::Du::Dv::Dw::Dx::Dy::Dz::Ea::Eb::Ec::Ed::Ee::Ef::Eg::Eh::Ei::Ej::Ek::El::Em::En::Eo::Ep::Er::Es::Et::Eu::[]),[]⟩ [.code (dropS body4 18)]) []):=⟨fit_at (fun _ h=>absurd h (List.not_mem_nil)),fun _ h=>absurd h (List.not_mem_nil)⟩
 refine runs_tree ?_
 simp only [body4,Tryz.f4,Option.getD_some,dropS] at hf next ⊢
 refine tree_ctl Tryz.cf hB (run_G _ _) hf (fun _=>stepG_seq) (run_G _ _) (fun hfn=>?_)
 clear hf
 have hf:=hfn
 clear hfn
 refine tree_ctl Tryz.cf hB (run_G _ _) hf (fun _=>stepG_region) (run_G _ _) (fun hfn=>?_)
 simp only [List.size_toArray,List.length_cons,List.length_nil,Nat.reduceAdd,Nat.zero_add,List.range,List.range.loop] at hfn ⊢
 clear hf
 have hf:=hfn
 clear hfn
 refine tree_oper_k Tryz.cf hf rfl rfl (by decide) (fun T d K hK=>?_)
 replace hL:=hL.re T d
 generalize World.re w T d=w1 at hL hK ⊢
 have x0:=hL.box.cell 0 (v1) rfl
 have x1:=hL.box.cell 1 (v2) rfl
 have x2:=hL.box.cell 2 (.int .i64 m.h.old) rfl
 have x3:=hL.box.cell 3 (.int .i64 m.h.eden) rfl
 have x4:=hL.box.cell 4 (.int .i64 m.h.surv) rfl
 have x5:=hL.box.cell 5 (.bool m.h.flip) rfl
 have x6:=hL.box.cell 6 (.int .i64 m.h.hash) rfl
 have x7:=hL.box.cell 7 (v3) rfl
 have x8:=hL.box.cell 8 (vp) rfl
 have x9:=hL.box.cell 9 (.int .i64 m.pc) rfl
 have Bg:=hL.box.cell 10 (vo) rfl
 have Bh:=hL.box.cell 11 (.int .i64 m.st) rfl
 clear hf
 go_simp
 refine hK _ _ (fun hf=>?_)
 clear hK K x0 x1 x2 x3 x4 x5 x6 x7 x8 x9 Bg Bh
 clear w
 have TVm:∀ T,Calls Tryz.prog 20 #[.agg #[v1,v2,.int .i64 m.h.old,.int .i64 m.h.eden,.int .i64 m.h.surv,.bool m.h.flip,.int .i64 m.h.hash,v3,vp,.int .i64 m.pc,vo,.int .i64 m.st]] (w1.re T 0) fun e w'=>(∃ v,e=.returned v/\VN (w1.re T 0).heap.size w' v m)/\Below (w1.re T 0).heap.size (w1.re T 0) w':=fun T=>by
  have b:=(hL.re T 0).below
  exact toVm_any v1 v2 v3 vp vo m _ ((show IR (W.re (w1.re T 0).tape 0) _ _ from i1).later b) ((show IR (W.re (w1.re T 0).tape 0) _ _ from i2).later b) ((show IR (W.re (w1.re T 0).tape 0) _ _ from i3).later b) ((show CR (W.re (w1.re T 0).tape 0) _ _ from ip).later b) ((show IR (W.re (w1.re T 0).tape 0) _ _ from io).later b) sm7
 refine tree_call_k Tryz.cf hB (fun w0 e w'=>(∃ v,e=.returned v/\VN w0.heap.size w' v m)/\Below w0.heap.size w0 w') hf rfl rfl (by decide) (fun T d=>by go_simp) (fun T=>TVm T) (fun _ _ _ h=>h.1.imp fun _ q=>q.1) fun T v w2 hr hfn=>?_
 clear TVm
 clear hf
 have hf:=hfn
 clear hfn
 obtain ⟨⟨q,he,hq⟩,hb⟩:=hr
 cases he
 replace hL:=(hL.re T 0).later hb
 replace hq:=hq.vr
 clear hb w1
 refine .stop (runs_call Tryz.cf hf rfl rfl (by decide) (fun T d=>by go_simp) Tryz.func8 ev8 (implFreeze_runs v m w2 _ (fun f hm=>(List.mem_cons.1 hm).elim (fun e=>e ▸ hf.1) fun h=>absurd h List.not_mem_nil) hq sm ((show GTb (W.re w2.tape 0) from ht).later hL.below)) (fun e w h=>h.elim fun _ q=>⟨_,q.1⟩) fun v w3 hr hf=>?_)
 obtain ⟨oz,he,hb,ho⟩:=hr
 cases he
 have hM:=hL.freeze hb ho
 clear hb ho hL hq w2
 refine runs_tree ?_
 refine tree_oper_k Tryz.cf hf rfl rfl (by decide) (fun T d K hK=>?_)
 replace hM:=hM.re T d
 generalize World.re w3 T d=w4 at hM hK ⊢
 clear hf
 go_simp
 refine hK _ _ (fun hf=>?_)
 clear hK K 
 clear w3
 refine tree_oper_k Tryz.cf hf rfl rfl (by decide) (fun T d K hK=>?_)
 replace hM:=hM.re T d
 generalize World.re w4 T d=w5 at hM hK ⊢
 clear hf
 go_simp
 refine hK _ _ (fun hf=>?_)
 clear hK K 
 clear w4
 refine tree_oper_k Tryz.cf hf rfl rfl (by decide) (fun T d K hK=>?_)
 replace hM:=hM.re T d
 generalize World.re w5 T d=w6 at hM hK ⊢
 clear hf
 go_simp
 refine hK _ _ (fun hf=>?_)
 clear hK K 
 clear w5
 refine tree_oper_k Tryz.cf hf rfl rfl (by decide) (fun T d K hK=>?_)
 replace hM:=hM.re T d
 generalize World.re w6 T d=w7 at hM hK ⊢
 clear hf
 go_simp
 refine hK _ _ (fun hf=>?_)
 clear hK K 
 clear w6
 refine tree_oper_k Tryz.cf hf rfl rfl (by decide) (fun T d K hK=>?_)
 replace hM:=hM.re T d
 generalize World.re w7 T d=w8 at hM hK ⊢
 clear hf
 go_simp
 refine hK _ _ (fun hf=>?_)
 clear hK K 
 clear w7
 refine tree_ctl Tryz.cf hB (run_G _ _) hf (fun _=>stepG_region_end) (run_G _ _) (fun hfn=>?_)
 clear hf
 have hf:=hfn
 clear hfn
 exact .stop (next oz _ _ _ _ _ _ _ _ _ _ _ _ _ _ _ _ _ _ _ _ _ _ _ _ _ _ _ _ _ _ _ _ _ _ _ _ _ _ _ _ _ _ _ _ _ _ _ _ _ _ _ _ _ _ _ _ _ _ _ _ _ _ _ _ _ _ _ _ _ _ _ _ _ _ _ _ _ _ _ _ _ _ _ _ _ _ _ _ hM)
def Q3 (e:Exit) (a:Act) (w:World):Prop:=e=.normal/\∃ t,a=⟨t,[]⟩/\t[2]?=some (.bool true)/\Below W.heap.size (W.re w.tape 0) w
set_option maxRecDepth 100000 in
set_option maxHeartbeats 3200000 in
theorem law_e (ov ow oz:Value) (u3 u6 u8 u9 Bf Ba Be Ce Cf Cg Ch Ci Cj Ck Cl Cm Cn Co Cq Bi Bj Bl Bn Bo Bp Bq Br Bs Bt Bu Bw Bz Ca Cb Cc Cr Cs Cu Cv Cw Cy Cz Da Db Dc De Df Dg Dh Di Dj Dk Dl Dm Dn Do Dp Dq Dr Ds Dt Du Dv Dw Dx Dy Dz Ea Eb Ec Ed Ee Ef Eg Eh Ei Ej Ek El Em En Eo Ep Er Es Et Eu:Value) (w:World) (hL:LE W (vmV v1 v2 v3 vp vo m) m ov ow oz w) (T:Nat->Question->Nat) :
  Chain Tryz.prog [nthS body4 19,nthS body4 20,nthS body4 21,nthS body4 22,nthS body4 23,nthS body4 24] (Q3 W) ⟨List.toArray (.agg #[v1,v2,.int .i64 m.h.old,.int .i64 m.h.eden,.int .i64 m.h.surv,.bool m.h.flip,.int .i64 m.h.hash,v3,vp,.int .i64 m.pc,vo,.int .i64 m.st]::.pointer (some ⟨W.heap.size,0,none⟩)::.bool false::u3::ov::.bool (rbV m)::u6::ow::u8::u9::.int .i64 (1+((pgV m).length:Int))::Bf::oz::.bool (rbV m)::Ba::Be::Ce::Cf::Cg::Ch::Ci::Cj::Ck::Cl::Cm::Cn::Co::Cq::Bi::Bj::Bl::Bn::Bo::Bp::Bq::Br::Bs::Bt::Bu::Bw::Bz::Ca::Cb::Cc::Cr::Cs::Cu::Cv::Cw::Cy::Cz::Da::Db::Dc::De::Df::Dg::Dh::Di::Dj::Dk::Dl::Dm::Dn::Do::Dp::Dq::Dr::Ds::Dt::Du::Dv::Dw::Dx::Dy::Dz::Ea::Eb::Ec::Ed::Ee::Ef::Eg::Eh::Ei::Ej::Ek::El::Em::En::Eo::Ep::Er::Es::Et::Eu::[]),[]⟩ (w.re T 0):=by
 replace hL:=hL.re T 0
 simp only [body4,Tryz.f4,Option.getD_some,nthS]
 generalize w.re T 0=w at *
 obtain ⟨hW,B1,s1,s2,s3⟩:=hL
 have hfin:Hid (∀ w',Below w.heap.size w w' -> Below W.heap.size (W.re w'.tape 0) w'):=(fun w' k=>re_after hW ⟨k.os,rfl,k.output,k.size,k.block⟩:∀ w',Below w.heap.size w w' -> Below W.heap.size (W.re w'.tape 0) w')
 have nl:(pgV m).length<=30:=pgV_len m
 have rr:(rbV m != rbV m)=false:=by simp
 have mg:¬ (1+((pgV m).length:Int))<0:=by omega
 have me:(1+((pgV m).length:Int) != 1+((pgV m).length:Int))=false:=by simp
 have EQ:=Disk.eqStringS_any oz ov (pgV m) (pgV m) w s3 s1 (by omega) (by omega)
 rw [decide_eq_true rfl] at EQ
 clear hW B1 s1 s3
 refine chain_k fun K hK=>?_
 go_wp2_with fail
 refine EQ.mono ?_
 rintro e w1 ⟨rfl,hb1⟩
 have q2:=s2.later hb1
 go_wp2
 refine chain_k fun K hK=>?_
 go_wp2
 refine chain_k fun K hK=>?_
 go_wp2_with fail
 refine (Disk.heldStringS_any ow (pgV m).length 1 w1 q2 (by omega) (by omega)).mono ?_
 rintro e w2 ⟨rfl,hb2⟩
 have bw:=hfin.out _ (bel_after hb1 hb2)
 go_wp2
 refine chain_k fun K hK=>?_
 go_wp2
 refine chain_k fun K hK=>?_
 go_wp2
 refine chain_k fun K hK=>?_
 go_wp2
 exact ⟨rfl,_,rfl,rfl,bw⟩
end
end Go.Proofs.YtgnbibinclepcaaGreatDoor
