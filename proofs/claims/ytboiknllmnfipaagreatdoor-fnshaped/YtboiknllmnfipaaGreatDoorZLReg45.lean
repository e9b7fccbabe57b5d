import Derived.Test.YtboiknllmnfipaaGreatDoorZU16
namespace Go.Proofs.YtboiknllmnfipaaGreatDoor
open Go.RowKit
noncomputable def Jnq:Code:=((Tryz.f57.body.bind (Sq 45)).getD .skip)
set_option maxRecDepth 1000000 in
set_option maxHeartbeats 6400000 in
theorem Jmw {w wr:World} {N:Nat} {cv:Value} {cs:List UInt8} {H gQ:Nat} {t:Hp} {p1 p2 p3:Option Addr} {e1 e2 e3:Nat} {x:Int} (hx:N8 x) (hr0:0<t.roots.length) (hN:N<w.heap.size) (D:LD w N cv cs H gQ wr t p1 p2 p3 e1 e2 e3) {Q:Exit->Act->World->Prop} (u1 u2 u4 u5 u6 u7 u8 Lb Jt Lc Ju Jv Mc Ld Le Jw Jx Jy Jz Kd Ke Lf Lg Hz Ia Ib Ic Jc Jd Je Id Ie Ig Ih Jf Jg Jh Ji Jj Jk Jl Jm Jn Jo Jp Jq Jr Js Ii Ij Ik Il Im Io Ip Iq Ir It Iu Iv Iw Ix Iy Iz Ja Jb Nq Kf Kg Kh Ki Lh Li Lj Lk Ll Lm Ln Lo Lp Lq Kj Kk Km Kn Ko Kp Kr Ks Kt Ku Kv Kw Kx Ky Kz La Ct Cu Cv Cw Cx Cy Cz Di Dj Dk Dl Dm Dn Do Dp Dq Da Db Dc Dd De Df Dg Dh Ec Ed Ee Ef Eg Eh Ei Ej Ek El Em En Eo Ep Eq Er Es Et Eu Ev Ew Ex Ey Ez Fa Fb Fc Fd Fr Fs Ft Fu Fv Fw Fx Fy Fz Ga Gb Fe Ff Ba Bb Bc Bd Be Bf Bg Bh Bi Bj Bk Bl Bm Bn Bo Bp Bq Br Bs Bt Bu Bv Bw Bz Ca Ck Cl Cm Cn Co Cp Cq Cr Cs Cb Cc Cd Ce Cf Cg Ch Ci Cj:Value)
  (hQ:∀ (SB:Nat) (t' : Hp) (q1 q2 q3:Option Addr) (f1 f2 f3:Nat) (b:Bool) (w9:World) (Fg Fh Fi Fj Fk Fl Fm Fn Fo Fp Fq:Value),LD w N cv cs H gQ w9 t p1 p2 p3 e1 e2 e3->XB w w9 SB t' q1 q2 q3 f1 f2 f3->Hid (b=true->t'.words.length=3200)->Q .normal ⟨List.toArray (.pointer (some ⟨N,0,none⟩)::u1::u2::.pointer (some ⟨H,0,none⟩)::u4::u5::u6::u7::u8::.int .i64 x::Lb::Jt::Lc::Ju::Jv::Mc::Ld::Le::Jw::Jx::Jy::Jz::Kd::Ke::.pointer (some ⟨SB,0,none⟩)::.bool b::Hz::Ia::Ib::Ic::Jc::Jd::Je::Id::Ie::Ig::Ih::Jf::Jg::Jh::Ji::Jj::Jk::Jl::Jm::Jn::Jo::Jp::Jq::Jr::Js::Ii::Ij::Ik::Il::Im::Io::Ip::Iq::Ir::It::Iu::Iv::Iw::Ix::Iy::Iz::Ja::Jb::Nq::Kf::Kg::Kh::Ki::Lh::Li::Lj::Lk::Ll::Lm::Ln::Lo::Lp::Lq::Kj::Kk::Km::Kn::Ko::Kp::Kr::Ks::Kt::Ku::Kv::Kw::Kx::Ky::Kz::La::Ct::Cu::Cv::Cw::Cx::Cy::Cz::Di::Dj::Dk::Dl::Dm::Dn::Do::Dp::Dq::Da::Db::Dc::Dd::De::Df::Dg::Dh::Ec::Ed::Ee::Ef::Eg::Eh::Ei::Ej::Ek::El::Em::En::Eo::Ep::Eq::Er::Es::Et::Eu::Ev::Ew::Ex::Ey::Ez::Fa::Fb::Fc::Fd::Fg::Fh::Fi::Fj::Fk::Fl::Fm::Fn::Fo::Fp::Fq::Fe::Ff::Ba::Bb::Bc::Bd::Be::Bf::Bg::Bh::Bi::Bj::Bk::Bl::Bm::Bn::Bo::Bp::Bq::Br::Bs::Bt::Bu::Bv::Bw::Bz::Ca::Ck::Cl::Cm::Cn::Co::Cp::Cq::Cr::Cs::Cb::Cc::Cd::Ce::Cf::Cg::Ch::Ci::Cj::[]),[]⟩ w9) :
  Code.wp Tryz.prog Jnq Q ⟨List.toArray (.pointer (some ⟨N,0,none⟩)::u1::u2::.pointer (some ⟨H,0,none⟩)::u4::u5::u6::u7::u8::.int .i64 x::Lb::Jt::Lc::Ju::Jv::Mc::Ld::Le::Jw::Jx::Jy::Jz::Kd::Ke::Lf::Lg::Hz::Ia::Ib::Ic::Jc::Jd::Je::Id::Ie::Ig::Ih::Jf::Jg::Jh::Ji::Jj::Jk::Jl::Jm::Jn::Jo::Jp::Jq::Jr::Js::Ii::Ij::Ik::Il::Im::Io::Ip::Iq::Ir::It::Iu::Iv::Iw::Ix::Iy::Iz::Ja::Jb::Nq::Kf::Kg::Kh::Ki::Lh::Li::Lj::Lk::Ll::Lm::Ln::Lo::Lp::Lq::Kj::Kk::Km::Kn::Ko::Kp::Kr::Ks::Kt::Ku::Kv::Kw::Kx::Ky::Kz::La::Ct::Cu::Cv::Cw::Cx::Cy::Cz::Di::Dj::Dk::Dl::Dm::Dn::Do::Dp::Dq::Da::Db::Dc::Dd::De::Df::Dg::Dh::Ec::Ed::Ee::Ef::Eg::Eh::Ei::Ej::Ek::El::Em::En::Eo::Ep::Eq::Er::Es::Et::Eu::Ev::Ew::Ex::Ey::Ez::Fa::Fb::Fc::Fd::Fr::Fs::Ft::Fu::Fv::Fw::Fx::Fy::Fz::Ga::Gb::Fe::Ff::Ba::Bb::Bc::Bd::Be::Bf::Bg::Bh::Bi::Bj::Bk::Bl::Bm::Bn::Bo::Bp::Bq::Br::Bs::Bt::Bu::Bv::Bw::Bz::Ca::Ck::Cl::Cm::Cn::Co::Cp::Cq::Cr::Cs::Cb::Cc::Cd::Ce::Cf::Cg::Ch::Ci::Cj::[]),[]⟩ wr:=by
 conv=>arg 2;whnf
 have hmx:Tryz.prog.follows .mixedOrders=true:=by kernel_rfl
 have hNr:N<wr.heap.size:=Nat.lt_of_lt_of_le hN D.gr.size
 have hs0:Sx wr N cv cs wr.drew:=(Sx.refl D.dw).drew
 have tr20:=D.sm.2.1
 refine Disk.z_plain 99 (fun W'=>Sx wr N cv cs W') hmx hs0 (fun hs=>?_)
 clear hs0
 generalize wr.drew=wd at hs ⊢
 refine Disk.zt 0 153 (v:=.agg #[.slice p1 t.words.length e1,.slice p2 t.roots.length e2,.int .i64 t.old,.int .i64 t.eden,.int .i64 t.surv,.bool t.flip,.int .i64 t.hash,.slice p3 t.kept.length e3]) rfl rfl hs (fun W' hSw=>(by
  obtain ⟨s0,s1,s2,s3,s4,s5,s6,s7⟩:=C6 (D.step hSw).row
  go_simp;first|done|with_reducible rfl)) ?_
 simp only [zA,zB,zC]
 refine Disk.zt 1 154 (v:=.pointer (some ⟨N,0,none⟩)) rfl rfl hs (fun W' hSw=>(by
  obtain ⟨s0,s1,s2,s3,s4,s5,s6,s7⟩:=C6 (D.step hSw).row
  go_simp;first|done|with_reducible rfl)) ?_
 simp only [zA,zB,zC]
 refine Disk.zt 2 155 (v:=.pointer (some ⟨H,1,none⟩)) rfl rfl hs (fun W' hSw=>(by
  obtain ⟨s0,s1,s2,s3,s4,s5,s6,s7⟩:=C6 (D.step hSw).row
  go_simp;first|done|with_reducible rfl)) ?_
 simp only [zA,zB,zC]
 refine Disk.zt 3 156 (v:=.slice p2 t.roots.length e2) rfl rfl hs (fun W' hSw=>(by
  obtain ⟨s0,s1,s2,s3,s4,s5,s6,s7⟩:=C6 (D.step hSw).row
  go_simp;first|done|with_reducible rfl)) ?_
 simp only [zA,zB,zC]
 refine Disk.zt 4 157 (v:=.int .i64 (t.roots.length:Nat)) rfl rfl hs (fun W' hSw=>(by
  obtain ⟨s0,s1,s2,s3,s4,s5,s6,s7⟩:=C6 (D.step hSw).row
  go_simp;first|done|with_reducible rfl)) ?_
 simp only [zA,zB,zC]
 refine Disk.zt 6 159 (v:=.int .i64 x) rfl rfl hs (fun W' hSw=>(by
  obtain ⟨s0,s1,s2,s3,s4,s5,s6,s7⟩:=C6 (D.step hSw).row
  go_simp;first|done|with_reducible rfl)) ?_
 simp only [zA,zB,zC]
 refine Tv (i:=5) (j:=11) (by kernel_rfl) ?_ ?_
 ·refine Pq 5 158 rfl rfl (by rfl) (f:=59) (args:=#[.pointer (some ⟨N,0,none⟩),.int .i64 (t.roots.length:Nat)]) (w0:=wd) (by go_simp) ?_
  refine (hs.2.less (t.roots.length:Nat) (by omega) (by omega)).mono ?_
  rintro e v0 ⟨⟨za,rfl,zal,zau⟩,g0,d0⟩
  have hs0:=hs.trans ⟨g0,d0⟩
  refine ⟨_,rfl,.inr hs0,?_⟩
  simp only [zA,zB,zC]
  refine Tv (i:=7) (j:=11) (by kernel_rfl) ?_ ?_
  ·refine Pq 7 160 rfl rfl (by rfl) (f:=73) (args:=#[.agg #[.slice p1 t.words.length e1,.slice p2 t.roots.length e2,.int .i64 t.old,.int .i64 t.eden,.int .i64 t.surv,.bool t.flip,.int .i64 t.hash,.slice p3 t.kept.length e3],.int .i64 za,.int .i64 x]) (w0:=v0) (by go_simp) ?_
   refine (Jhw (D.step hs0).hm.hr D.sm za x hx).mono ?_
   rintro e v1 ⟨⟨u,b,t',rfl,HU,su,wl⟩,b1⟩
   replace wl:Hid (b=true->t'.words.length=3200):=wl
   obtain ⟨q1,q2,q3,f1,f2,f3,rfl⟩:=HU.shape
   have hs1:=hs0.more b1 hNr
   have HV0:=HU.low (C:=w.heap.size) (Nat.le_trans D.gr.size hs0.1.size)
   refine ⟨_,rfl,.inr hs1,?_⟩
   simp only [zA,zB,zC]
   refine Disk.zt 8 152 (v:=.tuple #[.agg #[.slice q1 t'.words.length f1,.slice q2 t'.roots.length f2,.int .i64 t'.old,.int .i64 t'.eden,.int .i64 t'.surv,.bool t'.flip,.int .i64 t'.hash,.slice q3 t'.kept.length f3],.bool b]) rfl rfl hs1 (fun W' hSw=>(by
    obtain ⟨s0,s1,s2,s3,s4,s5,s6,s7⟩:=C6 (D.step hSw).row
    go_simp;first|done|with_reducible rfl)) ?_
   simp only [zA,zB,zC]
   refine Disk.zt 9 161 (v:=.agg #[.slice q1 t'.words.length f1,.slice q2 t'.roots.length f2,.int .i64 t'.old,.int .i64 t'.eden,.int .i64 t'.surv,.bool t'.flip,.int .i64 t'.hash,.slice q3 t'.kept.length f3]) rfl rfl hs1 (fun W' hSw=>(by
    obtain ⟨s0,s1,s2,s3,s4,s5,s6,s7⟩:=C6 (D.step hSw).row
    go_simp;first|done|with_reducible rfl)) ?_
   simp only [zA,zB,zC]
   refine Disk.zt 10 162 (v:=.bool b) rfl rfl hs1 (fun W' hSw=>(by
    obtain ⟨s0,s1,s2,s3,s4,s5,s6,s7⟩:=C6 (D.step hSw).row
    go_simp;first|done|with_reducible rfl)) ?_
   simp only [zA,zB,zC]
   obtain ⟨wa,SB,ewa,eSB,hsA,⟨fA,FA⟩,lA,bA⟩:=Pi hs1 hNr
   refine Disk.z_run 11 24 (w':=wa) (v:=.pointer (some ⟨SB,0,none⟩)) rfl rfl (by kernel_rfl) (by rfl) (by subst ewa;subst eSB;go_simp) (.inr hsA) ?_
   simp only [zA,zB,zC]
   clear ewa eSB
   have HV1:=HV0.later bA
   have OKC:(#[.slice q1 t'.words.length f1,.slice q2 t'.roots.length f2,.int .i64 t'.old,.int .i64 t'.eden,.int .i64 t'.surv,.bool t'.flip,.int .i64 t'.hash,.slice q3 t'.kept.length f3]:Array Value).all (·.oneCell')=true:=by simp [Value.oneCell']
   have RUN:=J1 wa 30 30 SB 8 #[.slice q1 t'.words.length f1,.slice q2 t'.roots.length f2,.int .i64 t'.old,.int .i64 t'.eden,.int .i64 t'.surv,.bool t'.flip,.int .i64 t'.hash,.slice q3 t'.kept.length f3] fA FA rfl (by kernel_rfl) OKC
   have G9:=I6 wa SB #[.slice q1 t'.words.length f1,.slice q2 t'.roots.length f2,.int .i64 t'.old,.int .i64 t'.eden,.int .i64 t'.surv,.bool t'.flip,.int .i64 t'.hash,.slice q3 t'.kept.length f3]
   have F9:=Ol wa SB 30 8 #[.slice q1 t'.words.length f1,.slice q2 t'.roots.length f2,.int .i64 t'.old,.int .i64 t'.eden,.int .i64 t'.surv,.bool t'.flip,.int .i64 t'.hash,.slice q3 t'.kept.length f3] fA FA rfl
   have hs9:=Sx.put D.dw hsA G9 lA hNr
   have HV9:=HV1.box FA G9
   refine Disk.z_skip 12 (w':=wa.setRow SB #[.slice q1 t'.words.length f1,.slice q2 t'.roots.length f2,.int .i64 t'.old,.int .i64 t'.eden,.int .i64 t'.surv,.bool t'.flip,.int .i64 t'.hash,.slice q3 t'.kept.length f3]) rfl rfl (by kernel_rfl) (by rfl) (L7 _ _ rfl _ _ rfl rfl RUN) (.inr hs9) ?_
   generalize wa.setRow SB #[.slice q1 t'.words.length f1,.slice q2 t'.roots.length f2,.int .i64 t'.old,.int .i64 t'.eden,.int .i64 t'.surv,.bool t'.flip,.int .i64 t'.hash,.slice q3 t'.kept.length f3]=w9 at *
   refine Disk.z_run 13 25 (v:=.bool b) rfl rfl (by kernel_rfl) (by rfl) (w':=w9) (by go_simp) (.inr hs9) ?_
   simp only [zA,zB,zC]
   refine Disk.z_done (by kernel_rfl) ?_ _
   have DD:=D.step hs9
   have XX:XB w w9 SB t' q1 q2 q3 f1 f2 f3:=⟨F9,HV9,su,Nat.lt_of_lt_of_le (Nat.lt_of_lt_of_le D.hH (Nat.le_of_lt D.row.lt)) lA⟩
   clear RUN G9 F9 hs9 HV9 HV1 HV0 HU OKC
   exact hQ SB t' q1 q2 q3 f1 f2 f3 b _ _ _ _ _ _ _ _ _ _ _ _ DD XX wl
  ·obtain ⟨wa,SB,ewa,eSB,hsA,⟨fA,FA⟩,lA,bA⟩:=Pi hs0 hNr
   refine Qn 11 24 (w':=wa) (v:=.pointer (some ⟨SB,0,none⟩)) rfl rfl (by rfl) (by subst ewa;subst eSB;go_simp) (.inr hsA) ?_
   simp only [zA,zB,zC]
   clear ewa eSB
   refine Disk.zc 7 160 rfl rfl (f:=73) (args:=#[.agg #[.slice p1 t.words.length e1,.slice p2 t.roots.length e2,.int .i64 t.old,.int .i64 t.eden,.int .i64 t.surv,.bool t.flip,.int .i64 t.hash,.slice p3 t.kept.length e3],.int .i64 za,.int .i64 x]) (w0:=wa) ?_
   refine (Jhw (D.step hsA).hm.hr D.sm za x hx).mono ?_
   rintro e v1 ⟨⟨u,b,t',rfl,HU,su,wl⟩,b1⟩
   replace wl:Hid (b=true->t'.words.length=3200):=wl
   obtain ⟨q1,q2,q3,f1,f2,f3,rfl⟩:=HU.shape
   have hs1:=hsA.more b1 hNr
   have HV0:=HU.low (C:=w.heap.size) (Nat.le_trans D.gr.size hsA.1.size)
   have FA1:=FA.of_block (b1.block _ FA.lt)
   refine ⟨_,rfl,.inr hs1,?_⟩
   simp only [zA,zB,zC]
   refine Disk.zt 8 152 (v:=.tuple #[.agg #[.slice q1 t'.words.length f1,.slice q2 t'.roots.length f2,.int .i64 t'.old,.int .i64 t'.eden,.int .i64 t'.surv,.bool t'.flip,.int .i64 t'.hash,.slice q3 t'.kept.length f3],.bool b]) rfl rfl hs1 (fun W' hSw=>(by
    obtain ⟨s0,s1,s2,s3,s4,s5,s6,s7⟩:=C6 (D.step hSw).row
    go_simp;first|done|with_reducible rfl)) ?_
   simp only [zA,zB,zC]
   refine Disk.zt 9 161 (v:=.agg #[.slice q1 t'.words.length f1,.slice q2 t'.roots.length f2,.int .i64 t'.old,.int .i64 t'.eden,.int .i64 t'.surv,.bool t'.flip,.int .i64 t'.hash,.slice q3 t'.kept.length f3]) rfl rfl hs1 (fun W' hSw=>(by
    obtain ⟨s0,s1,s2,s3,s4,s5,s6,s7⟩:=C6 (D.step hSw).row
    go_simp;first|done|with_reducible rfl)) ?_
   simp only [zA,zB,zC]
   refine Disk.zt 10 162 (v:=.bool b) rfl rfl hs1 (fun W' hSw=>(by
    obtain ⟨s0,s1,s2,s3,s4,s5,s6,s7⟩:=C6 (D.step hSw).row
    go_simp;first|done|with_reducible rfl)) ?_
   simp only [zA,zB,zC]
   have HV1:=HV0
   have OKC:(#[.slice q1 t'.words.length f1,.slice q2 t'.roots.length f2,.int .i64 t'.old,.int .i64 t'.eden,.int .i64 t'.surv,.bool t'.flip,.int .i64 t'.hash,.slice q3 t'.kept.length f3]:Array Value).all (·.oneCell')=true:=by simp [Value.oneCell']
   have RUN:=J1 v1 30 30 SB 8 #[.slice q1 t'.words.length f1,.slice q2 t'.roots.length f2,.int .i64 t'.old,.int .i64 t'.eden,.int .i64 t'.surv,.bool t'.flip,.int .i64 t'.hash,.slice q3 t'.kept.length f3] fA FA1 rfl (by kernel_rfl) OKC
   have G9:=I6 v1 SB #[.slice q1 t'.words.length f1,.slice q2 t'.roots.length f2,.int .i64 t'.old,.int .i64 t'.eden,.int .i64 t'.surv,.bool t'.flip,.int .i64 t'.hash,.slice q3 t'.kept.length f3]
   have F9:=Ol v1 SB 30 8 #[.slice q1 t'.words.length f1,.slice q2 t'.roots.length f2,.int .i64 t'.old,.int .i64 t'.eden,.int .i64 t'.surv,.bool t'.flip,.int .i64 t'.hash,.slice q3 t'.kept.length f3] fA FA1 rfl
   have hs9:=Sx.put D.dw hs1 G9 lA hNr
   have HV9:=HV1.box FA1 G9
   refine Disk.z_skip 12 (w':=v1.setRow SB #[.slice q1 t'.words.length f1,.slice q2 t'.roots.length f2,.int .i64 t'.old,.int .i64 t'.eden,.int .i64 t'.surv,.bool t'.flip,.int .i64 t'.hash,.slice q3 t'.kept.length f3]) rfl rfl (by kernel_rfl) (by rfl) (L7 _ _ rfl _ _ rfl rfl RUN) (.inr hs9) ?_
   generalize v1.setRow SB #[.slice q1 t'.words.length f1,.slice q2 t'.roots.length f2,.int .i64 t'.old,.int .i64 t'.eden,.int .i64 t'.surv,.bool t'.flip,.int .i64 t'.hash,.slice q3 t'.kept.length f3]=w9 at *
   refine Disk.z_run 13 25 (v:=.bool b) rfl rfl (by kernel_rfl) (by rfl) (w':=w9) (by go_simp) (.inr hs9) ?_
   simp only [zA,zB,zC]
   refine Disk.z_done (by kernel_rfl) ?_ _
   have DD:=D.step hs9
   have XX:XB w w9 SB t' q1 q2 q3 f1 f2 f3:=⟨F9,HV9,su,Nat.lt_of_lt_of_le (Nat.lt_of_lt_of_le D.hH (Nat.le_of_lt D.row.lt)) lA⟩
   clear RUN G9 F9 hs9 HV9 HV1 HV0 HU OKC
   exact hQ SB t' q1 q2 q3 f1 f2 f3 b _ _ _ _ _ _ _ _ _ _ _ _ DD XX wl
 ·obtain ⟨wa,SB,ewa,eSB,hsA,⟨fA,FA⟩,lA,bA⟩:=Pi hs hNr
  refine Qn 11 24 (w':=wa) (v:=.pointer (some ⟨SB,0,none⟩)) rfl rfl (by rfl) (by subst ewa;subst eSB;go_simp) (.inr hsA) ?_
  simp only [zA,zB,zC]
  clear ewa eSB
  refine Disk.zc 5 158 rfl rfl (f:=59) (args:=#[.pointer (some ⟨N,0,none⟩),.int .i64 (t.roots.length:Nat)]) (w0:=wa) ?_
  refine (hsA.2.less (t.roots.length:Nat) (by omega) (by omega)).mono ?_
  rintro e v0 ⟨⟨za,rfl,zal,zau⟩,g0,d0⟩
  have hs0:=hsA.trans ⟨g0,d0⟩
  have FA0:=FA.of_block (g0.block _ FA.lt (fun e=>by injection e;omega))
  refine ⟨_,rfl,.inr hs0,?_⟩
  simp only [zA,zB,zC]
  refine Disk.zc 7 160 rfl rfl (f:=73) (args:=#[.agg #[.slice p1 t.words.length e1,.slice p2 t.roots.length e2,.int .i64 t.old,.int .i64 t.eden,.int .i64 t.surv,.bool t.flip,.int .i64 t.hash,.slice p3 t.kept.length e3],.int .i64 za,.int .i64 x]) (w0:=v0) ?_
  refine (Jhw (D.step hs0).hm.hr D.sm za x hx).mono ?_
  rintro e v1 ⟨⟨u,b,t',rfl,HU,su,wl⟩,b1⟩
  replace wl:Hid (b=true->t'.words.length=3200):=wl
  obtain ⟨q1,q2,q3,f1,f2,f3,rfl⟩:=HU.shape
  have hs1:=hs0.more b1 hNr
  have HV0:=HU.low (C:=w.heap.size) (Nat.le_trans D.gr.size hs0.1.size)
  have FA1:=FA0.of_block (b1.block _ FA0.lt)
  refine ⟨_,rfl,.inr hs1,?_⟩
  simp only [zA,zB,zC]
  refine Disk.zt 8 152 (v:=.tuple #[.agg #[.slice q1 t'.words.length f1,.slice q2 t'.roots.length f2,.int .i64 t'.old,.int .i64 t'.eden,.int .i64 t'.surv,.bool t'.flip,.int .i64 t'.hash,.slice q3 t'.kept.length f3],.bool b]) rfl rfl hs1 (fun W' hSw=>(by
   obtain ⟨s0,s1,s2,s3,s4,s5,s6,s7⟩:=C6 (D.step hSw).row
   go_simp;first|done|with_reducible rfl)) ?_
  simp only [zA,zB,zC]
  refine Disk.zt 9 161 (v:=.agg #[.slice q1 t'.words.length f1,.slice q2 t'.roots.length f2,.int .i64 t'.old,.int .i64 t'.eden,.int .i64 t'.surv,.bool t'.flip,.int .i64 t'.hash,.slice q3 t'.kept.length f3]) rfl rfl hs1 (fun W' hSw=>(by
   obtain ⟨s0,s1,s2,s3,s4,s5,s6,s7⟩:=C6 (D.step hSw).row
   go_simp;first|done|with_reducible rfl)) ?_
  simp only [zA,zB,zC]
  refine Disk.zt 10 162 (v:=.bool b) rfl rfl hs1 (fun W' hSw=>(by
   obtain ⟨s0,s1,s2,s3,s4,s5,s6,s7⟩:=C6 (D.step hSw).row
   go_simp;first|done|with_reducible rfl)) ?_
  simp only [zA,zB,zC]
  have HV1:=HV0
  have OKC:(#[.slice q1 t'.words.length f1,.slice q2 t'.roots.length f2,.int .i64 t'.old,.int .i64 t'.eden,.int .i64 t'.surv,.bool t'.flip,.int .i64 t'.hash,.slice q3 t'.kept.length f3]:Array Value).all (·.oneCell')=true:=by simp [Value.oneCell']
  have RUN:=J1 v1 30 30 SB 8 #[.slice q1 t'.words.length f1,.slice q2 t'.roots.length f2,.int .i64 t'.old,.int .i64 t'.eden,.int .i64 t'.surv,.bool t'.flip,.int .i64 t'.hash,.slice q3 t'.kept.length f3] fA FA1 rfl (by kernel_rfl) OKC
  have G9:=I6 v1 SB #[.slice q1 t'.words.length f1,.slice q2 t'.roots.length f2,.int .i64 t'.old,.int .i64 t'.eden,.int .i64 t'.surv,.bool t'.flip,.int .i64 t'.hash,.slice q3 t'.kept.length f3]
  have F9:=Ol v1 SB 30 8 #[.slice q1 t'.words.length f1,.slice q2 t'.roots.length f2,.int .i64 t'.old,.int .i64 t'.eden,.int .i64 t'.surv,.bool t'.flip,.int .i64 t'.hash,.slice q3 t'.kept.length f3] fA FA1 rfl
  have hs9:=Sx.put D.dw hs1 G9 lA hNr
  have HV9:=HV1.box FA1 G9
  refine Disk.z_skip 12 (w':=v1.setRow SB #[.slice q1 t'.words.length f1,.slice q2 t'.roots.length f2,.int .i64 t'.old,.int .i64 t'.eden,.int .i64 t'.surv,.bool t'.flip,.int .i64 t'.hash,.slice q3 t'.kept.length f3]) rfl rfl (by kernel_rfl) (by rfl) (L7 _ _ rfl _ _ rfl rfl RUN) (.inr hs9) ?_
  generalize v1.setRow SB #[.slice q1 t'.words.length f1,.slice q2 t'.roots.length f2,.int .i64 t'.old,.int .i64 t'.eden,.int .i64 t'.surv,.bool t'.flip,.int .i64 t'.hash,.slice q3 t'.kept.length f3]=w9 at *
  refine Disk.z_run 13 25 (v:=.bool b) rfl rfl (by kernel_rfl) (by rfl) (w':=w9) (by go_simp) (.inr hs9) ?_
  simp only [zA,zB,zC]
  refine Disk.z_done (by kernel_rfl) ?_ _
  have DD:=D.step hs9
  have XX:XB w w9 SB t' q1 q2 q3 f1 f2 f3:=⟨F9,HV9,su,Nat.lt_of_lt_of_le (Nat.lt_of_lt_of_le D.hH (Nat.le_of_lt D.row.lt)) lA⟩
  clear RUN G9 F9 hs9 HV9 HV1 HV0 HU OKC
  exact hQ SB t' q1 q2 q3 f1 f2 f3 b _ _ _ _ _ _ _ _ _ _ _ _ DD XX wl
end Go.Proofs.YtboiknllmnfipaaGreatDoor
