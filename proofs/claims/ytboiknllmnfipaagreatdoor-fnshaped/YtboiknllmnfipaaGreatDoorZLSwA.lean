import Derived.Test.YtboiknllmnfipaaGreatDoorZLReg17
namespace Go.Proofs.YtboiknllmnfipaaGreatDoor
open Go.RowKit
set_option maxRecDepth 1000000 in
set_option maxHeartbeats 6400000 in
theorem sw0 {w wr:World} {N:Nat} {cv:Value} {cs:List UInt8} {H gQ:Nat} {t:Hp} {p1 p2 p3:Option Addr} {e1 e2 e3:Nat} {x:Int} {g c ll:Nat} {m:List Int} (_hll:ll<=3200) (_RM7:RI wr g m c) (_hml:Hid (m.length=3+ll)) (_hin:Hid (∀ x,x ∈ m->N8 x)) (_nN:some g ≠ some N) (_hx:N8 x) (hN:N<w.heap.size) (D7:LD w N cv cs H gQ wr t p1 p2 p3 e1 e2 e3) {Q:Exit->Act->World->Prop} (u1 u2 u4 u5 u6 u8 Lb Jt Lc Ju Jv Mc Ld Le Jw Jx Jy Jz Kd Ke Lf Lg Hz Ia Ib Ic Jc Jd Je Id Ie Ig Ih Jf Jg Jh Ji Jj Jk Jl Jm Jn Jo Jp Jq Jr Js Ii Ij Ik Il Im Io Ip Iq Ir It Iu Iv Iw Ix Iy Iz Ja Jb Kf Kg Kh Ki Lh Li Lj Lk Ll Lm Ln Lo Lp Lq Kj Kk Km Kn Ko Kp Kr Ks Kt Ku Kv Kw Kx Ky Kz La Ct Cu Cv Cw Cx Cy Cz Di Dj Dk Dl Dm Dn Do Dp Dq Da Db Dc Dd De Df Dg Dh Ec Ed Ee Ef Eg Eh Ei Ej Ek El Em En Eo Ep Eq Er Es Et Eu Ev Ew Ex Ey Ez Fa Fb Fc Fd Fr Fs Ft Fu Fv Fw Fx Fy Fz Ga Gb Fe Ff Ba Bb Bc Bd Be Bf Bg Bh Bi Bj Bk Bl Bm Bn Bo Bp Bq Br Bs Bt Bu Bv Bw Bz Ca Ck Cl Cm Cn Co Cp Cq Cr Cs Cb Cc Cd Ce Cf Cg Ch Ci Cj:Value)
  (hQ:Hid (∀ (t:Hp) (p1 p2 p3:Option Addr) (e1 e2 e3:Nat) (w9:World) (Md Me Mf Mg Mh Mi Mj Mk Ml Mm Mn Mo Mp Mq Mr Ms Mt Mu Mv Mw Lr Lt Lu Lv Lw Lx Ly Lz Ma Mb Mx My Mz Na Nb Nc Nf Ng Nh Ni Nj Nk Nl Nm Nn Np Gc Gd Ge Gf Gg Gh Gi Ds Dt Du Dv Dx Dy Dz Ea Eb Gj Gk Gl Gm Gn Gp Gs Gt Gu Gv Gw Gx Gy Gz Ha Hb Hc Hd He Hf Hg Hh Hi Hj Hk Hl Hm Hn Ho Hq Hr Hs Ht Hu Hv Hw Fg Fh Fi Fj Fk Fl Fm Fn Fo Fp Fq Hx Hy:Value),LD w N cv cs H gQ w9 t p1 p2 p3 e1 e2 e3->Q .normal ⟨List.toArray (.pointer (some ⟨N,0,none⟩)::u1::u2::.pointer (some ⟨H,0,none⟩)::u4::u5::u6::.slice (some ⟨g,0,none⟩) (3+ll) c::u8::.int .i64 x::Md::Me::Mf::Mg::Mh::Mi::Mj::Mk::Ml::Mm::Mn::Mo::Mp::Mq::Mr::Ms::Hz::Ia::Ib::Ic::Jc::Jd::Je::Id::Ie::Ig::Ih::Jf::Jg::Jh::Ji::Jj::Jk::Jl::Jm::Jn::Jo::Jp::Jq::Jr::Js::Ii::Ij::Ik::Il::Im::Io::Ip::Iq::Ir::It::Iu::Iv::Iw::Ix::Iy::Iz::Ja::Jb::.int .i64 0::Mt::Mu::Mv::Mw::Lr::Lt::Lu::Lv::Lw::Lx::Ly::Lz::Ma::Mb::Mx::My::Mz::Na::Nb::Nc::Nf::Ng::Nh::Ni::Nj::Nk::Nl::Nm::Nn::Np::Gc::Gd::Ge::Gf::Gg::Gh::Gi::Ds::Dt::Du::Dv::Dx::Dy::Dz::Ea::Eb::Gj::Gk::Gl::Gm::Gn::Gp::Gs::Gt::Gu::Gv::Gw::Gx::Gy::Gz::Ha::Hb::Hc::Hd::He::Hf::Hg::Hh::Hi::Hj::Hk::Hl::Hm::Hn::Ho::Hq::Hr::Hs::Ht::Hu::Hv::Hw::Fg::Fh::Fi::Fj::Fk::Fl::Fm::Fn::Fo::Fp::Fq::Hx::Hy::Ba::Bb::Bc::Bd::Be::Bf::Bg::Bh::Bi::Bj::Bk::Bl::Bm::Bn::Bo::Bp::Bq::Br::Bs::Bt::Bu::Bv::Bw::Bz::Ca::Ck::Cl::Cm::Cn::Co::Cp::Cq::Cr::Cs::Cb::Cc::Cd::Ce::Cf::Cg::Ch::Ci::Cj::[]),[]⟩ w9)) :
  Code.wp Tryz.prog Jaa Q ⟨List.toArray (.pointer (some ⟨N,0,none⟩)::u1::u2::.pointer (some ⟨H,0,none⟩)::u4::u5::u6::.slice (some ⟨g,0,none⟩) (3+ll) c::u8::.int .i64 x::Lb::Jt::Lc::Ju::Jv::Mc::Ld::Le::Jw::Jx::Jy::Jz::Kd::Ke::Lf::Lg::Hz::Ia::Ib::Ic::Jc::Jd::Je::Id::Ie::Ig::Ih::Jf::Jg::Jh::Ji::Jj::Jk::Jl::Jm::Jn::Jo::Jp::Jq::Jr::Js::Ii::Ij::Ik::Il::Im::Io::Ip::Iq::Ir::It::Iu::Iv::Iw::Ix::Iy::Iz::Ja::Jb::.int .i64 0::Kf::Kg::Kh::Ki::Lh::Li::Lj::Lk::Ll::Lm::Ln::Lo::Lp::Lq::Kj::Kk::Km::Kn::Ko::Kp::Kr::Ks::Kt::Ku::Kv::Kw::Kx::Ky::Kz::La::Ct::Cu::Cv::Cw::Cx::Cy::Cz::Di::Dj::Dk::Dl::Dm::Dn::Do::Dp::Dq::Da::Db::Dc::Dd::De::Df::Dg::Dh::Ec::Ed::Ee::Ef::Eg::Eh::Ei::Ej::Ek::El::Em::En::Eo::Ep::Eq::Er::Es::Et::Eu::Ev::Ew::Ex::Ey::Ez::Fa::Fb::Fc::Fd::Fr::Fs::Ft::Fu::Fv::Fw::Fx::Fy::Fz::Ga::Gb::Fe::Ff::Ba::Bb::Bc::Bd::Be::Bf::Bg::Bh::Bi::Bj::Bk::Bl::Bm::Bn::Bo::Bp::Bq::Br::Bs::Bt::Bu::Bv::Bw::Bz::Ca::Ck::Cl::Cm::Cn::Co::Cp::Cq::Cr::Cs::Cb::Cc::Cd::Ce::Cf::Cg::Ch::Ci::Cj::[]),[]⟩ wr:=by
 conv=>arg 2;whnf
 go_wp2_with fail
 refine Jht  hN D7 _ _ _ _ _ _ _ _ _ _ _ _ _ _ _ _ _ _ _ _ _ _ _ _ _ _ _ _ _ _ _ _ _ _ _ _ _ _ _ _ _ _ _ _ _ _ _ _ _ _ _ _ _ _ _ _ _ _ _ _ _ _ _ _ _ _ _ _ _ _ _ _ _ _ _ _ _ _ _ _ _ _ _ _ _ _ _ _ _ _ _ _ _ _ _ _ _ _ _ _ _ _ _ _ _ _ _ _ _ _ _ _ _ _ _ _ _ _ _ _ _ _ _ _ _ _ _ _ _ _ _ _ _ _ _ _ _ _ _ _ _ _ _ _ _ _ _ _ _ _ _ _ _ _ _ _ _ _ _ _ _ _ _ _ _ _ _ _ _ _ _ _ _ _ _ _ _ _ _ _ _ _ _ _ _ _ _ _ _ _ _ _ _ _ _ _ _ _ _ _ _ _ _ _ _ _ ?_
 intro SB t' q1 q2 q3 f1 f2 f3 r b w8 Lr Lt Lu Lv Lw Lx Ly Lz Ma Mb D8 X8 rin wl an
 (
  clear D7
  cases b
  ·go_wp2
   exact hQ.out _ _ _ _ _ _ _ _ _ _ _ _ _ _ _ _ _ _ _ _ _ _ _ _ _ _ _ _ _ _ _ _ _ _ _ _ _ _ _ _ _ _ _ _ _ _ _ _ _ _ _ _ _ _ _ _ _ _ _ _ _ _ _ _ _ _ _ _ _ _ _ _ _ _ _ _ _ _ _ _ _ _ _ _ _ _ _ _ _ _ _ _ _ _ _ _ _ _ _ _ _ _ _ _ _ _ _ _ _ _ _ _ _ _ _ _ _ _ _ D8
  ·obtain ⟨x0,x1,x2,x3,x4,x5,x6,x7⟩:=C6 X8.row
   have OKC:(#[.slice q1 t'.words.length f1,.slice q2 t'.roots.length f2,.int .i64 t'.old,.int .i64 t'.eden,.int .i64 t'.surv,.bool t'.flip,.int .i64 t'.hash,.slice q3 t'.kept.length f3]:Array Value).all (·.oneCell')=true:=by simp [Value.oneCell']
   go_wp2_with ((with_reducible refine C9 _ ?_ (.tmp 3) (.tmp 85) 30 ?_ 30 H 8 #[.slice q1 t'.words.length f1,.slice q2 t'.roots.length f2,.int .i64 t'.old,.int .i64 t'.eden,.int .i64 t'.surv,.bool t'.flip,.int .i64 t'.hash,.slice q3 t'.kept.length f3] _ ?_ ?_ D8.row ?_ ?_ OKC ?_);rfl;rfl;rfl;rfl;rfl;kernel_rfl;intro w9 F9 G9)
   have D9:=D8.take X8.hm X8.sm (wl.out (by simp)) G9 F9
   clear F9 G9 OKC x0 x1 x2 x3 x4 x5 x6 x7 X8 D8
   have BO:=D9.dw.once 2 (by omega) (by omega)
   go_wp2_with fail
   refine BO.mono ?_
   rintro x wO ⟨⟨bo,rfl⟩,go,dO⟩
   have D10:=D9.step ⟨go,dO⟩
   clear BO go dO D9
   cases bo
   ·go_wp2
    exact hQ.out _ _ _ _ _ _ _ _ _ _ _ _ _ _ _ _ _ _ _ _ _ _ _ _ _ _ _ _ _ _ _ _ _ _ _ _ _ _ _ _ _ _ _ _ _ _ _ _ _ _ _ _ _ _ _ _ _ _ _ _ _ _ _ _ _ _ _ _ _ _ _ _ _ _ _ _ _ _ _ _ _ _ _ _ _ _ _ _ _ _ _ _ _ _ _ _ _ _ _ _ _ _ _ _ _ _ _ _ _ _ _ _ _ _ _ _ _ _ _ D10
   ·skip
    obtain ⟨c0,c1,c2,c3,c4,c5,c6,c7⟩:=C6 D10.row
    have KC:=Jkl D10.hm.hr D10.sm r rin
    go_wp2_with fail
    refine KC.mono ?_
    rintro e wK ⟨⟨u,b,t2,rfl,HU,su,wl⟩,hbk⟩
    replace wl:Hid (b=true->t2.words.length=3200):=wl
    obtain ⟨s1,s2,s3,h1,h2,h3,rfl⟩:=HU.shape
    have DK:=D10.later hbk
    have alk:=C5 wK (.cells #[.slice s1 t2.words.length h1,.slice s2 t2.roots.length h2,.int .i64 t2.old,.int .i64 t2.eden,.int .i64 t2.surv,.bool t2.flip,.int .i64 t2.hash,.slice s3 t2.kept.length h3] 30)
    have X11:XB w (wK.alloc (.cells #[.slice s1 t2.words.length h1,.slice s2 t2.roots.length h2,.int .i64 t2.old,.int .i64 t2.eden,.int .i64 t2.surv,.bool t2.flip,.int .i64 t2.hash,.slice s3 t2.kept.length h3] 30)) wK.heap.size t2 s1 s2 s3 h1 h2 h3:=⟨I0 wK #[.slice s1 t2.words.length h1,.slice s2 t2.roots.length h2,.int .i64 t2.old,.int .i64 t2.eden,.int .i64 t2.surv,.bool t2.flip,.int .i64 t2.hash,.slice s3 t2.kept.length h3] 30,(HU.low (C:=w.heap.size) D10.gr.size).later alk,su,Nat.lt_of_lt_of_le D10.hH (Nat.le_of_lt DK.row.lt)⟩
    have D11:=DK.later alk
    clear KC hbk HU DK alk c0 c1 c2 c3 c4 c5 c6 c7 D10
    cases b
    ·go_wp2
     exact hQ.out _ _ _ _ _ _ _ _ _ _ _ _ _ _ _ _ _ _ _ _ _ _ _ _ _ _ _ _ _ _ _ _ _ _ _ _ _ _ _ _ _ _ _ _ _ _ _ _ _ _ _ _ _ _ _ _ _ _ _ _ _ _ _ _ _ _ _ _ _ _ _ _ _ _ _ _ _ _ _ _ _ _ _ _ _ _ _ _ _ _ _ _ _ _ _ _ _ _ _ _ _ _ _ _ _ _ _ _ _ _ _ _ _ _ _ _ _ _ _ D11
    ·obtain ⟨x0,x1,x2,x3,x4,x5,x6,x7⟩:=C6 X11.row
     have OKC:(#[.slice s1 t2.words.length h1,.slice s2 t2.roots.length h2,.int .i64 t2.old,.int .i64 t2.eden,.int .i64 t2.surv,.bool t2.flip,.int .i64 t2.hash,.slice s3 t2.kept.length h3]:Array Value).all (·.oneCell')=true:=by simp [Value.oneCell']
     go_wp2_with ((with_reducible refine C9 _ ?_ (.tmp 3) (.tmp 95) 30 ?_ 30 H 8 #[.slice s1 t2.words.length h1,.slice s2 t2.roots.length h2,.int .i64 t2.old,.int .i64 t2.eden,.int .i64 t2.surv,.bool t2.flip,.int .i64 t2.hash,.slice s3 t2.kept.length h3] _ ?_ ?_ D11.row ?_ ?_ OKC ?_);rfl;rfl;rfl;rfl;rfl;kernel_rfl;intro w12 F9 G9)
     have D12:=D11.take X11.hm X11.sm (wl.out (by simp)) G9 F9
     clear F9 G9 OKC x0 x1 x2 x3 x4 x5 x6 x7 X11 D11
     go_wp2
     exact hQ.out _ _ _ _ _ _ _ _ _ _ _ _ _ _ _ _ _ _ _ _ _ _ _ _ _ _ _ _ _ _ _ _ _ _ _ _ _ _ _ _ _ _ _ _ _ _ _ _ _ _ _ _ _ _ _ _ _ _ _ _ _ _ _ _ _ _ _ _ _ _ _ _ _ _ _ _ _ _ _ _ _ _ _ _ _ _ _ _ _ _ _ _ _ _ _ _ _ _ _ _ _ _ _ _ _ _ _ _ _ _ _ _ _ _ _ _ _ _ _ D12
 )
set_option maxRecDepth 1000000 in
set_option maxHeartbeats 6400000 in
theorem sw1 {w wr:World} {N:Nat} {cv:Value} {cs:List UInt8} {H gQ:Nat} {t:Hp} {p1 p2 p3:Option Addr} {e1 e2 e3:Nat} {x:Int} {g c ll:Nat} {m:List Int} (_hll:ll<=3200) (_RM7:RI wr g m c) (_hml:Hid (m.length=3+ll)) (_hin:Hid (∀ x,x ∈ m->N8 x)) (_nN:some g ≠ some N) (_hx:N8 x) (hN:N<w.heap.size) (D7:LD w N cv cs H gQ wr t p1 p2 p3 e1 e2 e3) {Q:Exit->Act->World->Prop} (u1 u2 u4 u5 u6 u8 Lb Jt Lc Ju Jv Mc Ld Le Jw Jx Jy Jz Kd Ke Lf Lg Hz Ia Ib Ic Jc Jd Je Id Ie Ig Ih Jf Jg Jh Ji Jj Jk Jl Jm Jn Jo Jp Jq Jr Js Ii Ij Ik Il Im Io Ip Iq Ir It Iu Iv Iw Ix Iy Iz Ja Jb Kf Kg Kh Ki Lh Li Lj Lk Ll Lm Ln Lo Lp Lq Kj Kk Km Kn Ko Kp Kr Ks Kt Ku Kv Kw Kx Ky Kz La Ct Cu Cv Cw Cx Cy Cz Di Dj Dk Dl Dm Dn Do Dp Dq Da Db Dc Dd De Df Dg Dh Ec Ed Ee Ef Eg Eh Ei Ej Ek El Em En Eo Ep Eq Er Es Et Eu Ev Ew Ex Ey Ez Fa Fb Fc Fd Fr Fs Ft Fu Fv Fw Fx Fy Fz Ga Gb Fe Ff Ba Bb Bc Bd Be Bf Bg Bh Bi Bj Bk Bl Bm Bn Bo Bp Bq Br Bs Bt Bu Bv Bw Bz Ca Ck Cl Cm Cn Co Cp Cq Cr Cs Cb Cc Cd Ce Cf Cg Ch Ci Cj:Value)
  (hQ:Hid (∀ (t:Hp) (p1 p2 p3:Option Addr) (e1 e2 e3:Nat) (w9:World) (Md Me Mf Mg Mh Mi Mj Mk Ml Mm Mn Mo Mp Mq Mr Ms Mt Mu Mv Mw Lr Lt Lu Lv Lw Lx Ly Lz Ma Mb Mx My Mz Na Nb Nc Nf Ng Nh Ni Nj Nk Nl Nm Nn Np Gc Gd Ge Gf Gg Gh Gi Ds Dt Du Dv Dx Dy Dz Ea Eb Gj Gk Gl Gm Gn Gp Gs Gt Gu Gv Gw Gx Gy Gz Ha Hb Hc Hd He Hf Hg Hh Hi Hj Hk Hl Hm Hn Ho Hq Hr Hs Ht Hu Hv Hw Fg Fh Fi Fj Fk Fl Fm Fn Fo Fp Fq Hx Hy:Value),LD w N cv cs H gQ w9 t p1 p2 p3 e1 e2 e3->Q .normal ⟨List.toArray (.pointer (some ⟨N,0,none⟩)::u1::u2::.pointer (some ⟨H,0,none⟩)::u4::u5::u6::.slice (some ⟨g,0,none⟩) (3+ll) c::u8::.int .i64 x::Md::Me::Mf::Mg::Mh::Mi::Mj::Mk::Ml::Mm::Mn::Mo::Mp::Mq::Mr::Ms::Hz::Ia::Ib::Ic::Jc::Jd::Je::Id::Ie::Ig::Ih::Jf::Jg::Jh::Ji::Jj::Jk::Jl::Jm::Jn::Jo::Jp::Jq::Jr::Js::Ii::Ij::Ik::Il::Im::Io::Ip::Iq::Ir::It::Iu::Iv::Iw::Ix::Iy::Iz::Ja::Jb::.int .i64 1::Mt::Mu::Mv::Mw::Lr::Lt::Lu::Lv::Lw::Lx::Ly::Lz::Ma::Mb::Mx::My::Mz::Na::Nb::Nc::Nf::Ng::Nh::Ni::Nj::Nk::Nl::Nm::Nn::Np::Gc::Gd::Ge::Gf::Gg::Gh::Gi::Ds::Dt::Du::Dv::Dx::Dy::Dz::Ea::Eb::Gj::Gk::Gl::Gm::Gn::Gp::Gs::Gt::Gu::Gv::Gw::Gx::Gy::Gz::Ha::Hb::Hc::Hd::He::Hf::Hg::Hh::Hi::Hj::Hk::Hl::Hm::Hn::Ho::Hq::Hr::Hs::Ht::Hu::Hv::Hw::Fg::Fh::Fi::Fj::Fk::Fl::Fm::Fn::Fo::Fp::Fq::Hx::Hy::Ba::Bb::Bc::Bd::Be::Bf::Bg::Bh::Bi::Bj::Bk::Bl::Bm::Bn::Bo::Bp::Bq::Br::Bs::Bt::Bu::Bv::Bw::Bz::Ca::Ck::Cl::Cm::Cn::Co::Cp::Cq::Cr::Cs::Cb::Cc::Cd::Ce::Cf::Cg::Ch::Ci::Cj::[]),[]⟩ w9)) :
  Code.wp Tryz.prog Jaa Q ⟨List.toArray (.pointer (some ⟨N,0,none⟩)::u1::u2::.pointer (some ⟨H,0,none⟩)::u4::u5::u6::.slice (some ⟨g,0,none⟩) (3+ll) c::u8::.int .i64 x::Lb::Jt::Lc::Ju::Jv::Mc::Ld::Le::Jw::Jx::Jy::Jz::Kd::Ke::Lf::Lg::Hz::Ia::Ib::Ic::Jc::Jd::Je::Id::Ie::Ig::Ih::Jf::Jg::Jh::Ji::Jj::Jk::Jl::Jm::Jn::Jo::Jp::Jq::Jr::Js::Ii::Ij::Ik::Il::Im::Io::Ip::Iq::Ir::It::Iu::Iv::Iw::Ix::Iy::Iz::Ja::Jb::.int .i64 1::Kf::Kg::Kh::Ki::Lh::Li::Lj::Lk::Ll::Lm::Ln::Lo::Lp::Lq::Kj::Kk::Km::Kn::Ko::Kp::Kr::Ks::Kt::Ku::Kv::Kw::Kx::Ky::Kz::La::Ct::Cu::Cv::Cw::Cx::Cy::Cz::Di::Dj::Dk::Dl::Dm::Dn::Do::Dp::Dq::Da::Db::Dc::Dd::De::Df::Dg::Dh::Ec::Ed::Ee::Ef::Eg::Eh::Ei::Ej::Ek::El::Em::En::Eo::Ep::Eq::Er::Es::Et::Eu::Ev::Ew::Ex::Ey::Ez::Fa::Fb::Fc::Fd::Fr::Fs::Ft::Fu::Fv::Fw::Fx::Fy::Fz::Ga::Gb::Fe::Ff::Ba::Bb::Bc::Bd::Be::Bf::Bg::Bh::Bi::Bj::Bk::Bl::Bm::Bn::Bo::Bp::Bq::Br::Bs::Bt::Bu::Bv::Bw::Bz::Ca::Ck::Cl::Cm::Cn::Co::Cp::Cq::Cr::Cs::Cb::Cc::Cd::Ce::Cf::Cg::Ch::Ci::Cj::[]),[]⟩ wr:=by
 conv=>arg 2;whnf
 go_wp2_with fail
 refine Jht  hN D7 _ _ _ _ _ _ _ _ _ _ _ _ _ _ _ _ _ _ _ _ _ _ _ _ _ _ _ _ _ _ _ _ _ _ _ _ _ _ _ _ _ _ _ _ _ _ _ _ _ _ _ _ _ _ _ _ _ _ _ _ _ _ _ _ _ _ _ _ _ _ _ _ _ _ _ _ _ _ _ _ _ _ _ _ _ _ _ _ _ _ _ _ _ _ _ _ _ _ _ _ _ _ _ _ _ _ _ _ _ _ _ _ _ _ _ _ _ _ _ _ _ _ _ _ _ _ _ _ _ _ _ _ _ _ _ _ _ _ _ _ _ _ _ _ _ _ _ _ _ _ _ _ _ _ _ _ _ _ _ _ _ _ _ _ _ _ _ _ _ _ _ _ _ _ _ _ _ _ _ _ _ _ _ _ _ _ _ _ _ _ _ _ _ _ _ _ _ _ _ _ _ _ _ _ _ _ ?_
 intro SB t' q1 q2 q3 f1 f2 f3 r b w8 Lr Lt Lu Lv Lw Lx Ly Lz Ma Mb D8 X8 rin wl an
 (
  clear D7
  cases b
  ·go_wp2
   exact hQ.out _ _ _ _ _ _ _ _ _ _ _ _ _ _ _ _ _ _ _ _ _ _ _ _ _ _ _ _ _ _ _ _ _ _ _ _ _ _ _ _ _ _ _ _ _ _ _ _ _ _ _ _ _ _ _ _ _ _ _ _ _ _ _ _ _ _ _ _ _ _ _ _ _ _ _ _ _ _ _ _ _ _ _ _ _ _ _ _ _ _ _ _ _ _ _ _ _ _ _ _ _ _ _ _ _ _ _ _ _ _ _ _ _ _ _ _ _ _ _ D8
  ·obtain ⟨x0,x1,x2,x3,x4,x5,x6,x7⟩:=C6 X8.row
   have OKC:(#[.slice q1 t'.words.length f1,.slice q2 t'.roots.length f2,.int .i64 t'.old,.int .i64 t'.eden,.int .i64 t'.surv,.bool t'.flip,.int .i64 t'.hash,.slice q3 t'.kept.length f3]:Array Value).all (·.oneCell')=true:=by simp [Value.oneCell']
   go_wp2_with ((with_reducible refine C9 _ ?_ (.tmp 3) (.tmp 85) 30 ?_ 30 H 8 #[.slice q1 t'.words.length f1,.slice q2 t'.roots.length f2,.int .i64 t'.old,.int .i64 t'.eden,.int .i64 t'.surv,.bool t'.flip,.int .i64 t'.hash,.slice q3 t'.kept.length f3] _ ?_ ?_ D8.row ?_ ?_ OKC ?_);rfl;rfl;rfl;rfl;rfl;kernel_rfl;intro w9 F9 G9)
   have D9:=D8.take X8.hm X8.sm (wl.out (by simp)) G9 F9
   clear F9 G9 OKC x0 x1 x2 x3 x4 x5 x6 x7 X8 D8
   have BO:=D9.dw.once 2 (by omega) (by omega)
   go_wp2_with fail
   refine BO.mono ?_
   rintro x wO ⟨⟨bo,rfl⟩,go,dO⟩
   have D10:=D9.step ⟨go,dO⟩
   clear BO go dO D9
   cases bo
   ·go_wp2
    exact hQ.out _ _ _ _ _ _ _ _ _ _ _ _ _ _ _ _ _ _ _ _ _ _ _ _ _ _ _ _ _ _ _ _ _ _ _ _ _ _ _ _ _ _ _ _ _ _ _ _ _ _ _ _ _ _ _ _ _ _ _ _ _ _ _ _ _ _ _ _ _ _ _ _ _ _ _ _ _ _ _ _ _ _ _ _ _ _ _ _ _ _ _ _ _ _ _ _ _ _ _ _ _ _ _ _ _ _ _ _ _ _ _ _ _ _ _ _ _ _ _ D10
   ·skip
    obtain ⟨c0,c1,c2,c3,c4,c5,c6,c7⟩:=C6 D10.row
    have KC:=Jkl D10.hm.hr D10.sm r rin
    go_wp2_with fail
    refine KC.mono ?_
    rintro e wK ⟨⟨u,b,t2,rfl,HU,su,wl⟩,hbk⟩
    replace wl:Hid (b=true->t2.words.length=3200):=wl
    obtain ⟨s1,s2,s3,h1,h2,h3,rfl⟩:=HU.shape
    have DK:=D10.later hbk
    have alk:=C5 wK (.cells #[.slice s1 t2.words.length h1,.slice s2 t2.roots.length h2,.int .i64 t2.old,.int .i64 t2.eden,.int .i64 t2.surv,.bool t2.flip,.int .i64 t2.hash,.slice s3 t2.kept.length h3] 30)
    have X11:XB w (wK.alloc (.cells #[.slice s1 t2.words.length h1,.slice s2 t2.roots.length h2,.int .i64 t2.old,.int .i64 t2.eden,.int .i64 t2.surv,.bool t2.flip,.int .i64 t2.hash,.slice s3 t2.kept.length h3] 30)) wK.heap.size t2 s1 s2 s3 h1 h2 h3:=⟨I0 wK #[.slice s1 t2.words.length h1,.slice s2 t2.roots.length h2,.int .i64 t2.old,.int .i64 t2.eden,.int .i64 t2.surv,.bool t2.flip,.int .i64 t2.hash,.slice s3 t2.kept.length h3] 30,(HU.low (C:=w.heap.size) D10.gr.size).later alk,su,Nat.lt_of_lt_of_le D10.hH (Nat.le_of_lt DK.row.lt)⟩
    have D11:=DK.later alk
    clear KC hbk HU DK alk c0 c1 c2 c3 c4 c5 c6 c7 D10
    cases b
    ·go_wp2
     exact hQ.out _ _ _ _ _ _ _ _ _ _ _ _ _ _ _ _ _ _ _ _ _ _ _ _ _ _ _ _ _ _ _ _ _ _ _ _ _ _ _ _ _ _ _ _ _ _ _ _ _ _ _ _ _ _ _ _ _ _ _ _ _ _ _ _ _ _ _ _ _ _ _ _ _ _ _ _ _ _ _ _ _ _ _ _ _ _ _ _ _ _ _ _ _ _ _ _ _ _ _ _ _ _ _ _ _ _ _ _ _ _ _ _ _ _ _ _ _ _ _ D11
    ·obtain ⟨x0,x1,x2,x3,x4,x5,x6,x7⟩:=C6 X11.row
     have OKC:(#[.slice s1 t2.words.length h1,.slice s2 t2.roots.length h2,.int .i64 t2.old,.int .i64 t2.eden,.int .i64 t2.surv,.bool t2.flip,.int .i64 t2.hash,.slice s3 t2.kept.length h3]:Array Value).all (·.oneCell')=true:=by simp [Value.oneCell']
     go_wp2_with ((with_reducible refine C9 _ ?_ (.tmp 3) (.tmp 95) 30 ?_ 30 H 8 #[.slice s1 t2.words.length h1,.slice s2 t2.roots.length h2,.int .i64 t2.old,.int .i64 t2.eden,.int .i64 t2.surv,.bool t2.flip,.int .i64 t2.hash,.slice s3 t2.kept.length h3] _ ?_ ?_ D11.row ?_ ?_ OKC ?_);rfl;rfl;rfl;rfl;rfl;kernel_rfl;intro w12 F9 G9)
     have D12:=D11.take X11.hm X11.sm (wl.out (by simp)) G9 F9
     clear F9 G9 OKC x0 x1 x2 x3 x4 x5 x6 x7 X11 D11
     go_wp2
     exact hQ.out _ _ _ _ _ _ _ _ _ _ _ _ _ _ _ _ _ _ _ _ _ _ _ _ _ _ _ _ _ _ _ _ _ _ _ _ _ _ _ _ _ _ _ _ _ _ _ _ _ _ _ _ _ _ _ _ _ _ _ _ _ _ _ _ _ _ _ _ _ _ _ _ _ _ _ _ _ _ _ _ _ _ _ _ _ _ _ _ _ _ _ _ _ _ _ _ _ _ _ _ _ _ _ _ _ _ _ _ _ _ _ _ _ _ _ _ _ _ _ D12
 )
set_option maxRecDepth 1000000 in
set_option maxHeartbeats 6400000 in
theorem sw2 {w wr:World} {N:Nat} {cv:Value} {cs:List UInt8} {H gQ:Nat} {t:Hp} {p1 p2 p3:Option Addr} {e1 e2 e3:Nat} {x:Int} {g c ll:Nat} {m:List Int} (_hll:ll<=3200) (_RM7:RI wr g m c) (_hml:Hid (m.length=3+ll)) (_hin:Hid (∀ x,x ∈ m->N8 x)) (_nN:some g ≠ some N) (_hx:N8 x) (hN:N<w.heap.size) (D7:LD w N cv cs H gQ wr t p1 p2 p3 e1 e2 e3) {Q:Exit->Act->World->Prop} (u1 u2 u4 u5 u6 u8 Lb Jt Lc Ju Jv Mc Ld Le Jw Jx Jy Jz Kd Ke Lf Lg Hz Ia Ib Ic Jc Jd Je Id Ie Ig Ih Jf Jg Jh Ji Jj Jk Jl Jm Jn Jo Jp Jq Jr Js Ii Ij Ik Il Im Io Ip Iq Ir It Iu Iv Iw Ix Iy Iz Ja Jb Kf Kg Kh Ki Lh Li Lj Lk Ll Lm Ln Lo Lp Lq Kj Kk Km Kn Ko Kp Kr Ks Kt Ku Kv Kw Kx Ky Kz La Ct Cu Cv Cw Cx Cy Cz Di Dj Dk Dl Dm Dn Do Dp Dq Da Db Dc Dd De Df Dg Dh Ec Ed Ee Ef Eg Eh Ei Ej Ek El Em En Eo Ep Eq Er Es Et Eu Ev Ew Ex Ey Ez Fa Fb Fc Fd Fr Fs Ft Fu Fv Fw Fx Fy Fz Ga Gb Fe Ff Ba Bb Bc Bd Be Bf Bg Bh Bi Bj Bk Bl Bm Bn Bo Bp Bq Br Bs Bt Bu Bv Bw Bz Ca Ck Cl Cm Cn Co Cp Cq Cr Cs Cb Cc Cd Ce Cf Cg Ch Ci Cj:Value)
  (hQ:Hid (∀ (t:Hp) (p1 p2 p3:Option Addr) (e1 e2 e3:Nat) (w9:World) (Md Me Mf Mg Mh Mi Mj Mk Ml Mm Mn Mo Mp Mq Mr Ms Mt Mu Mv Mw Lr Lt Lu Lv Lw Lx Ly Lz Ma Mb Mx My Mz Na Nb Nc Nf Ng Nh Ni Nj Nk Nl Nm Nn Np Gc Gd Ge Gf Gg Gh Gi Ds Dt Du Dv Dx Dy Dz Ea Eb Gj Gk Gl Gm Gn Gp Gs Gt Gu Gv Gw Gx Gy Gz Ha Hb Hc Hd He Hf Hg Hh Hi Hj Hk Hl Hm Hn Ho Hq Hr Hs Ht Hu Hv Hw Fg Fh Fi Fj Fk Fl Fm Fn Fo Fp Fq Hx Hy:Value),LD w N cv cs H gQ w9 t p1 p2 p3 e1 e2 e3->Q .normal ⟨List.toArray (.pointer (some ⟨N,0,none⟩)::u1::u2::.pointer (some ⟨H,0,none⟩)::u4::u5::u6::.slice (some ⟨g,0,none⟩) (3+ll) c::u8::.int .i64 x::Md::Me::Mf::Mg::Mh::Mi::Mj::Mk::Ml::Mm::Mn::Mo::Mp::Mq::Mr::Ms::Hz::Ia::Ib::Ic::Jc::Jd::Je::Id::Ie::Ig::Ih::Jf::Jg::Jh::Ji::Jj::Jk::Jl::Jm::Jn::Jo::Jp::Jq::Jr::Js::Ii::Ij::Ik::Il::Im::Io::Ip::Iq::Ir::It::Iu::Iv::Iw::Ix::Iy::Iz::Ja::Jb::.int .i64 2::Mt::Mu::Mv::Mw::Lr::Lt::Lu::Lv::Lw::Lx::Ly::Lz::Ma::Mb::Mx::My::Mz::Na::Nb::Nc::Nf::Ng::Nh::Ni::Nj::Nk::Nl::Nm::Nn::Np::Gc::Gd::Ge::Gf::Gg::Gh::Gi::Ds::Dt::Du::Dv::Dx::Dy::Dz::Ea::Eb::Gj::Gk::Gl::Gm::Gn::Gp::Gs::Gt::Gu::Gv::Gw::Gx::Gy::Gz::Ha::Hb::Hc::Hd::He::Hf::Hg::Hh::Hi::Hj::Hk::Hl::Hm::Hn::Ho::Hq::Hr::Hs::Ht::Hu::Hv::Hw::Fg::Fh::Fi::Fj::Fk::Fl::Fm::Fn::Fo::Fp::Fq::Hx::Hy::Ba::Bb::Bc::Bd::Be::Bf::Bg::Bh::Bi::Bj::Bk::Bl::Bm::Bn::Bo::Bp::Bq::Br::Bs::Bt::Bu::Bv::Bw::Bz::Ca::Ck::Cl::Cm::Cn::Co::Cp::Cq::Cr::Cs::Cb::Cc::Cd::Ce::Cf::Cg::Ch::Ci::Cj::[]),[]⟩ w9)) :
  Code.wp Tryz.prog Jaa Q ⟨List.toArray (.pointer (some ⟨N,0,none⟩)::u1::u2::.pointer (some ⟨H,0,none⟩)::u4::u5::u6::.slice (some ⟨g,0,none⟩) (3+ll) c::u8::.int .i64 x::Lb::Jt::Lc::Ju::Jv::Mc::Ld::Le::Jw::Jx::Jy::Jz::Kd::Ke::Lf::Lg::Hz::Ia::Ib::Ic::Jc::Jd::Je::Id::Ie::Ig::Ih::Jf::Jg::Jh::Ji::Jj::Jk::Jl::Jm::Jn::Jo::Jp::Jq::Jr::Js::Ii::Ij::Ik::Il::Im::Io::Ip::Iq::Ir::It::Iu::Iv::Iw::Ix::Iy::Iz::Ja::Jb::.int .i64 2::Kf::Kg::Kh::Ki::Lh::Li::Lj::Lk::Ll::Lm::Ln::Lo::Lp::Lq::Kj::Kk::Km::Kn::Ko::Kp::Kr::Ks::Kt::Ku::Kv::Kw::Kx::Ky::Kz::La::Ct::Cu::Cv::Cw::Cx::Cy::Cz::Di::Dj::Dk::Dl::Dm::Dn::Do::Dp::Dq::Da::Db::Dc::Dd::De::Df::Dg::Dh::Ec::Ed::Ee::Ef::Eg::Eh::Ei::Ej::Ek::El::Em::En::Eo::Ep::Eq::Er::Es::Et::Eu::Ev::Ew::Ex::Ey::Ez::Fa::Fb::Fc::Fd::Fr::Fs::Ft::Fu::Fv::Fw::Fx::Fy::Fz::Ga::Gb::Fe::Ff::Ba::Bb::Bc::Bd::Be::Bf::Bg::Bh::Bi::Bj::Bk::Bl::Bm::Bn::Bo::Bp::Bq::Br::Bs::Bt::Bu::Bv::Bw::Bz::Ca::Ck::Cl::Cm::Cn::Co::Cp::Cq::Cr::Cs::Cb::Cc::Cd::Ce::Cf::Cg::Ch::Ci::Cj::[]),[]⟩ wr:=by
 conv=>arg 2;whnf
 go_wp2_with fail
 refine Jht  hN D7 _ _ _ _ _ _ _ _ _ _ _ _ _ _ _ _ _ _ _ _ _ _ _ _ _ _ _ _ _ _ _ _ _ _ _ _ _ _ _ _ _ _ _ _ _ _ _ _ _ _ _ _ _ _ _ _ _ _ _ _ _ _ _ _ _ _ _ _ _ _ _ _ _ _ _ _ _ _ _ _ _ _ _ _ _ _ _ _ _ _ _ _ _ _ _ _ _ _ _ _ _ _ _ _ _ _ _ _ _ _ _ _ _ _ _ _ _ _ _ _ _ _ _ _ _ _ _ _ _ _ _ _ _ _ _ _ _ _ _ _ _ _ _ _ _ _ _ _ _ _ _ _ _ _ _ _ _ _ _ _ _ _ _ _ _ _ _ _ _ _ _ _ _ _ _ _ _ _ _ _ _ _ _ _ _ _ _ _ _ _ _ _ _ _ _ _ _ _ _ _ _ _ _ _ _ _ ?_
 intro SB t' q1 q2 q3 f1 f2 f3 r b w8 Lr Lt Lu Lv Lw Lx Ly Lz Ma Mb D8 X8 rin wl an
 (
  clear D7
  cases b
  ·go_wp2
   exact hQ.out _ _ _ _ _ _ _ _ _ _ _ _ _ _ _ _ _ _ _ _ _ _ _ _ _ _ _ _ _ _ _ _ _ _ _ _ _ _ _ _ _ _ _ _ _ _ _ _ _ _ _ _ _ _ _ _ _ _ _ _ _ _ _ _ _ _ _ _ _ _ _ _ _ _ _ _ _ _ _ _ _ _ _ _ _ _ _ _ _ _ _ _ _ _ _ _ _ _ _ _ _ _ _ _ _ _ _ _ _ _ _ _ _ _ _ _ _ _ _ D8
  ·obtain ⟨x0,x1,x2,x3,x4,x5,x6,x7⟩:=C6 X8.row
   have OKC:(#[.slice q1 t'.words.length f1,.slice q2 t'.roots.length f2,.int .i64 t'.old,.int .i64 t'.eden,.int .i64 t'.surv,.bool t'.flip,.int .i64 t'.hash,.slice q3 t'.kept.length f3]:Array Value).all (·.oneCell')=true:=by simp [Value.oneCell']
   go_wp2_with ((with_reducible refine C9 _ ?_ (.tmp 3) (.tmp 85) 30 ?_ 30 H 8 #[.slice q1 t'.words.length f1,.slice q2 t'.roots.length f2,.int .i64 t'.old,.int .i64 t'.eden,.int .i64 t'.surv,.bool t'.flip,.int .i64 t'.hash,.slice q3 t'.kept.length f3] _ ?_ ?_ D8.row ?_ ?_ OKC ?_);rfl;rfl;rfl;rfl;rfl;kernel_rfl;intro w9 F9 G9)
   have D9:=D8.take X8.hm X8.sm (wl.out (by simp)) G9 F9
   clear F9 G9 OKC x0 x1 x2 x3 x4 x5 x6 x7 X8 D8
   have BO:=D9.dw.once 2 (by omega) (by omega)
   go_wp2_with fail
   refine BO.mono ?_
   rintro x wO ⟨⟨bo,rfl⟩,go,dO⟩
   have D10:=D9.step ⟨go,dO⟩
   clear BO go dO D9
   cases bo
   ·go_wp2
    exact hQ.out _ _ _ _ _ _ _ _ _ _ _ _ _ _ _ _ _ _ _ _ _ _ _ _ _ _ _ _ _ _ _ _ _ _ _ _ _ _ _ _ _ _ _ _ _ _ _ _ _ _ _ _ _ _ _ _ _ _ _ _ _ _ _ _ _ _ _ _ _ _ _ _ _ _ _ _ _ _ _ _ _ _ _ _ _ _ _ _ _ _ _ _ _ _ _ _ _ _ _ _ _ _ _ _ _ _ _ _ _ _ _ _ _ _ _ _ _ _ _ D10
   ·skip
    obtain ⟨c0,c1,c2,c3,c4,c5,c6,c7⟩:=C6 D10.row
    have KC:=Jkl D10.hm.hr D10.sm r rin
    go_wp2_with fail
    refine KC.mono ?_
    rintro e wK ⟨⟨u,b,t2,rfl,HU,su,wl⟩,hbk⟩
    replace wl:Hid (b=true->t2.words.length=3200):=wl
    obtain ⟨s1,s2,s3,h1,h2,h3,rfl⟩:=HU.shape
    have DK:=D10.later hbk
    have alk:=C5 wK (.cells #[.slice s1 t2.words.length h1,.slice s2 t2.roots.length h2,.int .i64 t2.old,.int .i64 t2.eden,.int .i64 t2.surv,.bool t2.flip,.int .i64 t2.hash,.slice s3 t2.kept.length h3] 30)
    have X11:XB w (wK.alloc (.cells #[.slice s1 t2.words.length h1,.slice s2 t2.roots.length h2,.int .i64 t2.old,.int .i64 t2.eden,.int .i64 t2.surv,.bool t2.flip,.int .i64 t2.hash,.slice s3 t2.kept.length h3] 30)) wK.heap.size t2 s1 s2 s3 h1 h2 h3:=⟨I0 wK #[.slice s1 t2.words.length h1,.slice s2 t2.roots.length h2,.int .i64 t2.old,.int .i64 t2.eden,.int .i64 t2.surv,.bool t2.flip,.int .i64 t2.hash,.slice s3 t2.kept.length h3] 30,(HU.low (C:=w.heap.size) D10.gr.size).later alk,su,Nat.lt_of_lt_of_le D10.hH (Nat.le_of_lt DK.row.lt)⟩
    have D11:=DK.later alk
    clear KC hbk HU DK alk c0 c1 c2 c3 c4 c5 c6 c7 D10
    cases b
    ·go_wp2
     exact hQ.out _ _ _ _ _ _ _ _ _ _ _ _ _ _ _ _ _ _ _ _ _ _ _ _ _ _ _ _ _ _ _ _ _ _ _ _ _ _ _ _ _ _ _ _ _ _ _ _ _ _ _ _ _ _ _ _ _ _ _ _ _ _ _ _ _ _ _ _ _ _ _ _ _ _ _ _ _ _ _ _ _ _ _ _ _ _ _ _ _ _ _ _ _ _ _ _ _ _ _ _ _ _ _ _ _ _ _ _ _ _ _ _ _ _ _ _ _ _ _ D11
    ·obtain ⟨x0,x1,x2,x3,x4,x5,x6,x7⟩:=C6 X11.row
     have OKC:(#[.slice s1 t2.words.length h1,.slice s2 t2.roots.length h2,.int .i64 t2.old,.int .i64 t2.eden,.int .i64 t2.surv,.bool t2.flip,.int .i64 t2.hash,.slice s3 t2.kept.length h3]:Array Value).all (·.oneCell')=true:=by simp [Value.oneCell']
     go_wp2_with ((with_reducible refine C9 _ ?_ (.tmp 3) (.tmp 95) 30 ?_ 30 H 8 #[.slice s1 t2.words.length h1,.slice s2 t2.roots.length h2,.int .i64 t2.old,.int .i64 t2.eden,.int .i64 t2.surv,.bool t2.flip,.int .i64 t2.hash,.slice s3 t2.kept.length h3] _ ?_ ?_ D11.row ?_ ?_ OKC ?_);rfl;rfl;rfl;rfl;rfl;kernel_rfl;intro w12 F9 G9)
     have D12:=D11.take X11.hm X11.sm (wl.out (by simp)) G9 F9
     clear F9 G9 OKC x0 x1 x2 x3 x4 x5 x6 x7 X11 D11
     go_wp2
     exact hQ.out _ _ _ _ _ _ _ _ _ _ _ _ _ _ _ _ _ _ _ _ _ _ _ _ _ _ _ _ _ _ _ _ _ _ _ _ _ _ _ _ _ _ _ _ _ _ _ _ _ _ _ _ _ _ _ _ _ _ _ _ _ _ _ _ _ _ _ _ _ _ _ _ _ _ _ _ _ _ _ _ _ _ _ _ _ _ _ _ _ _ _ _ _ _ _ _ _ _ _ _ _ _ _ _ _ _ _ _ _ _ _ _ _ _ _ _ _ _ _ D12
 )
end Go.Proofs.YtboiknllmnfipaaGreatDoor
