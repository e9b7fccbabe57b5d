
import Derived.Test.YtboiknllmnfipaaGreatDoorZLReg45
import Derived.Test.YtboiknllmnfipaaGreatDoorZU16
/- The draw of a heap: arms of its switch. -/
namespace Go.Proofs.YtboiknllmnfipaaGreatDoor
open Go.RowKit
set_option maxRecDepth 1000000 in
set_option maxHeartbeats 6400000 in
theorem sw6 {w wr:World} {N:Nat} {cv:Value} {cs:List UInt8} {H gQ:Nat} {t:Hp} {p1 p2 p3:Option Addr} {e1 e2 e3:Nat} {x:Int} {g c ll:Nat} {m:List Int} (_hll:ll<=3200) (_RM7:RI wr g m c) (_hml:Hid (m.length=3+ll)) (_hin:Hid (∀ x,x ∈ m->N8 x)) (_nN:some g ≠ some N) (hx:N8 x) (_hN:N<w.heap.size) (D7:LD w N cv cs H gQ wr t p1 p2 p3 e1 e2 e3) {Q:Exit->Act->World->Prop} (u1 u2 u4 u5 u6 u8 Lb Jt Lc Ju Jv Mc Ld Le Jw Jx Jy Jz Kd Ke Lf Lg Hz Ia Ib Ic Jc Jd Je Id Ie Ig Ih Jf Jg Jh Ji Jj Jk Jl Jm Jn Jo Jp Jq Jr Js Ii Ij Ik Il Im Io Ip Iq Ir It Iu Iv Iw Ix Iy Iz Ja Jb Kf Kg Kh Ki Lh Li Lj Lk Ll Lm Ln Lo Lp Lq Kj Kk Km Kn Ko Kp Kr Ks Kt Ku Kv Kw Kx Ky Kz La Ct Cu Cv Cw Cx Cy Cz Di Dj Dk Dl Dm Dn Do Dp Dq Da Db Dc Dd De Df Dg Dh Ec Ed Ee Ef Eg Eh Ei Ej Ek El Em En Eo Ep Eq Er Es Et Eu Ev Ew Ex Ey Ez Fa Fb Fc Fd Fr Fs Ft Fu Fv Fw Fx Fy Fz Ga Gb Fe Ff Ba Bb Bc Bd Be Bf Bg Bh Bi Bj Bk Bl Bm Bn Bo Bp Bq Br Bs Bt Bu Bv Bw Bz Ca Ck Cl Cm Cn Co Cp Cq Cr Cs Cb Cc Cd Ce Cf Cg Ch Ci Cj:Value)
  (hQ:Hid (∀ (t:Hp) (p1 p2 p3:Option Addr) (e1 e2 e3:Nat) (w9:World) (Md Me Mf Mg Mh Mi Mj Mk Ml Mm Mn Mo Mp Mq Mr Ms Mt Mu Mv Mw Lr Lt Lu Lv Lw Lx Ly Lz Ma Mb Mx My Mz Na Nb Nc Nf Ng Nh Ni Nj Nk Nl Nm Nn Np Gc Gd Ge Gf Gg Gh Gi Ds Dt Du Dv Dx Dy Dz Ea Eb Gj Gk Gl Gm Gn Gp Gs Gt Gu Gv Gw Gx Gy Gz Ha Hb Hc Hd He Hf Hg Hh Hi Hj Hk Hl Hm Hn Ho Hq Hr Hs Ht Hu Hv Hw Fg Fh Fi Fj Fk Fl Fm Fn Fo Fp Fq Hx Hy:Value),LD w N cv cs H gQ w9 t p1 p2 p3 e1 e2 e3->Q .normal ⟨List.toArray (.pointer (some ⟨N,0,none⟩)::u1::u2::.pointer (some ⟨H,0,none⟩)::u4::u5::u6::.slice (some ⟨g,0,none⟩) (3+ll) c::u8::.int .i64 x::Md::Me::Mf::Mg::Mh::Mi::Mj::Mk::Ml::Mm::Mn::Mo::Mp::Mq::Mr::Ms::Hz::Ia::Ib::Ic::Jc::Jd::Je::Id::Ie::Ig::Ih::Jf::Jg::Jh::Ji::Jj::Jk::Jl::Jm::Jn::Jo::Jp::Jq::Jr::Js::Ii::Ij::Ik::Il::Im::Io::Ip::Iq::Ir::It::Iu::Iv::Iw::Ix::Iy::Iz::Ja::Jb::.int .i64 6::Mt::Mu::Mv::Mw::Lr::Lt::Lu::Lv::Lw::Lx::Ly::Lz::Ma::Mb::Mx::My::Mz::Na::Nb::Nc::Nf::Ng::Nh::Ni::Nj::Nk::Nl::Nm::Nn::Np::Gc::Gd::Ge::Gf::Gg::Gh::Gi::Ds::Dt::Du::Dv::Dx::Dy::Dz::Ea::Eb::Gj::Gk::Gl::Gm::Gn::Gp::Gs::Gt::Gu::Gv::Gw::Gx::Gy::Gz::Ha::Hb::Hc::Hd::He::Hf::Hg::Hh::Hi::Hj::Hk::Hl::Hm::Hn::Ho::Hq::Hr::Hs::Ht::Hu::Hv::Hw::Fg::Fh::Fi::Fj::Fk::Fl::Fm::Fn::Fo::Fp::Fq::Hx::Hy::Ba::Bb::Bc::Bd::Be::Bf::Bg::Bh::Bi::Bj::Bk::Bl::Bm::Bn::Bo::Bp::Bq::Br::Bs::Bt::Bu::Bv::Bw::Bz::Ca::Ck::Cl::Cm::Cn::Co::Cp::Cq::Cr::Cs::Cb::Cc::Cd::Ce::Cf::Cg::Ch::Ci::Cj::[]),[]⟩ w9)) :
  Code.wp Tryz.prog Jaa Q ⟨List.toArray (.pointer (some ⟨N,0,none⟩)::u1::u2::.pointer (some ⟨H,0,none⟩)::u4::u5::u6::.slice (some ⟨g,0,none⟩) (3+ll) c::u8::.int .i64 x::Lb::Jt::Lc::Ju::Jv::Mc::Ld::Le::Jw::Jx::Jy::Jz::Kd::Ke::Lf::Lg::Hz::Ia::Ib::Ic::Jc::Jd::Je::Id::Ie::Ig::Ih::Jf::Jg::Jh::Ji::Jj::Jk::Jl::Jm::Jn::Jo::Jp::Jq::Jr::Js::Ii::Ij::Ik::Il::Im::Io::Ip::Iq::Ir::It::Iu::Iv::Iw::Ix::Iy::Iz::Ja::Jb::.int .i64 6::Kf::Kg::Kh::Ki::Lh::Li::Lj::Lk::Ll::Lm::Ln::Lo::Lp::Lq::Kj::Kk::Km::Kn::Ko::Kp::Kr::Ks::Kt::Ku::Kv::Kw::Kx::Ky::Kz::La::Ct::Cu::Cv::Cw::Cx::Cy::Cz::Di::Dj::Dk::Dl::Dm::Dn::Do::Dp::Dq::Da::Db::Dc::Dd::De::Df::Dg::Dh::Ec::Ed::Ee::Ef::Eg::Eh::Ei::Ej::Ek::El::Em::En::Eo::Ep::Eq::Er::Es::Et::Eu::Ev::Ew::Ex::Ey::Ez::Fa::Fb::Fc::Fd::Fr::Fs::Ft::Fu::Fv::Fw::Fx::Fy::Fz::Ga::Gb::Fe::Ff::Ba::Bb::Bc::Bd::Be::Bf::Bg::Bh::Bi::Bj::Bk::Bl::Bm::Bn::Bo::Bp::Bq::Br::Bs::Bt::Bu::Bv::Bw::Bz::Ca::Ck::Cl::Cm::Cn::Co::Cp::Cq::Cr::Cs::Cb::Cc::Cd::Ce::Cf::Cg::Ch::Ci::Cj::[]),[]⟩ wr:=by
 conv=>arg 2;whnf
 obtain ⟨c0,c1,c2,c3,c4,c5,c6,c7⟩:=C6 D7.row
 have KC:=Jkl D7.hm.hr D7.sm x hx
 go_wp2_with fail
 refine KC.mono ?_
 rintro e w8 ⟨⟨u,b,t',rfl,HU,su,wl⟩,hbk⟩
 replace wl:Hid (b=true->t'.words.length=3200):=wl
 obtain ⟨q1,q2,q3,f1,f2,f3,rfl⟩:=HU.shape
 have DK:=D7.later hbk
 have alk:=C5 w8 (.cells #[.slice q1 t'.words.length f1,.slice q2 t'.roots.length f2,.int .i64 t'.old,.int .i64 t'.eden,.int .i64 t'.surv,.bool t'.flip,.int .i64 t'.hash,.slice q3 t'.kept.length f3] 30)
 have X9:XB w (w8.alloc (.cells #[.slice q1 t'.words.length f1,.slice q2 t'.roots.length f2,.int .i64 t'.old,.int .i64 t'.eden,.int .i64 t'.surv,.bool t'.flip,.int .i64 t'.hash,.slice q3 t'.kept.length f3] 30)) w8.heap.size t' q1 q2 q3 f1 f2 f3:=⟨I0 w8 #[.slice q1 t'.words.length f1,.slice q2 t'.roots.length f2,.int .i64 t'.old,.int .i64 t'.eden,.int .i64 t'.surv,.bool t'.flip,.int .i64 t'.hash,.slice q3 t'.kept.length f3] 30,(HU.low (C:=w.heap.size) D7.gr.size).later alk,su,Nat.lt_of_lt_of_le D7.hH (Nat.le_of_lt DK.row.lt)⟩
 have D9:=DK.later alk
 clear KC hbk HU DK alk c0 c1 c2 c3 c4 c5 c6 c7 D7
 cases b
 ·go_wp2
  exact hQ.out _ _ _ _ _ _ _ _ _ _ _ _ _ _ _ _ _ _ _ _ _ _ _ _ _ _ _ _ _ _ _ _ _ _ _ _ _ _ _ _ _ _ _ _ _ _ _ _ _ _ _ _ _ _ _ _ _ _ _ _ _ _ _ _ _ _ _ _ _ _ _ _ _ _ _ _ _ _ _ _ _ _ _ _ _ _ _ _ _ _ _ _ _ _ _ _ _ _ _ _ _ _ _ _ _ _ _ _ _ _ _ _ _ _ _ _ _ _ _ D9
 ·obtain ⟨x0,x1,x2,x3,x4,x5,x6,x7⟩:=C6 X9.row
  have OKC:(#[.slice q1 t'.words.length f1,.slice q2 t'.roots.length f2,.int .i64 t'.old,.int .i64 t'.eden,.int .i64 t'.surv,.bool t'.flip,.int .i64 t'.hash,.slice q3 t'.kept.length f3]:Array Value).all (·.oneCell')=true:=by simp [Value.oneCell']
  go_wp2_with ((with_reducible refine C9 _ ?_ (.tmp 3) (.tmp 127) 30 ?_ 30 H 8 #[.slice q1 t'.words.length f1,.slice q2 t'.roots.length f2,.int .i64 t'.old,.int .i64 t'.eden,.int .i64 t'.surv,.bool t'.flip,.int .i64 t'.hash,.slice q3 t'.kept.length f3] _ ?_ ?_ D9.row ?_ ?_ OKC ?_);rfl;rfl;rfl;rfl;rfl;kernel_rfl;intro wA F9 G9)
  have DA:=D9.take X9.hm X9.sm (wl.out (by simp)) G9 F9
  clear F9 G9 OKC x0 x1 x2 x3 x4 x5 x6 x7 X9 D9
  go_wp2
  exact hQ.out _ _ _ _ _ _ _ _ _ _ _ _ _ _ _ _ _ _ _ _ _ _ _ _ _ _ _ _ _ _ _ _ _ _ _ _ _ _ _ _ _ _ _ _ _ _ _ _ _ _ _ _ _ _ _ _ _ _ _ _ _ _ _ _ _ _ _ _ _ _ _ _ _ _ _ _ _ _ _ _ _ _ _ _ _ _ _ _ _ _ _ _ _ _ _ _ _ _ _ _ _ _ _ _ _ _ _ _ _ _ _ _ _ _ _ _ _ _ _ DA
set_option maxRecDepth 1000000 in
set_option maxHeartbeats 6400000 in
theorem sw7 {w wr:World} {N:Nat} {cv:Value} {cs:List UInt8} {H gQ:Nat} {t:Hp} {p1 p2 p3:Option Addr} {e1 e2 e3:Nat} {x:Int} {g c ll:Nat} {m:List Int} (_hll:ll<=3200) (_RM7:RI wr g m c) (_hml:Hid (m.length=3+ll)) (_hin:Hid (∀ x,x ∈ m->N8 x)) (_nN:some g ≠ some N) (_hx:N8 x) (_hN:N<w.heap.size) (D7:LD w N cv cs H gQ wr t p1 p2 p3 e1 e2 e3) {Q:Exit->Act->World->Prop} (u1 u2 u4 u5 u6 u8 Lb Jt Lc Ju Jv Mc Ld Le Jw Jx Jy Jz Kd Ke Lf Lg Hz Ia Ib Ic Jc Jd Je Id Ie Ig Ih Jf Jg Jh Ji Jj Jk Jl Jm Jn Jo Jp Jq Jr Js Ii Ij Ik Il Im Io Ip Iq Ir It Iu Iv Iw Ix Iy Iz Ja Jb Kf Kg Kh Ki Lh Li Lj Lk Ll Lm Ln Lo Lp Lq Kj Kk Km Kn Ko Kp Kr Ks Kt Ku Kv Kw Kx Ky Kz La Ct Cu Cv Cw Cx Cy Cz Di Dj Dk Dl Dm Dn Do Dp Dq Da Db Dc Dd De Df Dg Dh Ec Ed Ee Ef Eg Eh Ei Ej Ek El Em En Eo Ep Eq Er Es Et Eu Ev Ew Ex Ey Ez Fa Fb Fc Fd Fr Fs Ft Fu Fv Fw Fx Fy Fz Ga Gb Fe Ff Ba Bb Bc Bd Be Bf Bg Bh Bi Bj Bk Bl Bm Bn Bo Bp Bq Br Bs Bt Bu Bv Bw Bz Ca Ck Cl Cm Cn Co Cp Cq Cr Cs Cb Cc Cd Ce Cf Cg Ch Ci Cj:Value)
  (hQ:Hid (∀ (t:Hp) (p1 p2 p3:Option Addr) (e1 e2 e3:Nat) (w9:World) (Md Me Mf Mg Mh Mi Mj Mk Ml Mm Mn Mo Mp Mq Mr Ms Mt Mu Mv Mw Lr Lt Lu Lv Lw Lx Ly Lz Ma Mb Mx My Mz Na Nb Nc Nf Ng Nh Ni Nj Nk Nl Nm Nn Np Gc Gd Ge Gf Gg Gh Gi Ds Dt Du Dv Dx Dy Dz Ea Eb Gj Gk Gl Gm Gn Gp Gs Gt Gu Gv Gw Gx Gy Gz Ha Hb Hc Hd He Hf Hg Hh Hi Hj Hk Hl Hm Hn Ho Hq Hr Hs Ht Hu Hv Hw Fg Fh Fi Fj Fk Fl Fm Fn Fo Fp Fq Hx Hy:Value),LD w N cv cs H gQ w9 t p1 p2 p3 e1 e2 e3->Q .normal ⟨List.toArray (.pointer (some ⟨N,0,none⟩)::u1::u2::.pointer (some ⟨H,0,none⟩)::u4::u5::u6::.slice (some ⟨g,0,none⟩) (3+ll) c::u8::.int .i64 x::Md::Me::Mf::Mg::Mh::Mi::Mj::Mk::Ml::Mm::Mn::Mo::Mp::Mq::Mr::Ms::Hz::Ia::Ib::Ic::Jc::Jd::Je::Id::Ie::Ig::Ih::Jf::Jg::Jh::Ji::Jj::Jk::Jl::Jm::Jn::Jo::Jp::Jq::Jr::Js::Ii::Ij::Ik::Il::Im::Io::Ip::Iq::Ir::It::Iu::Iv::Iw::Ix::Iy::Iz::Ja::Jb::.int .i64 7::Mt::Mu::Mv::Mw::Lr::Lt::Lu::Lv::Lw::Lx::Ly::Lz::Ma::Mb::Mx::My::Mz::Na::Nb::Nc::Nf::Ng::Nh::Ni::Nj::Nk::Nl::Nm::Nn::Np::Gc::Gd::Ge::Gf::Gg::Gh::Gi::Ds::Dt::Du::Dv::Dx::Dy::Dz::Ea::Eb::Gj::Gk::Gl::Gm::Gn::Gp::Gs::Gt::Gu::Gv::Gw::Gx::Gy::Gz::Ha::Hb::Hc::Hd::He::Hf::Hg::Hh::Hi::Hj::Hk::Hl::Hm::Hn::Ho::Hq::Hr::Hs::Ht::Hu::Hv::Hw::Fg::Fh::Fi::Fj::Fk::Fl::Fm::Fn::Fo::Fp::Fq::Hx::Hy::Ba::Bb::Bc::Bd::Be::Bf::Bg::Bh::Bi::Bj::Bk::Bl::Bm::Bn::Bo::Bp::Bq::Br::Bs::Bt::Bu::Bv::Bw::Bz::Ca::Ck::Cl::Cm::Cn::Co::Cp::Cq::Cr::Cs::Cb::Cc::Cd::Ce::Cf::Cg::Ch::Ci::Cj::[]),[]⟩ w9)) :
  Code.wp Tryz.prog Jaa Q ⟨List.toArray (.pointer (some ⟨N,0,none⟩)::u1::u2::.pointer (some ⟨H,0,none⟩)::u4::u5::u6::.slice (some ⟨g,0,none⟩) (3+ll) c::u8::.int .i64 x::Lb::Jt::Lc::Ju::Jv::Mc::Ld::Le::Jw::Jx::Jy::Jz::Kd::Ke::Lf::Lg::Hz::Ia::Ib::Ic::Jc::Jd::Je::Id::Ie::Ig::Ih::Jf::Jg::Jh::Ji::Jj::Jk::Jl::Jm::Jn::Jo::Jp::Jq::Jr::Js::Ii::Ij::Ik::Il::Im::Io::Ip::Iq::Ir::It::Iu::Iv::Iw::Ix::Iy::Iz::Ja::Jb::.int .i64 7::Kf::Kg::Kh::Ki::Lh::Li::Lj::Lk::Ll::Lm::Ln::Lo::Lp::Lq::Kj::Kk::Km::Kn::Ko::Kp::Kr::Ks::Kt::Ku::Kv::Kw::Kx::Ky::Kz::La::Ct::Cu::Cv::Cw::Cx::Cy::Cz::Di::Dj::Dk::Dl::Dm::Dn::Do::Dp::Dq::Da::Db::Dc::Dd::De::Df::Dg::Dh::Ec::Ed::Ee::Ef::Eg::Eh::Ei::Ej::Ek::El::Em::En::Eo::Ep::Eq::Er::Es::Et::Eu::Ev::Ew::Ex::Ey::Ez::Fa::Fb::Fc::Fd::Fr::Fs::Ft::Fu::Fv::Fw::Fx::Fy::Fz::Ga::Gb::Fe::Ff::Ba::Bb::Bc::Bd::Be::Bf::Bg::Bh::Bi::Bj::Bk::Bl::Bm::Bn::Bo::Bp::Bq::Br::Bs::Bt::Bu::Bv::Bw::Bz::Ca::Ck::Cl::Cm::Cn::Co::Cp::Cq::Cr::Cs::Cb::Cc::Cd::Ce::Cf::Cg::Ch::Ci::Cj::[]),[]⟩ wr:=by
 conv=>arg 2;whnf
 obtain ⟨c0,c1,c2,c3,c4,c5,c6,c7⟩:=C6 D7.row
 have KC:=Jng D7.hm.hr D7.sm
 go_wp2_with fail
 refine KC.mono ?_
 rintro e w8 ⟨⟨u,b,t',rfl,HU,su,wl⟩,hbk⟩
 replace wl:Hid (b=true->t'.words.length=3200):=wl
 obtain ⟨q1,q2,q3,f1,f2,f3,rfl⟩:=HU.shape
 have DK:=D7.later hbk
 have alk:=C5 w8 (.cells #[.slice q1 t'.words.length f1,.slice q2 t'.roots.length f2,.int .i64 t'.old,.int .i64 t'.eden,.int .i64 t'.surv,.bool t'.flip,.int .i64 t'.hash,.slice q3 t'.kept.length f3] 30)
 have X9:XB w (w8.alloc (.cells #[.slice q1 t'.words.length f1,.slice q2 t'.roots.length f2,.int .i64 t'.old,.int .i64 t'.eden,.int .i64 t'.surv,.bool t'.flip,.int .i64 t'.hash,.slice q3 t'.kept.length f3] 30)) w8.heap.size t' q1 q2 q3 f1 f2 f3:=⟨I0 w8 #[.slice q1 t'.words.length f1,.slice q2 t'.roots.length f2,.int .i64 t'.old,.int .i64 t'.eden,.int .i64 t'.surv,.bool t'.flip,.int .i64 t'.hash,.slice q3 t'.kept.length f3] 30,(HU.low (C:=w.heap.size) D7.gr.size).later alk,su,Nat.lt_of_lt_of_le D7.hH (Nat.le_of_lt DK.row.lt)⟩
 have D9:=DK.later alk
 clear KC hbk HU DK alk c0 c1 c2 c3 c4 c5 c6 c7 D7
 cases b
 ·go_wp2
  exact hQ.out _ _ _ _ _ _ _ _ _ _ _ _ _ _ _ _ _ _ _ _ _ _ _ _ _ _ _ _ _ _ _ _ _ _ _ _ _ _ _ _ _ _ _ _ _ _ _ _ _ _ _ _ _ _ _ _ _ _ _ _ _ _ _ _ _ _ _ _ _ _ _ _ _ _ _ _ _ _ _ _ _ _ _ _ _ _ _ _ _ _ _ _ _ _ _ _ _ _ _ _ _ _ _ _ _ _ _ _ _ _ _ _ _ _ _ _ _ _ _ D9
 ·obtain ⟨x0,x1,x2,x3,x4,x5,x6,x7⟩:=C6 X9.row
  have OKC:(#[.slice q1 t'.words.length f1,.slice q2 t'.roots.length f2,.int .i64 t'.old,.int .i64 t'.eden,.int .i64 t'.surv,.bool t'.flip,.int .i64 t'.hash,.slice q3 t'.kept.length f3]:Array Value).all (·.oneCell')=true:=by simp [Value.oneCell']
  go_wp2_with ((with_reducible refine C9 _ ?_ (.tmp 3) (.tmp 136) 30 ?_ 30 H 8 #[.slice q1 t'.words.length f1,.slice q2 t'.roots.length f2,.int .i64 t'.old,.int .i64 t'.eden,.int .i64 t'.surv,.bool t'.flip,.int .i64 t'.hash,.slice q3 t'.kept.length f3] _ ?_ ?_ D9.row ?_ ?_ OKC ?_);rfl;rfl;rfl;rfl;rfl;kernel_rfl;intro wA F9 G9)
  have DA:=D9.take X9.hm X9.sm (wl.out (by simp)) G9 F9
  clear F9 G9 OKC x0 x1 x2 x3 x4 x5 x6 x7 X9 D9
  go_wp2
  exact hQ.out _ _ _ _ _ _ _ _ _ _ _ _ _ _ _ _ _ _ _ _ _ _ _ _ _ _ _ _ _ _ _ _ _ _ _ _ _ _ _ _ _ _ _ _ _ _ _ _ _ _ _ _ _ _ _ _ _ _ _ _ _ _ _ _ _ _ _ _ _ _ _ _ _ _ _ _ _ _ _ _ _ _ _ _ _ _ _ _ _ _ _ _ _ _ _ _ _ _ _ _ _ _ _ _ _ _ _ _ _ _ _ _ _ _ _ _ _ _ _ DA
set_option maxRecDepth 1000000 in
set_option maxHeartbeats 6400000 in
theorem sw8 {w wr:World} {N:Nat} {cv:Value} {cs:List UInt8} {H gQ:Nat} {t:Hp} {p1 p2 p3:Option Addr} {e1 e2 e3:Nat} {x:Int} {g c ll:Nat} {m:List Int} (_hll:ll<=3200) (_RM7:RI wr g m c) (_hml:Hid (m.length=3+ll)) (_hin:Hid (∀ x,x ∈ m->N8 x)) (_nN:some g ≠ some N) (hx:N8 x) (hN:N<w.heap.size) (D7:LD w N cv cs H gQ wr t p1 p2 p3 e1 e2 e3) {Q:Exit->Act->World->Prop} (u1 u2 u4 u5 u6 u8 Lb Jt Lc Ju Jv Mc Ld Le Jw Jx Jy Jz Kd Ke Lf Lg Hz Ia Ib Ic Jc Jd Je Id Ie Ig Ih Jf Jg Jh Ji Jj Jk Jl Jm Jn Jo Jp Jq Jr Js Ii Ij Ik Il Im Io Ip Iq Ir It Iu Iv Iw Ix Iy Iz Ja Jb Kf Kg Kh Ki Lh Li Lj Lk Ll Lm Ln Lo Lp Lq Kj Kk Km Kn Ko Kp Kr Ks Kt Ku Kv Kw Kx Ky Kz La Ct Cu Cv Cw Cx Cy Cz Di Dj Dk Dl Dm Dn Do Dp Dq Da Db Dc Dd De Df Dg Dh Ec Ed Ee Ef Eg Eh Ei Ej Ek El Em En Eo Ep Eq Er Es Et Eu Ev Ew Ex Ey Ez Fa Fb Fc Fd Fr Fs Ft Fu Fv Fw Fx Fy Fz Ga Gb Fe Ff Ba Bb Bc Bd Be Bf Bg Bh Bi Bj Bk Bl Bm Bn Bo Bp Bq Br Bs Bt Bu Bv Bw Bz Ca Ck Cl Cm Cn Co Cp Cq Cr Cs Cb Cc Cd Ce Cf Cg Ch Ci Cj:Value)
  (hQ:Hid (∀ (t:Hp) (p1 p2 p3:Option Addr) (e1 e2 e3:Nat) (w9:World) (Md Me Mf Mg Mh Mi Mj Mk Ml Mm Mn Mo Mp Mq Mr Ms Mt Mu Mv Mw Lr Lt Lu Lv Lw Lx Ly Lz Ma Mb Mx My Mz Na Nb Nc Nf Ng Nh Ni Nj Nk Nl Nm Nn Np Gc Gd Ge Gf Gg Gh Gi Ds Dt Du Dv Dx Dy Dz Ea Eb Gj Gk Gl Gm Gn Gp Gs Gt Gu Gv Gw Gx Gy Gz Ha Hb Hc Hd He Hf Hg Hh Hi Hj Hk Hl Hm Hn Ho Hq Hr Hs Ht Hu Hv Hw Fg Fh Fi Fj Fk Fl Fm Fn Fo Fp Fq Hx Hy:Value),LD w N cv cs H gQ w9 t p1 p2 p3 e1 e2 e3->Q .normal ⟨List.toArray (.pointer (some ⟨N,0,none⟩)::u1::u2::.pointer (some ⟨H,0,none⟩)::u4::u5::u6::.slice (some ⟨g,0,none⟩) (3+ll) c::u8::.int .i64 x::Md::Me::Mf::Mg::Mh::Mi::Mj::Mk::Ml::Mm::Mn::Mo::Mp::Mq::Mr::Ms::Hz::Ia::Ib::Ic::Jc::Jd::Je::Id::Ie::Ig::Ih::Jf::Jg::Jh::Ji::Jj::Jk::Jl::Jm::Jn::Jo::Jp::Jq::Jr::Js::Ii::Ij::Ik::Il::Im::Io::Ip::Iq::Ir::It::Iu::Iv::Iw::Ix::Iy::Iz::Ja::Jb::.int .i64 8::Mt::Mu::Mv::Mw::Lr::Lt::Lu::Lv::Lw::Lx::Ly::Lz::Ma::Mb::Mx::My::Mz::Na::Nb::Nc::Nf::Ng::Nh::Ni::Nj::Nk::Nl::Nm::Nn::Np::Gc::Gd::Ge::Gf::Gg::Gh::Gi::Ds::Dt::Du::Dv::Dx::Dy::Dz::Ea::Eb::Gj::Gk::Gl::Gm::Gn::Gp::Gs::Gt::Gu::Gv::Gw::Gx::Gy::Gz::Ha::Hb::Hc::Hd::He::Hf::Hg::Hh::Hi::Hj::Hk::Hl::Hm::Hn::Ho::Hq::Hr::Hs::Ht::Hu::Hv::Hw::Fg::Fh::Fi::Fj::Fk::Fl::Fm::Fn::Fo::Fp::Fq::Hx::Hy::Ba::Bb::Bc::Bd::Be::Bf::Bg::Bh::Bi::Bj::Bk::Bl::Bm::Bn::Bo::Bp::Bq::Br::Bs::Bt::Bu::Bv::Bw::Bz::Ca::Ck::Cl::Cm::Cn::Co::Cp::Cq::Cr::Cs::Cb::Cc::Cd::Ce::Cf::Cg::Ch::Ci::Cj::[]),[]⟩ w9)) :
  Code.wp Tryz.prog Jaa Q ⟨List.toArray (.pointer (some ⟨N,0,none⟩)::u1::u2::.pointer (some ⟨H,0,none⟩)::u4::u5::u6::.slice (some ⟨g,0,none⟩) (3+ll) c::u8::.int .i64 x::Lb::Jt::Lc::Ju::Jv::Mc::Ld::Le::Jw::Jx::Jy::Jz::Kd::Ke::Lf::Lg::Hz::Ia::Ib::Ic::Jc::Jd::Je::Id::Ie::Ig::Ih::Jf::Jg::Jh::Ji::Jj::Jk::Jl::Jm::Jn::Jo::Jp::Jq::Jr::Js::Ii::Ij::Ik::Il::Im::Io::Ip::Iq::Ir::It::Iu::Iv::Iw::Ix::Iy::Iz::Ja::Jb::.int .i64 8::Kf::Kg::Kh::Ki::Lh::Li::Lj::Lk::Ll::Lm::Ln::Lo::Lp::Lq::Kj::Kk::Km::Kn::Ko::Kp::Kr::Ks::Kt::Ku::Kv::Kw::Kx::Ky::Kz::La::Ct::Cu::Cv::Cw::Cx::Cy::Cz::Di::Dj::Dk::Dl::Dm::Dn::Do::Dp::Dq::Da::Db::Dc::Dd::De::Df::Dg::Dh::Ec::Ed::Ee::Ef::Eg::Eh::Ei::Ej::Ek::El::Em::En::Eo::Ep::Eq::Er::Es::Et::Eu::Ev::Ew::Ex::Ey::Ez::Fa::Fb::Fc::Fd::Fr::Fs::Ft::Fu::Fv::Fw::Fx::Fy::Fz::Ga::Gb::Fe::Ff::Ba::Bb::Bc::Bd::Be::Bf::Bg::Bh::Bi::Bj::Bk::Bl::Bm::Bn::Bo::Bp::Bq::Br::Bs::Bt::Bu::Bv::Bw::Bz::Ca::Ck::Cl::Cm::Cn::Co::Cp::Cq::Cr::Cs::Cb::Cc::Cd::Ce::Cf::Cg::Ch::Ci::Cj::[]),[]⟩ wr:=by
 conv=>arg 2;whnf
 have BO:=D7.dw.once 3 (by omega) (by omega)
 go_wp2_with fail
 refine BO.mono ?_
 rintro x wO ⟨⟨bo,rfl⟩,go,dO⟩
 have D8:=D7.step ⟨go,dO⟩
 clear BO go dO D7
 cases bo
 ·have tr20:=D8.sm.2.1
  have c1:=(C6 D8.row).2.1
  by_cases hr0:0<t.roots.length
  ·have hr1:(0:Int)<(t.roots.length:Int):=by omega
   go_wp2_with fail
   refine Jmw hx hr0 hN D8 _ _ _ _ _ _ _ _ _ _ _ _ _ _ _ _ _ _ _ _ _ _ _ _ _ _ _ _ _ _ _ _ _ _ _ _ _ _ _ _ _ _ _ _ _ _ _ _ _ _ _ _ _ _ _ _ _ _ _ _ _ _ _ _ _ _ _ _ _ _ _ _ _ _ _ _ _ _ _ _ _ _ _ _ _ _ _ _ _ _ _ _ _ _ _ _ _ _ _ _ _ _ _ _ _ _ _ _ _ _ _ _ _ _ _ _ _ _ _ _ _ _ _ _ _ _ _ _ _ _ _ _ _ _ _ _ _ _ _ _ _ _ _ _ _ _ _ _ _ _ _ _ _ _ _ _ _ _ _ _ _ _ _ _ _ _ _ _ _ _ _ _ _ _ _ _ _ _ _ _ _ _ _ _ _ _ _ _ _ _ _ _ _ _ _ _ _ _ _ _ _ _ _ _ _ ?_
   intro SB t' q1 q2 q3 f1 f2 f3 b w8 Fg Fh Fi Fj Fk Fl Fm Fn Fo Fp Fq D9 X9 wl
   clear D8 c1
   cases b
   ·go_wp2
    exact hQ.out _ _ _ _ _ _ _ _ _ _ _ _ _ _ _ _ _ _ _ _ _ _ _ _ _ _ _ _ _ _ _ _ _ _ _ _ _ _ _ _ _ _ _ _ _ _ _ _ _ _ _ _ _ _ _ _ _ _ _ _ _ _ _ _ _ _ _ _ _ _ _ _ _ _ _ _ _ _ _ _ _ _ _ _ _ _ _ _ _ _ _ _ _ _ _ _ _ _ _ _ _ _ _ _ _ _ _ _ _ _ _ _ _ _ _ _ _ _ _ D9
   ·obtain ⟨x0,x1,x2,x3,x4,x5,x6,x7⟩:=C6 X9.row
    have OKC:(#[.slice q1 t'.words.length f1,.slice q2 t'.roots.length f2,.int .i64 t'.old,.int .i64 t'.eden,.int .i64 t'.surv,.bool t'.flip,.int .i64 t'.hash,.slice q3 t'.kept.length f3]:Array Value).all (·.oneCell')=true:=by simp [Value.oneCell']
    go_wp2_with ((with_reducible refine C9 _ ?_ (.tmp 3) (.tmp 164) 30 ?_ 30 H 8 #[.slice q1 t'.words.length f1,.slice q2 t'.roots.length f2,.int .i64 t'.old,.int .i64 t'.eden,.int .i64 t'.surv,.bool t'.flip,.int .i64 t'.hash,.slice q3 t'.kept.length f3] _ ?_ ?_ D9.row ?_ ?_ OKC ?_);rfl;rfl;rfl;rfl;rfl;kernel_rfl;intro wA F9 G9)
    have DA:=D9.take X9.hm X9.sm (wl.out (by simp)) G9 F9
    clear F9 G9 OKC x0 x1 x2 x3 x4 x5 x6 x7 X9 D9
    go_wp2
    exact hQ.out _ _ _ _ _ _ _ _ _ _ _ _ _ _ _ _ _ _ _ _ _ _ _ _ _ _ _ _ _ _ _ _ _ _ _ _ _ _ _ _ _ _ _ _ _ _ _ _ _ _ _ _ _ _ _ _ _ _ _ _ _ _ _ _ _ _ _ _ _ _ _ _ _ _ _ _ _ _ _ _ _ _ _ _ _ _ _ _ _ _ _ _ _ _ _ _ _ _ _ _ _ _ _ _ _ _ _ _ _ _ _ _ _ _ _ _ _ _ _ DA
  ·have hr1:¬ (0:Int)<(t.roots.length:Int):=by omega
   go_wp2
   exact hQ.out _ _ _ _ _ _ _ _ _ _ _ _ _ _ _ _ _ _ _ _ _ _ _ _ _ _ _ _ _ _ _ _ _ _ _ _ _ _ _ _ _ _ _ _ _ _ _ _ _ _ _ _ _ _ _ _ _ _ _ _ _ _ _ _ _ _ _ _ _ _ _ _ _ _ _ _ _ _ _ _ _ _ _ _ _ _ _ _ _ _ _ _ _ _ _ _ _ _ _ _ _ _ _ _ _ _ _ _ _ _ _ _ _ _ _ _ _ _ _ D8
 ·obtain ⟨c0,c1,c2,c3,c4,c5,c6,c7⟩:=C6 D8.row
  have KC:=Jne D8.hm.hr D8.sm
  go_wp2_with fail
  refine KC.mono ?_
  rintro e w8 ⟨⟨u,b,t',rfl,HU,su,wl⟩,hbk⟩
  replace wl:Hid (b=true->t'.words.length=3200):=wl
  obtain ⟨q1,q2,q3,f1,f2,f3,rfl⟩:=HU.shape
  have DK:=D8.later hbk
  have alk:=C5 w8 (.cells #[.slice q1 t'.words.length f1,.slice q2 t'.roots.length f2,.int .i64 t'.old,.int .i64 t'.eden,.int .i64 t'.surv,.bool t'.flip,.int .i64 t'.hash,.slice q3 t'.kept.length f3] 30)
  have X9:XB w (w8.alloc (.cells #[.slice q1 t'.words.length f1,.slice q2 t'.roots.length f2,.int .i64 t'.old,.int .i64 t'.eden,.int .i64 t'.surv,.bool t'.flip,.int .i64 t'.hash,.slice q3 t'.kept.length f3] 30)) w8.heap.size t' q1 q2 q3 f1 f2 f3:=⟨I0 w8 #[.slice q1 t'.words.length f1,.slice q2 t'.roots.length f2,.int .i64 t'.old,.int .i64 t'.eden,.int .i64 t'.surv,.bool t'.flip,.int .i64 t'.hash,.slice q3 t'.kept.length f3] 30,(HU.low (C:=w.heap.size) D8.gr.size).later alk,su,Nat.lt_of_lt_of_le D8.hH (Nat.le_of_lt DK.row.lt)⟩
  have D9:=DK.later alk
  clear KC hbk HU DK alk c0 c1 c2 c3 c4 c5 c6 c7 D8
  cases b
  ·go_wp2
   exact hQ.out _ _ _ _ _ _ _ _ _ _ _ _ _ _ _ _ _ _ _ _ _ _ _ _ _ _ _ _ _ _ _ _ _ _ _ _ _ _ _ _ _ _ _ _ _ _ _ _ _ _ _ _ _ _ _ _ _ _ _ _ _ _ _ _ _ _ _ _ _ _ _ _ _ _ _ _ _ _ _ _ _ _ _ _ _ _ _ _ _ _ _ _ _ _ _ _ _ _ _ _ _ _ _ _ _ _ _ _ _ _ _ _ _ _ _ _ _ _ _ D9
  ·obtain ⟨x0,x1,x2,x3,x4,x5,x6,x7⟩:=C6 X9.row
   have OKC:(#[.slice q1 t'.words.length f1,.slice q2 t'.roots.length f2,.int .i64 t'.old,.int .i64 t'.eden,.int .i64 t'.surv,.bool t'.flip,.int .i64 t'.hash,.slice q3 t'.kept.length f3]:Array Value).all (·.oneCell')=true:=by simp [Value.oneCell']
   go_wp2_with ((with_reducible refine C9 _ ?_ (.tmp 3) (.tmp 147) 30 ?_ 30 H 8 #[.slice q1 t'.words.length f1,.slice q2 t'.roots.length f2,.int .i64 t'.old,.int .i64 t'.eden,.int .i64 t'.surv,.bool t'.flip,.int .i64 t'.hash,.slice q3 t'.kept.length f3] _ ?_ ?_ D9.row ?_ ?_ OKC ?_);rfl;rfl;rfl;rfl;rfl;kernel_rfl;intro wA F9 G9)
   have DA:=D9.take X9.hm X9.sm (wl.out (by simp)) G9 F9
   clear F9 G9 OKC x0 x1 x2 x3 x4 x5 x6 x7 X9 D9
   go_wp2
   exact hQ.out _ _ _ _ _ _ _ _ _ _ _ _ _ _ _ _ _ _ _ _ _ _ _ _ _ _ _ _ _ _ _ _ _ _ _ _ _ _ _ _ _ _ _ _ _ _ _ _ _ _ _ _ _ _ _ _ _ _ _ _ _ _ _ _ _ _ _ _ _ _ _ _ _ _ _ _ _ _ _ _ _ _ _ _ _ _ _ _ _ _ _ _ _ _ _ _ _ _ _ _ _ _ _ _ _ _ _ _ _ _ _ _ _ _ _ _ _ _ _ DA
end Go.Proofs.YtboiknllmnfipaaGreatDoor
/- The draw of a heap: its region 56. -/
namespace Go.Proofs.YtboiknllmnfipaaGreatDoor
open Go.RowKit
noncomputable def Jnr:Code:=((Tryz.f57.body.bind (Sq 56)).getD .skip)
set_option maxRecDepth 1000000 in
set_option maxHeartbeats 6400000 in
theorem Jlk {w wr:World} {N:Nat} {cv:Value} {cs:List UInt8} {H gQ:Nat} {t:Hp} {p1 p2 p3:Option Addr} {e1 e2 e3:Nat}  (hN:N<w.heap.size) (D:LD w N cv cs H gQ wr t p1 p2 p3 e1 e2 e3) {Q:Exit->Act->World->Prop} (u1 u2 u4 u5 u6 u7 u8 u9 Lb Jt Lc Ju Jv Mc Ld Le Jw Jx Jy Jz Kd Ke Lf Lg Hz Ia Ib Ic Jc Jd Je Id Ie Ig Ih Jf Jg Jh Ji Jj Jk Jl Jm Jn Jo Jp Jq Jr Js Ii Ij Ik Il Im Io Ip Iq Ir It Iu Iv Iw Ix Iy Iz Ja Jb Nq Kf Kg Kh Ki Lh Li Lj Lk Ll Lm Ln Lo Lp Lq Kj Kk Km Kn Ko Kp Kr Ks Kt Ku Kv Kw Kx Ky Kz La Ct Cu Cv Cw Cx Cy Cz Di Dj Dk Dl Dm Dn Do Dp Dq Da Db Dc Dd De Df Dg Dh Ec Ed Ee Ef Eg Eh Ei Ej Ek El Em En Eo Ep Eq Er Es Et Eu Ev Ew Ex Ey Ez Fa Fb Fc Fd Fr Fs Ft Fu Fv Fw Fx Fy Fz Ga Gb Fe Ff Ba Bb Bc Bd Be Bf Bg Bh Bi Bj Bk Bl Bm Bn Bo Bp Bq Br Bs Bt Bu Bv Bw Bz Ca Ck Cl Cm Cn Co Cp Cq Cr Cs Cb Cc Cd Ce Cf Cg Ch Ci Cj:Value)
  (hQ:∀ (SB:Nat) (t' : Hp) (q1 q2 q3:Option Addr) (f1 f2 f3:Nat) (r:Int) (b:Bool) (w9:World) (Nr Ns Nt Nu Nv Nw Nx Ny Nz:Value),LD w N cv cs H gQ w9 t p1 p2 p3 e1 e2 e3->XB w w9 SB t' q1 q2 q3 f1 f2 f3->N8 r->Hid (b=true->t'.words.length=3200)->Hid (b=true->t.roots.length<20->Pu t' r=true)->Q .normal ⟨List.toArray (.pointer (some ⟨N,0,none⟩)::u1::u2::.pointer (some ⟨H,0,none⟩)::u4::u5::u6::u7::u8::u9::Lb::Jt::Lc::Ju::Jv::Mc::Ld::Le::Jw::Jx::Jy::Jz::Kd::Ke::Lf::Lg::Hz::Ia::Ib::Ic::.pointer (some ⟨SB,0,none⟩)::.int .i64 r::.bool b::Id::Ie::Ig::Ih::Jf::Jg::Jh::Ji::Jj::Jk::Jl::Jm::Jn::Jo::Jp::Jq::Jr::Js::Ii::Ij::Ik::Il::Im::Io::Ip::Iq::Ir::It::Iu::Iv::Iw::Ix::Iy::Iz::Ja::Jb::Nq::Kf::Kg::Kh::Ki::Lh::Li::Lj::Lk::Ll::Lm::Ln::Lo::Lp::Lq::Kj::Kk::Km::Kn::Ko::Kp::Kr::Ks::Kt::Ku::Kv::Kw::Kx::Ky::Kz::La::Ct::Cu::Cv::Cw::Cx::Cy::Cz::Di::Dj::Dk::Dl::Dm::Dn::Do::Dp::Dq::Da::Db::Dc::Dd::De::Df::Dg::Dh::Ec::Ed::Ee::Ef::Eg::Eh::Ei::Ej::Ek::El::Em::En::Eo::Ep::Eq::Er::Es::Et::Eu::Ev::Ew::Ex::Ey::Ez::Fa::Fb::Fc::Fd::Fr::Fs::Ft::Fu::Fv::Fw::Fx::Fy::Fz::Ga::Gb::Fe::Ff::Ba::Bb::Bc::Bd::Be::Bf::Bg::Bh::Bi::Bj::Bk::Bl::Bm::Bn::Bo::Bp::Bq::Br::Bs::Bt::Bu::Bv::Bw::Bz::Ca::Nr::Ns::Nt::Nu::Nv::Nw::Nx::Ny::Nz::Cb::Cc::Cd::Ce::Cf::Cg::Ch::Ci::Cj::[]),[]⟩ w9) :
  Code.wp Tryz.prog Jnr Q ⟨List.toArray (.pointer (some ⟨N,0,none⟩)::u1::u2::.pointer (some ⟨H,0,none⟩)::u4::u5::u6::u7::u8::u9::Lb::Jt::Lc::Ju::Jv::Mc::Ld::Le::Jw::Jx::Jy::Jz::Kd::Ke::Lf::Lg::Hz::Ia::Ib::Ic::Jc::Jd::Je::Id::Ie::Ig::Ih::Jf::Jg::Jh::Ji::Jj::Jk::Jl::Jm::Jn::Jo::Jp::Jq::Jr::Js::Ii::Ij::Ik::Il::Im::Io::Ip::Iq::Ir::It::Iu::Iv::Iw::Ix::Iy::Iz::Ja::Jb::Nq::Kf::Kg::Kh::Ki::Lh::Li::Lj::Lk::Ll::Lm::Ln::Lo::Lp::Lq::Kj::Kk::Km::Kn::Ko::Kp::Kr::Ks::Kt::Ku::Kv::Kw::Kx::Ky::Kz::La::Ct::Cu::Cv::Cw::Cx::Cy::Cz::Di::Dj::Dk::Dl::Dm::Dn::Do::Dp::Dq::Da::Db::Dc::Dd::De::Df::Dg::Dh::Ec::Ed::Ee::Ef::Eg::Eh::Ei::Ej::Ek::El::Em::En::Eo::Ep::Eq::Er::Es::Et::Eu::Ev::Ew::Ex::Ey::Ez::Fa::Fb::Fc::Fd::Fr::Fs::Ft::Fu::Fv::Fw::Fx::Fy::Fz::Ga::Gb::Fe::Ff::Ba::Bb::Bc::Bd::Be::Bf::Bg::Bh::Bi::Bj::Bk::Bl::Bm::Bn::Bo::Bp::Bq::Br::Bs::Bt::Bu::Bv::Bw::Bz::Ca::Ck::Cl::Cm::Cn::Co::Cp::Cq::Cr::Cs::Cb::Cc::Cd::Ce::Cf::Cg::Ch::Ci::Cj::[]),[]⟩ wr:=by
 conv=>arg 2;whnf
 have hmx:Tryz.prog.follows .mixedOrders=true:=by kernel_rfl
 have hNr:N<wr.heap.size:=Nat.lt_of_lt_of_le hN D.gr.size
 have hs0:Sx wr N cv cs wr.drew:=(Sx.refl D.dw).drew
 refine Disk.z_plain 99 (fun W'=>Sx wr N cv cs W') hmx hs0 (fun hs=>?_)
 clear hs0
 generalize wr.drew=wd at hs ⊢
 refine Disk.zt 0 191 (v:=.agg #[.slice p1 t.words.length e1,.slice p2 t.roots.length e2,.int .i64 t.old,.int .i64 t.eden,.int .i64 t.surv,.bool t.flip,.int .i64 t.hash,.slice p3 t.kept.length e3]) rfl rfl hs (fun W' hSw=>(by
  obtain ⟨s0,s1,s2,s3,s4,s5,s6,s7⟩:=C6 (D.step hSw).row
  go_simp;first|done|with_reducible rfl)) ?_
 simp only [zA,zB,zC]
 refine Disk.zt 1 192 (v:=.pointer (some ⟨N,0,none⟩)) rfl rfl hs (fun W' hSw=>(by
  obtain ⟨s0,s1,s2,s3,s4,s5,s6,s7⟩:=C6 (D.step hSw).row
  go_simp;first|done|with_reducible rfl)) ?_
 simp only [zA,zB,zC]
 refine Tv (i:=2) (j:=9) (by kernel_rfl) ?_ ?_
 ·refine Pq 2 193 rfl rfl (by rfl) (f:=59) (args:=#[.pointer (some ⟨N,0,none⟩),.int .i64 31]) (w0:=wd) (by go_simp) ?_
  refine (hs.2.less 31 (by omega) (by omega)).mono ?_
  rintro e v0 ⟨⟨za,rfl,zal,zau⟩,g0,d0⟩
  have hs0:=hs.trans ⟨g0,d0⟩
  refine ⟨_,rfl,.inr hs0,?_⟩
  simp only [zA,zB,zC]
  have w30:IntKind.i64.wrap (30+za)=30+za:=by rw [IntKind.wrap_i64];omega
  refine Disk.zt 3 194 (v:=.int .i64 (30+za)) rfl rfl hs0 (fun W' hSw=>(by
   obtain ⟨s0,s1,s2,s3,s4,s5,s6,s7⟩:=C6 (D.step hSw).row
   go_simp;first|done|with_reducible rfl)) ?_
  simp only [zA,zB,zC]
  refine Tv (i:=4) (j:=9) (by kernel_rfl) ?_ ?_
  ·refine Pq 4 195 rfl rfl (by rfl) (f:=68) (args:=#[.agg #[.slice p1 t.words.length e1,.slice p2 t.roots.length e2,.int .i64 t.old,.int .i64 t.eden,.int .i64 t.surv,.bool t.flip,.int .i64 t.hash,.slice p3 t.kept.length e3],.int .i64 6,.int .i64 (30+za)]) (w0:=v0) (by go_simp) ?_
   refine (Jcc (D.step hs0).hm.hr D.sm 6 (30+za)).mono ?_
   rintro e v1 ⟨⟨u,r,b,t',rfl,HU,su,inr,gr,wl,an⟩,b1⟩
   replace wl:Hid (b=true->t'.words.length=3200):=wl
   replace an:Hid (b=true->t.roots.length<20->Pu t' r=true):=an
   obtain ⟨q1,q2,q3,f1,f2,f3,rfl⟩:=HU.shape
   have hs1:=hs0.more b1 hNr
   have HV0:=HU.low (C:=w.heap.size) (Nat.le_trans D.gr.size hs0.1.size)
   refine ⟨_,rfl,.inr hs1,?_⟩
   simp only [zA,zB,zC]
   refine Disk.zt 5 190 (v:=.tuple #[.agg #[.slice q1 t'.words.length f1,.slice q2 t'.roots.length f2,.int .i64 t'.old,.int .i64 t'.eden,.int .i64 t'.surv,.bool t'.flip,.int .i64 t'.hash,.slice q3 t'.kept.length f3],.int .i64 r,.bool b]) rfl rfl hs1 (fun W' hSw=>(by
    obtain ⟨s0,s1,s2,s3,s4,s5,s6,s7⟩:=C6 (D.step hSw).row
    go_simp;first|done|with_reducible rfl)) ?_
   simp only [zA,zB,zC]
   refine Disk.zt 6 196 (v:=.agg #[.slice q1 t'.words.length f1,.slice q2 t'.roots.length f2,.int .i64 t'.old,.int .i64 t'.eden,.int .i64 t'.surv,.bool t'.flip,.int .i64 t'.hash,.slice q3 t'.kept.length f3]) rfl rfl hs1 (fun W' hSw=>(by
    obtain ⟨s0,s1,s2,s3,s4,s5,s6,s7⟩:=C6 (D.step hSw).row
    go_simp;first|done|with_reducible rfl)) ?_
   simp only [zA,zB,zC]
   refine Disk.zt 7 197 (v:=.int .i64 r) rfl rfl hs1 (fun W' hSw=>(by
    obtain ⟨s0,s1,s2,s3,s4,s5,s6,s7⟩:=C6 (D.step hSw).row
    go_simp;first|done|with_reducible rfl)) ?_
   simp only [zA,zB,zC]
   refine Disk.zt 8 198 (v:=.bool b) rfl rfl hs1 (fun W' hSw=>(by
    obtain ⟨s0,s1,s2,s3,s4,s5,s6,s7⟩:=C6 (D.step hSw).row
    go_simp;first|done|with_reducible rfl)) ?_
   simp only [zA,zB,zC]
   obtain ⟨wa,SB,ewa,eSB,hsA,⟨fA,FA⟩,lA,bA⟩:=Pi hs1 hNr
   refine Disk.z_run 9 30 (w':=wa) (v:=.pointer (some ⟨SB,0,none⟩)) rfl rfl (by kernel_rfl) (by rfl) (by subst ewa;subst eSB;go_simp) (.inr hsA) ?_
   simp only [zA,zB,zC]
   clear ewa eSB
   have HV1:=HV0.later bA
   have OKC:(#[.slice q1 t'.words.length f1,.slice q2 t'.roots.length f2,.int .i64 t'.old,.int .i64 t'.eden,.int .i64 t'.surv,.bool t'.flip,.int .i64 t'.hash,.slice q3 t'.kept.length f3]:Array Value).all (·.oneCell')=true:=by simp [Value.oneCell']
   have RUN:=J1 wa 30 30 SB 8 #[.slice q1 t'.words.length f1,.slice q2 t'.roots.length f2,.int .i64 t'.old,.int .i64 t'.eden,.int .i64 t'.surv,.bool t'.flip,.int .i64 t'.hash,.slice q3 t'.kept.length f3] fA FA rfl (by kernel_rfl) OKC
   have G9:=I6 wa SB #[.slice q1 t'.words.length f1,.slice q2 t'.roots.length f2,.int .i64 t'.old,.int .i64 t'.eden,.int .i64 t'.surv,.bool t'.flip,.int .i64 t'.hash,.slice q3 t'.kept.length f3]
   have F9:=Ol wa SB 30 8 #[.slice q1 t'.words.length f1,.slice q2 t'.roots.length f2,.int .i64 t'.old,.int .i64 t'.eden,.int .i64 t'.surv,.bool t'.flip,.int .i64 t'.hash,.slice q3 t'.kept.length f3] fA FA rfl
   have hs9:=Sx.put D.dw hsA G9 lA hNr
   have HV9:=HV1.box FA G9
   refine Disk.z_skip 10 (w':=wa.setRow SB #[.slice q1 t'.words.length f1,.slice q2 t'.roots.length f2,.int .i64 t'.old,.int .i64 t'.eden,.int .i64 t'.surv,.bool t'.flip,.int .i64 t'.hash,.slice q3 t'.kept.length f3]) rfl rfl (by kernel_rfl) (by rfl) (L7 _ _ rfl _ _ rfl rfl RUN) (.inr hs9) ?_
   generalize wa.setRow SB #[.slice q1 t'.words.length f1,.slice q2 t'.roots.length f2,.int .i64 t'.old,.int .i64 t'.eden,.int .i64 t'.surv,.bool t'.flip,.int .i64 t'.hash,.slice q3 t'.kept.length f3]=w9 at *
   refine Disk.z_run 11 31 (v:=.int .i64 r) rfl rfl (by kernel_rfl) (by rfl) (w':=w9) (by go_simp) (.inr hs9) ?_
   simp only [zA,zB,zC]
   refine Disk.z_run 12 32 (v:=.bool b) rfl rfl (by kernel_rfl) (by rfl) (w':=w9) (by go_simp) (.inr hs9) ?_
   simp only [zA,zB,zC]
   refine Disk.z_done (by kernel_rfl) ?_ _
   have DD:=D.step hs9
   have XX:XB w w9 SB t' q1 q2 q3 f1 f2 f3:=⟨F9,HV9,su,Nat.lt_of_lt_of_le (Nat.lt_of_lt_of_le D.hH (Nat.le_of_lt D.row.lt)) lA⟩
   clear RUN G9 F9 hs9 HV9 HV1 HV0 HU OKC
   exact hQ SB t' q1 q2 q3 f1 f2 f3 r b _ _ _ _ _ _ _ _ _ _ DD XX inr wl an
  ·obtain ⟨wa,SB,ewa,eSB,hsA,⟨fA,FA⟩,lA,bA⟩:=Pi hs0 hNr
   refine Qn 9 30 (w':=wa) (v:=.pointer (some ⟨SB,0,none⟩)) rfl rfl (by rfl) (by subst ewa;subst eSB;go_simp) (.inr hsA) ?_
   simp only [zA,zB,zC]
   clear ewa eSB
   refine Disk.zc 4 195 rfl rfl (f:=68) (args:=#[.agg #[.slice p1 t.words.length e1,.slice p2 t.roots.length e2,.int .i64 t.old,.int .i64 t.eden,.int .i64 t.surv,.bool t.flip,.int .i64 t.hash,.slice p3 t.kept.length e3],.int .i64 6,.int .i64 (30+za)]) (w0:=wa) ?_
   refine (Jcc (D.step hsA).hm.hr D.sm 6 (30+za)).mono ?_
   rintro e v1 ⟨⟨u,r,b,t',rfl,HU,su,inr,gr,wl,an⟩,b1⟩
   replace wl:Hid (b=true->t'.words.length=3200):=wl
   replace an:Hid (b=true->t.roots.length<20->Pu t' r=true):=an
   obtain ⟨q1,q2,q3,f1,f2,f3,rfl⟩:=HU.shape
   have hs1:=hsA.more b1 hNr
   have HV0:=HU.low (C:=w.heap.size) (Nat.le_trans D.gr.size hsA.1.size)
   have FA1:=FA.of_block (b1.block _ FA.lt)
   refine ⟨_,rfl,.inr hs1,?_⟩
   simp only [zA,zB,zC]
   refine Disk.zt 5 190 (v:=.tuple #[.agg #[.slice q1 t'.words.length f1,.slice q2 t'.roots.length f2,.int .i64 t'.old,.int .i64 t'.eden,.int .i64 t'.surv,.bool t'.flip,.int .i64 t'.hash,.slice q3 t'.kept.length f3],.int .i64 r,.bool b]) rfl rfl hs1 (fun W' hSw=>(by
    obtain ⟨s0,s1,s2,s3,s4,s5,s6,s7⟩:=C6 (D.step hSw).row
    go_simp;first|done|with_reducible rfl)) ?_
   simp only [zA,zB,zC]
   refine Disk.zt 6 196 (v:=.agg #[.slice q1 t'.words.length f1,.slice q2 t'.roots.length f2,.int .i64 t'.old,.int .i64 t'.eden,.int .i64 t'.surv,.bool t'.flip,.int .i64 t'.hash,.slice q3 t'.kept.length f3]) rfl rfl hs1 (fun W' hSw=>(by
    obtain ⟨s0,s1,s2,s3,s4,s5,s6,s7⟩:=C6 (D.step hSw).row
    go_simp;first|done|with_reducible rfl)) ?_
   simp only [zA,zB,zC]
   refine Disk.zt 7 197 (v:=.int .i64 r) rfl rfl hs1 (fun W' hSw=>(by
    obtain ⟨s0,s1,s2,s3,s4,s5,s6,s7⟩:=C6 (D.step hSw).row
    go_simp;first|done|with_reducible rfl)) ?_
   simp only [zA,zB,zC]
   refine Disk.zt 8 198 (v:=.bool b) rfl rfl hs1 (fun W' hSw=>(by
    obtain ⟨s0,s1,s2,s3,s4,s5,s6,s7⟩:=C6 (D.step hSw).row
    go_simp;first|done|with_reducible rfl)) ?_
   simp only [zA,zB,zC]
   have HV1:=HV0
   have OKC:(#[.slice q1 t'.words.length f1,.slice q2 t'.roots.length f2,.int .i64 t'.old,.int .i64 t'.eden,.int .i64 t'.surv,.bool t'.flip,.int .i64 t'.hash,.slice q3 t'.kept.length f3]:Array Value).all (·.oneCell')=true:=by simp [Value.oneCell']
   have RUN:=J1 v1 30 30 SB 8 #[.slice q1 t'.words.length f1,.slice q2 t'.roots.length f2,.int .i64 t'.old,.int .i64 t'.eden,.int .i64 t'.surv,.bool t'.flip,.int .i64 t'.hash,.slice q3 t'.kept.length f3] fA FA1 rfl (by kernel_rfl) OKC
   have G9:=I6 v1 SB #[.slice q1 t'.words.length f1,.slice q2 t'.roots.length f2,.int .i64 t'.old,.int .i64 t'.eden,.int .i64 t'.surv,.bool t'.flip,.int .i64 t'.hash,.slice q3 t'.kept.length f3]
   have F9:=Ol v1 SB 30 8 #[.slice q1 t'.words.length f1,.slice q2 t'.roots.length f2,.int .i64 t'.old,.int .i64 t'.eden,.int .i64 t'.surv,.bool t'.flip,.int .i64 t'.hash,.slice q3 t'.kept.length f3] fA FA1 rfl
   have hs9:=Sx.put D.dw hs1 G9 lA hNr
   have HV9:=HV1.box FA1 G9
   refine Disk.z_skip 10 (w':=v1.setRow SB #[.slice q1 t'.words.length f1,.slice q2 t'.roots.length f2,.int .i64 t'.old,.int .i64 t'.eden,.int .i64 t'.surv,.bool t'.flip,.int .i64 t'.hash,.slice q3 t'.kept.length f3]) rfl rfl (by kernel_rfl) (by rfl) (L7 _ _ rfl _ _ rfl rfl RUN) (.inr hs9) ?_
   generalize v1.setRow SB #[.slice q1 t'.words.length f1,.slice q2 t'.roots.length f2,.int .i64 t'.old,.int .i64 t'.eden,.int .i64 t'.surv,.bool t'.flip,.int .i64 t'.hash,.slice q3 t'.kept.length f3]=w9 at *
   refine Disk.z_run 11 31 (v:=.int .i64 r) rfl rfl (by kernel_rfl) (by rfl) (w':=w9) (by go_simp) (.inr hs9) ?_
   simp only [zA,zB,zC]
   refine Disk.z_run 12 32 (v:=.bool b) rfl rfl (by kernel_rfl) (by rfl) (w':=w9) (by go_simp) (.inr hs9) ?_
   simp only [zA,zB,zC]
   refine Disk.z_done (by kernel_rfl) ?_ _
   have DD:=D.step hs9
   have XX:XB w w9 SB t' q1 q2 q3 f1 f2 f3:=⟨F9,HV9,su,Nat.lt_of_lt_of_le (Nat.lt_of_lt_of_le D.hH (Nat.le_of_lt D.row.lt)) lA⟩
   clear RUN G9 F9 hs9 HV9 HV1 HV0 HU OKC
   exact hQ SB t' q1 q2 q3 f1 f2 f3 r b _ _ _ _ _ _ _ _ _ _ DD XX inr wl an
 ·obtain ⟨wa,SB,ewa,eSB,hsA,⟨fA,FA⟩,lA,bA⟩:=Pi hs hNr
  refine Qn 9 30 (w':=wa) (v:=.pointer (some ⟨SB,0,none⟩)) rfl rfl (by rfl) (by subst ewa;subst eSB;go_simp) (.inr hsA) ?_
  simp only [zA,zB,zC]
  clear ewa eSB
  refine Disk.zc 2 193 rfl rfl (f:=59) (args:=#[.pointer (some ⟨N,0,none⟩),.int .i64 31]) (w0:=wa) ?_
  refine (hsA.2.less 31 (by omega) (by omega)).mono ?_
  rintro e v0 ⟨⟨za,rfl,zal,zau⟩,g0,d0⟩
  have hs0:=hsA.trans ⟨g0,d0⟩
  have FA0:=FA.of_block (g0.block _ FA.lt (fun e=>by injection e;omega))
  refine ⟨_,rfl,.inr hs0,?_⟩
  simp only [zA,zB,zC]
  have w30:IntKind.i64.wrap (30+za)=30+za:=by rw [IntKind.wrap_i64];omega
  refine Disk.zt 3 194 (v:=.int .i64 (30+za)) rfl rfl hs0 (fun W' hSw=>(by
   obtain ⟨s0,s1,s2,s3,s4,s5,s6,s7⟩:=C6 (D.step hSw).row
   go_simp;first|done|with_reducible rfl)) ?_
  simp only [zA,zB,zC]
  refine Disk.zc 4 195 rfl rfl (f:=68) (args:=#[.agg #[.slice p1 t.words.length e1,.slice p2 t.roots.length e2,.int .i64 t.old,.int .i64 t.eden,.int .i64 t.surv,.bool t.flip,.int .i64 t.hash,.slice p3 t.kept.length e3],.int .i64 6,.int .i64 (30+za)]) (w0:=v0) ?_
  refine (Jcc (D.step hs0).hm.hr D.sm 6 (30+za)).mono ?_
  rintro e v1 ⟨⟨u,r,b,t',rfl,HU,su,inr,gr,wl,an⟩,b1⟩
  replace wl:Hid (b=true->t'.words.length=3200):=wl
  replace an:Hid (b=true->t.roots.length<20->Pu t' r=true):=an
  obtain ⟨q1,q2,q3,f1,f2,f3,rfl⟩:=HU.shape
  have hs1:=hs0.more b1 hNr
  have HV0:=HU.low (C:=w.heap.size) (Nat.le_trans D.gr.size hs0.1.size)
  have FA1:=FA0.of_block (b1.block _ FA0.lt)
  refine ⟨_,rfl,.inr hs1,?_⟩
  simp only [zA,zB,zC]
  refine Disk.zt 5 190 (v:=.tuple #[.agg #[.slice q1 t'.words.length f1,.slice q2 t'.roots.length f2,.int .i64 t'.old,.int .i64 t'.eden,.int .i64 t'.surv,.bool t'.flip,.int .i64 t'.hash,.slice q3 t'.kept.length f3],.int .i64 r,.bool b]) rfl rfl hs1 (fun W' hSw=>(by
   obtain ⟨s0,s1,s2,s3,s4,s5,s6,s7⟩:=C6 (D.step hSw).row
   go_simp;first|done|with_reducible rfl)) ?_
  simp only [zA,zB,zC]
  refine Disk.zt 6 196 (v:=.agg #[.slice q1 t'.words.length f1,.slice q2 t'.roots.length f2,.int .i64 t'.old,.int .i64 t'.eden,.int .i64 t'.surv,.bool t'.flip,.int .i64 t'.hash,.slice q3 t'.kept.length f3]) rfl rfl hs1 (fun W' hSw=>(by
   obtain ⟨s0,s1,s2,s3,s4,s5,s6,s7⟩:=C6 (D.step hSw).row
   go_simp;first|done|with_reducible rfl)) ?_
  simp only [zA,zB,zC]
  refine Disk.zt 7 197 (v:=.int .i64 r) rfl rfl hs1 (fun W' hSw=>(by
   obtain ⟨s0,s1,s2,s3,s4,s5,s6,s7⟩:=C6 (D.step hSw).row
   go_simp;first|done|with_reducible rfl)) ?_
  simp only [zA,zB,zC]
  refine Disk.zt 8 198 (v:=.bool b) rfl rfl hs1 (fun W' hSw=>(by
   obtain ⟨s0,s1,s2,s3,s4,s5,s6,s7⟩:=C6 (D.step hSw).row
   go_simp;first|done|with_reducible rfl)) ?_
  simp only [zA,zB,zC]
  have HV1:=HV0
  have OKC:(#[.slice q1 t'.words.length f1,.slice q2 t'.roots.length f2,.int .i64 t'.old,.int .i64 t'.eden,.int .i64 t'.surv,.bool t'.flip,.int .i64 t'.hash,.slice q3 t'.kept.length f3]:Array Value).all (·.oneCell')=true:=by simp [Value.oneCell']
  have RUN:=J1 v1 30 30 SB 8 #[.slice q1 t'.words.length f1,.slice q2 t'.roots.length f2,.int .i64 t'.old,.int .i64 t'.eden,.int .i64 t'.surv,.bool t'.flip,.int .i64 t'.hash,.slice q3 t'.kept.length f3] fA FA1 rfl (by kernel_rfl) OKC
  have G9:=I6 v1 SB #[.slice q1 t'.words.length f1,.slice q2 t'.roots.length f2,.int .i64 t'.old,.int .i64 t'.eden,.int .i64 t'.surv,.bool t'.flip,.int .i64 t'.hash,.slice q3 t'.kept.length f3]
  have F9:=Ol v1 SB 30 8 #[.slice q1 t'.words.length f1,.slice q2 t'.roots.length f2,.int .i64 t'.old,.int .i64 t'.eden,.int .i64 t'.surv,.bool t'.flip,.int .i64 t'.hash,.slice q3 t'.kept.length f3] fA FA1 rfl
  have hs9:=Sx.put D.dw hs1 G9 lA hNr
  have HV9:=HV1.box FA1 G9
  refine Disk.z_skip 10 (w':=v1.setRow SB #[.slice q1 t'.words.length f1,.slice q2 t'.roots.length f2,.int .i64 t'.old,.int .i64 t'.eden,.int .i64 t'.surv,.bool t'.flip,.int .i64 t'.hash,.slice q3 t'.kept.length f3]) rfl rfl (by kernel_rfl) (by rfl) (L7 _ _ rfl _ _ rfl rfl RUN) (.inr hs9) ?_
  generalize v1.setRow SB #[.slice q1 t'.words.length f1,.slice q2 t'.roots.length f2,.int .i64 t'.old,.int .i64 t'.eden,.int .i64 t'.surv,.bool t'.flip,.int .i64 t'.hash,.slice q3 t'.kept.length f3]=w9 at *
  refine Disk.z_run 11 31 (v:=.int .i64 r) rfl rfl (by kernel_rfl) (by rfl) (w':=w9) (by go_simp) (.inr hs9) ?_
  simp only [zA,zB,zC]
  refine Disk.z_run 12 32 (v:=.bool b) rfl rfl (by kernel_rfl) (by rfl) (w':=w9) (by go_simp) (.inr hs9) ?_
  simp only [zA,zB,zC]
  refine Disk.z_done (by kernel_rfl) ?_ _
  have DD:=D.step hs9
  have XX:XB w w9 SB t' q1 q2 q3 f1 f2 f3:=⟨F9,HV9,su,Nat.lt_of_lt_of_le (Nat.lt_of_lt_of_le D.hH (Nat.le_of_lt D.row.lt)) lA⟩
  clear RUN G9 F9 hs9 HV9 HV1 HV0 HU OKC
  exact hQ SB t' q1 q2 q3 f1 f2 f3 r b _ _ _ _ _ _ _ _ _ _ DD XX inr wl an
end Go.Proofs.YtboiknllmnfipaaGreatDoor
