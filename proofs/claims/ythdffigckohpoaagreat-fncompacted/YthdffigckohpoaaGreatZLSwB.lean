/- The draw of a heap: arms of its switch. -/
import Derived.Test.YthdffigckohpoaaGreatZLReg28
namespace Go.Proofs.YthdffigckohpoaaGreat
open Go.RowKit
set_option maxRecDepth 1000000 in
set_option maxHeartbeats 6400000 in
theorem sw3 {w wr : World} {N : Nat} {cv : Value} {cs : List UInt8} {H gQ : Nat} {t : Hp} {p1 p2 p3 : Option Addr} {e1 e2 e3 : Nat} {x : Int} {g c ll : Nat} {m : List Int} (hll : ll <= 3200) (RM7 : RI wr g m c) (hml : Hid (m.length = 3 + ll)) (hin : Hid (∀ x, x ∈ m -> In64 x)) (nN : some g ≠ some N) (hx : In64 x) (hN : N < w.heap.size) (D7 : LD w N cv cs H gQ wr t p1 p2 p3 e1 e2 e3) {Q : Exit -> Act -> World -> Prop} (u1 u2 u4 u5 u6 u8 Kb Jy Kc Jz Ka Kx Kd Kw Ke Kf Kg Kh Ki Kj Kk Kl Id Ie Ig Ih Jf Jg Jh Ii Ij Ik Il Im Io Ip Iq Ir Is It Iu Iv Iw Ix Iy Iz Jc Jd Je Ji Jj Jk Jl Jm Jn Jo Jp Jq Jr Js Jt Ju Jv Jw Jx Ky Kz La Lb Lt Lu Lv Lw Lx Ly Lz Ma Mb Mc Lc Ld Le Lf Lg Lh Li Lj Lk Ll Lm Ln Lo Lp Lq Lr Dc De Df Dg Dh Di Dj Fj Fk Fl Fm Fn Fo Fp Fq Fr Dk Dl Dm Dn Do Dp Dq Ds Dt Du Dv Dx Dy Dz Ea Eb Ec Ed Ee Ef Eg Eh Ei Ej Ek El Em En Eo Ep Eq Er Es Et Eu Ev Fs Ft Fu Fv Fw Fx Fy Fz Gc Ge Gf Ew Ex Ba Bb Bc Bd Be Bf Bg Bh Bi Bj Bk Bl Bm Bn Bo Bp Bq Br Bs Bt Bu Bv Bw Bz Ca Ck Cl Cm Cn Co Cp Cq Cr Cs Cb Cc Cd Ce Cf Cg Ch Ci Cj : Value)
  (hQ : Hid (∀ (t : Hp) (p1 p2 p3 : Option Addr) (e1 e2 e3 : Nat) (w9 : World) (Md Me Mf Mg Mh Mi Mj Mk Ml Mm Mn Mo Mp Mq Mr Ms Mu Mv Mw Mx Km Kn Ko Kp Kq Kr Ks Kt Ku Kv My Mz Na Nb Nc Nf Ng Nh Ni Nj Nk Nl Nm Nn Np Nq Gg Gh Gi Gj Gk Gl Gm Ct Cu Cv Cw Cx Cy Cz Da Db Gn Gp Gs Gt Gu Gv Gw Gx Gy Gz Ha Hb Hc Hd He Hf Hg Hh Hi Hj Hk Hl Hm Hn Ho Hq Hr Hs Ht Hu Hv Hw Hx Hy Hz Ia Ey Ez Fa Fb Fc Fd Fe Ff Fg Fh Fi Ib Ic : Value), LD w N cv cs H gQ w9 t p1 p2 p3 e1 e2 e3 -> Q .normal ⟨List.toArray (.pointer (some ⟨N, 0, none⟩) :: u1 :: u2 :: .pointer (some ⟨H, 0, none⟩) :: u4 :: u5 :: u6 :: .slice (some ⟨g, 0, none⟩) (3 + ll) c :: u8 :: .int .i64 x :: Md :: Me :: Mf :: Mg :: Mh :: Mi :: Mj :: Mk :: Ml :: Mm :: Mn :: Mo :: Mp :: Mq :: Mr :: Ms :: Id :: Ie :: Ig :: Ih :: Jf :: Jg :: Jh :: Ii :: Ij :: Ik :: Il :: Im :: Io :: Ip :: Iq :: Ir :: Is :: It :: Iu :: Iv :: Iw :: Ix :: Iy :: Iz :: Jc :: Jd :: Je :: Ji :: Jj :: Jk :: Jl :: Jm :: Jn :: Jo :: Jp :: Jq :: Jr :: Js :: Jt :: Ju :: Jv :: Jw :: Jx :: .int .i64 3 :: Mu :: Mv :: Mw :: Mx :: Km :: Kn :: Ko :: Kp :: Kq :: Kr :: Ks :: Kt :: Ku :: Kv :: My :: Mz :: Na :: Nb :: Nc :: Nf :: Ng :: Nh :: Ni :: Nj :: Nk :: Nl :: Nm :: Nn :: Np :: Nq :: Gg :: Gh :: Gi :: Gj :: Gk :: Gl :: Gm :: Ct :: Cu :: Cv :: Cw :: Cx :: Cy :: Cz :: Da :: Db :: Gn :: Gp :: Gs :: Gt :: Gu :: Gv :: Gw :: Gx :: Gy :: Gz :: Ha :: Hb :: Hc :: Hd :: He :: Hf :: Hg :: Hh :: Hi :: Hj :: Hk :: Hl :: Hm :: Hn :: Ho :: Hq :: Hr :: Hs :: Ht :: Hu :: Hv :: Hw :: Hx :: Hy :: Hz :: Ia :: Ey :: Ez :: Fa :: Fb :: Fc :: Fd :: Fe :: Ff :: Fg :: Fh :: Fi :: Ib :: Ic :: Ba :: Bb :: Bc :: Bd :: Be :: Bf :: Bg :: Bh :: Bi :: Bj :: Bk :: Bl :: Bm :: Bn :: Bo :: Bp :: Bq :: Br :: Bs :: Bt :: Bu :: Bv :: Bw :: Bz :: Ca :: Ck :: Cl :: Cm :: Cn :: Co :: Cp :: Cq :: Cr :: Cs :: Cb :: Cc :: Cd :: Ce :: Cf :: Cg :: Ch :: Ci :: Cj :: []), []⟩ w9)) :
  Code.wp Tryz.prog blk4 Q ⟨List.toArray (.pointer (some ⟨N, 0, none⟩) :: u1 :: u2 :: .pointer (some ⟨H, 0, none⟩) :: u4 :: u5 :: u6 :: .slice (some ⟨g, 0, none⟩) (3 + ll) c :: u8 :: .int .i64 x :: Kb :: Jy :: Kc :: Jz :: Ka :: Kx :: Kd :: Kw :: Ke :: Kf :: Kg :: Kh :: Ki :: Kj :: Kk :: Kl :: Id :: Ie :: Ig :: Ih :: Jf :: Jg :: Jh :: Ii :: Ij :: Ik :: Il :: Im :: Io :: Ip :: Iq :: Ir :: Is :: It :: Iu :: Iv :: Iw :: Ix :: Iy :: Iz :: Jc :: Jd :: Je :: Ji :: Jj :: Jk :: Jl :: Jm :: Jn :: Jo :: Jp :: Jq :: Jr :: Js :: Jt :: Ju :: Jv :: Jw :: Jx :: .int .i64 3 :: Ky :: Kz :: La :: Lb :: Lt :: Lu :: Lv :: Lw :: Lx :: Ly :: Lz :: Ma :: Mb :: Mc :: Lc :: Ld :: Le :: Lf :: Lg :: Lh :: Li :: Lj :: Lk :: Ll :: Lm :: Ln :: Lo :: Lp :: Lq :: Lr :: Dc :: De :: Df :: Dg :: Dh :: Di :: Dj :: Fj :: Fk :: Fl :: Fm :: Fn :: Fo :: Fp :: Fq :: Fr :: Dk :: Dl :: Dm :: Dn :: Do :: Dp :: Dq :: Ds :: Dt :: Du :: Dv :: Dx :: Dy :: Dz :: Ea :: Eb :: Ec :: Ed :: Ee :: Ef :: Eg :: Eh :: Ei :: Ej :: Ek :: El :: Em :: En :: Eo :: Ep :: Eq :: Er :: Es :: Et :: Eu :: Ev :: Fs :: Ft :: Fu :: Fv :: Fw :: Fx :: Fy :: Fz :: Gc :: Ge :: Gf :: Ew :: Ex :: Ba :: Bb :: Bc :: Bd :: Be :: Bf :: Bg :: Bh :: Bi :: Bj :: Bk :: Bl :: Bm :: Bn :: Bo :: Bp :: Bq :: Br :: Bs :: Bt :: Bu :: Bv :: Bw :: Bz :: Ca :: Ck :: Cl :: Cm :: Cn :: Co :: Cp :: Cq :: Cr :: Cs :: Cb :: Cc :: Cd :: Ce :: Cf :: Cg :: Ch :: Ci :: Cj :: []), []⟩ wr := by
 conv => arg 2; whnf
 have B7 := D7.dw.less ((3 + ll : Nat) : Int) (by omega) (by omega)
 go_wp2_with fail
 refine B7.mono ?_
 rintro y' w7 ⟨⟨z2, rfl, z20, z21⟩, g7, d7⟩
 obtain ⟨k2, rfl⟩ := Int.eq_ofNat_of_zero_le z20
 have D8 := D7.step ⟨g7, d7⟩
 have RM8 := RM7.grown g7 nN
 have hk2 : k2 < m.length := by rw [hml.out]; omega
 have ck2 := RM8.cell (i := k2) hk2
 have yin := hin.out (m.getD k2 0) (by simp [hk2])
 generalize m.getD k2 0 = y at *
 have k2I : (k2 : Int) < ((3 + ll : Nat) : Int) := by omega
 clear B7 D7 g7 d7 RM7 hin
 go_wp2_with fail
 refine reg28 yin hx hN D8 _ _ _ _ _ _ _ _ _ _ _ _ _ _ _ _ _ _ _ _ _ _ _ _ _ _ _ _ _ _ _ _ _ _ _ _ _ _ _ _ _ _ _ _ _ _ _ _ _ _ _ _ _ _ _ _ _ _ _ _ _ _ _ _ _ _ _ _ _ _ _ _ _ _ _ _ _ _ _ _ _ _ _ _ _ _ _ _ _ _ _ _ _ _ _ _ _ _ _ _ _ _ _ _ _ _ _ _ _ _ _ _ _ _ _ _ _ _ _ _ _ _ _ _ _ _ _ _ _ _ _ _ _ _ _ _ _ _ _ _ _ _ _ _ _ _ _ _ _ _ _ _ _ _ _ _ _ _ _ _ _ _ _ _ _ _ _ _ _ _ _ _ _ _ _ _ _ _ _ _ _ _ _ _ _ _ _ _ _ _ _ _ _ _ _ _ _ _ _ _ _ _ _ _ ?_
 intro SB t' q1 q2 q3 f1 f2 f3 b w8 Ct Cu Cv Cw Cx Cy Cz Da Db D9 X9 wl
 clear D8 RM8 ck2
 cases b
 ·go_wp2
  exact hQ.out _ _ _ _ _ _ _ _ _ _ _ _ _ _ _ _ _ _ _ _ _ _ _ _ _ _ _ _ _ _ _ _ _ _ _ _ _ _ _ _ _ _ _ _ _ _ _ _ _ _ _ _ _ _ _ _ _ _ _ _ _ _ _ _ _ _ _ _ _ _ _ _ _ _ _ _ _ _ _ _ _ _ _ _ _ _ _ _ _ _ _ _ _ _ _ _ _ _ _ _ _ _ _ _ _ _ _ _ _ _ _ _ _ _ _ _ _ _ _ D9
 ·obtain ⟨x0, x1, x2, x3, x4, x5, x6, x7⟩ := hv8_cells X9.row
  have OKC : (#[.slice q1 t'.words.length f1, .slice q2 t'.roots.length f2, .int .i64 t'.old, .int .i64 t'.eden, .int .i64 t'.surv, .bool t'.flip, .int .i64 t'.hash, .slice q3 t'.kept.length f3] : Array Value).all (·.oneCell') = true := by simp [Value.oneCell']
  go_wp2_with ((with_reducible refine store_box _ ?_ (.tmp 3) (.tmp 117) 26 ?_ 26 H 8 #[.slice q1 t'.words.length f1, .slice q2 t'.roots.length f2, .int .i64 t'.old, .int .i64 t'.eden, .int .i64 t'.surv, .bool t'.flip, .int .i64 t'.hash, .slice q3 t'.kept.length f3] _ ?_ ?_ D9.row ?_ ?_ OKC ?_); rfl; rfl; rfl; rfl; rfl; kernel_rfl; intro wA F9 G9)
  have DA := D9.take X9.hm X9.sm (wl.out (by simp)) G9 F9
  clear F9 G9 OKC x0 x1 x2 x3 x4 x5 x6 x7 X9 D9
  go_wp2
  exact hQ.out _ _ _ _ _ _ _ _ _ _ _ _ _ _ _ _ _ _ _ _ _ _ _ _ _ _ _ _ _ _ _ _ _ _ _ _ _ _ _ _ _ _ _ _ _ _ _ _ _ _ _ _ _ _ _ _ _ _ _ _ _ _ _ _ _ _ _ _ _ _ _ _ _ _ _ _ _ _ _ _ _ _ _ _ _ _ _ _ _ _ _ _ _ _ _ _ _ _ _ _ _ _ _ _ _ _ _ _ _ _ _ _ _ _ _ _ _ _ _ DA
set_option maxRecDepth 1000000 in
set_option maxHeartbeats 6400000 in
theorem sw4 {w wr : World} {N : Nat} {cv : Value} {cs : List UInt8} {H gQ : Nat} {t : Hp} {p1 p2 p3 : Option Addr} {e1 e2 e3 : Nat} {x : Int} {g c ll : Nat} {m : List Int} (hll : ll <= 3200) (RM7 : RI wr g m c) (hml : Hid (m.length = 3 + ll)) (hin : Hid (∀ x, x ∈ m -> In64 x)) (nN : some g ≠ some N) (hx : In64 x) (hN : N < w.heap.size) (D7 : LD w N cv cs H gQ wr t p1 p2 p3 e1 e2 e3) {Q : Exit -> Act -> World -> Prop} (u1 u2 u4 u5 u6 u8 Kb Jy Kc Jz Ka Kx Kd Kw Ke Kf Kg Kh Ki Kj Kk Kl Id Ie Ig Ih Jf Jg Jh Ii Ij Ik Il Im Io Ip Iq Ir Is It Iu Iv Iw Ix Iy Iz Jc Jd Je Ji Jj Jk Jl Jm Jn Jo Jp Jq Jr Js Jt Ju Jv Jw Jx Ky Kz La Lb Lt Lu Lv Lw Lx Ly Lz Ma Mb Mc Lc Ld Le Lf Lg Lh Li Lj Lk Ll Lm Ln Lo Lp Lq Lr Dc De Df Dg Dh Di Dj Fj Fk Fl Fm Fn Fo Fp Fq Fr Dk Dl Dm Dn Do Dp Dq Ds Dt Du Dv Dx Dy Dz Ea Eb Ec Ed Ee Ef Eg Eh Ei Ej Ek El Em En Eo Ep Eq Er Es Et Eu Ev Fs Ft Fu Fv Fw Fx Fy Fz Gc Ge Gf Ew Ex Ba Bb Bc Bd Be Bf Bg Bh Bi Bj Bk Bl Bm Bn Bo Bp Bq Br Bs Bt Bu Bv Bw Bz Ca Ck Cl Cm Cn Co Cp Cq Cr Cs Cb Cc Cd Ce Cf Cg Ch Ci Cj : Value)
  (hQ : Hid (∀ (t : Hp) (p1 p2 p3 : Option Addr) (e1 e2 e3 : Nat) (w9 : World) (Md Me Mf Mg Mh Mi Mj Mk Ml Mm Mn Mo Mp Mq Mr Ms Mu Mv Mw Mx Km Kn Ko Kp Kq Kr Ks Kt Ku Kv My Mz Na Nb Nc Nf Ng Nh Ni Nj Nk Nl Nm Nn Np Nq Gg Gh Gi Gj Gk Gl Gm Ct Cu Cv Cw Cx Cy Cz Da Db Gn Gp Gs Gt Gu Gv Gw Gx Gy Gz Ha Hb Hc Hd He Hf Hg Hh Hi Hj Hk Hl Hm Hn Ho Hq Hr Hs Ht Hu Hv Hw Hx Hy Hz Ia Ey Ez Fa Fb Fc Fd Fe Ff Fg Fh Fi Ib Ic : Value), LD w N cv cs H gQ w9 t p1 p2 p3 e1 e2 e3 -> Q .normal ⟨List.toArray (.pointer (some ⟨N, 0, none⟩) :: u1 :: u2 :: .pointer (some ⟨H, 0, none⟩) :: u4 :: u5 :: u6 :: .slice (some ⟨g, 0, none⟩) (3 + ll) c :: u8 :: .int .i64 x :: Md :: Me :: Mf :: Mg :: Mh :: Mi :: Mj :: Mk :: Ml :: Mm :: Mn :: Mo :: Mp :: Mq :: Mr :: Ms :: Id :: Ie :: Ig :: Ih :: Jf :: Jg :: Jh :: Ii :: Ij :: Ik :: Il :: Im :: Io :: Ip :: Iq :: Ir :: Is :: It :: Iu :: Iv :: Iw :: Ix :: Iy :: Iz :: Jc :: Jd :: Je :: Ji :: Jj :: Jk :: Jl :: Jm :: Jn :: Jo :: Jp :: Jq :: Jr :: Js :: Jt :: Ju :: Jv :: Jw :: Jx :: .int .i64 4 :: Mu :: Mv :: Mw :: Mx :: Km :: Kn :: Ko :: Kp :: Kq :: Kr :: Ks :: Kt :: Ku :: Kv :: My :: Mz :: Na :: Nb :: Nc :: Nf :: Ng :: Nh :: Ni :: Nj :: Nk :: Nl :: Nm :: Nn :: Np :: Nq :: Gg :: Gh :: Gi :: Gj :: Gk :: Gl :: Gm :: Ct :: Cu :: Cv :: Cw :: Cx :: Cy :: Cz :: Da :: Db :: Gn :: Gp :: Gs :: Gt :: Gu :: Gv :: Gw :: Gx :: Gy :: Gz :: Ha :: Hb :: Hc :: Hd :: He :: Hf :: Hg :: Hh :: Hi :: Hj :: Hk :: Hl :: Hm :: Hn :: Ho :: Hq :: Hr :: Hs :: Ht :: Hu :: Hv :: Hw :: Hx :: Hy :: Hz :: Ia :: Ey :: Ez :: Fa :: Fb :: Fc :: Fd :: Fe :: Ff :: Fg :: Fh :: Fi :: Ib :: Ic :: Ba :: Bb :: Bc :: Bd :: Be :: Bf :: Bg :: Bh :: Bi :: Bj :: Bk :: Bl :: Bm :: Bn :: Bo :: Bp :: Bq :: Br :: Bs :: Bt :: Bu :: Bv :: Bw :: Bz :: Ca :: Ck :: Cl :: Cm :: Cn :: Co :: Cp :: Cq :: Cr :: Cs :: Cb :: Cc :: Cd :: Ce :: Cf :: Cg :: Ch :: Ci :: Cj :: []), []⟩ w9)) :
  Code.wp Tryz.prog blk4 Q ⟨List.toArray (.pointer (some ⟨N, 0, none⟩) :: u1 :: u2 :: .pointer (some ⟨H, 0, none⟩) :: u4 :: u5 :: u6 :: .slice (some ⟨g, 0, none⟩) (3 + ll) c :: u8 :: .int .i64 x :: Kb :: Jy :: Kc :: Jz :: Ka :: Kx :: Kd :: Kw :: Ke :: Kf :: Kg :: Kh :: Ki :: Kj :: Kk :: Kl :: Id :: Ie :: Ig :: Ih :: Jf :: Jg :: Jh :: Ii :: Ij :: Ik :: Il :: Im :: Io :: Ip :: Iq :: Ir :: Is :: It :: Iu :: Iv :: Iw :: Ix :: Iy :: Iz :: Jc :: Jd :: Je :: Ji :: Jj :: Jk :: Jl :: Jm :: Jn :: Jo :: Jp :: Jq :: Jr :: Js :: Jt :: Ju :: Jv :: Jw :: Jx :: .int .i64 4 :: Ky :: Kz :: La :: Lb :: Lt :: Lu :: Lv :: Lw :: Lx :: Ly :: Lz :: Ma :: Mb :: Mc :: Lc :: Ld :: Le :: Lf :: Lg :: Lh :: Li :: Lj :: Lk :: Ll :: Lm :: Ln :: Lo :: Lp :: Lq :: Lr :: Dc :: De :: Df :: Dg :: Dh :: Di :: Dj :: Fj :: Fk :: Fl :: Fm :: Fn :: Fo :: Fp :: Fq :: Fr :: Dk :: Dl :: Dm :: Dn :: Do :: Dp :: Dq :: Ds :: Dt :: Du :: Dv :: Dx :: Dy :: Dz :: Ea :: Eb :: Ec :: Ed :: Ee :: Ef :: Eg :: Eh :: Ei :: Ej :: Ek :: El :: Em :: En :: Eo :: Ep :: Eq :: Er :: Es :: Et :: Eu :: Ev :: Fs :: Ft :: Fu :: Fv :: Fw :: Fx :: Fy :: Fz :: Gc :: Ge :: Gf :: Ew :: Ex :: Ba :: Bb :: Bc :: Bd :: Be :: Bf :: Bg :: Bh :: Bi :: Bj :: Bk :: Bl :: Bm :: Bn :: Bo :: Bp :: Bq :: Br :: Bs :: Bt :: Bu :: Bv :: Bw :: Bz :: Ca :: Ck :: Cl :: Cm :: Cn :: Co :: Cp :: Cq :: Cr :: Cs :: Cb :: Cc :: Cd :: Ce :: Cf :: Cg :: Ch :: Ci :: Cj :: []), []⟩ wr := by
 conv => arg 2; whnf
 have B7 := D7.dw.less ((3 + ll : Nat) : Int) (by omega) (by omega)
 go_wp2_with fail
 refine B7.mono ?_
 rintro y' w7 ⟨⟨z2, rfl, z20, z21⟩, g7, d7⟩
 obtain ⟨k2, rfl⟩ := Int.eq_ofNat_of_zero_le z20
 have D8 := D7.step ⟨g7, d7⟩
 have RM8 := RM7.grown g7 nN
 have hk2 : k2 < m.length := by rw [hml.out]; omega
 have ck2 := RM8.cell (i := k2) hk2
 have yin := hin.out (m.getD k2 0) (by simp [hk2])
 generalize m.getD k2 0 = y at *
 have k2I : (k2 : Int) < ((3 + ll : Nat) : Int) := by omega
 clear B7 D7 g7 d7 RM7 hin
 go_wp2_with fail
 refine reg28 yin hx hN D8 _ _ _ _ _ _ _ _ _ _ _ _ _ _ _ _ _ _ _ _ _ _ _ _ _ _ _ _ _ _ _ _ _ _ _ _ _ _ _ _ _ _ _ _ _ _ _ _ _ _ _ _ _ _ _ _ _ _ _ _ _ _ _ _ _ _ _ _ _ _ _ _ _ _ _ _ _ _ _ _ _ _ _ _ _ _ _ _ _ _ _ _ _ _ _ _ _ _ _ _ _ _ _ _ _ _ _ _ _ _ _ _ _ _ _ _ _ _ _ _ _ _ _ _ _ _ _ _ _ _ _ _ _ _ _ _ _ _ _ _ _ _ _ _ _ _ _ _ _ _ _ _ _ _ _ _ _ _ _ _ _ _ _ _ _ _ _ _ _ _ _ _ _ _ _ _ _ _ _ _ _ _ _ _ _ _ _ _ _ _ _ _ _ _ _ _ _ _ _ _ _ _ _ _ ?_
 intro SB t' q1 q2 q3 f1 f2 f3 b w8 Ct Cu Cv Cw Cx Cy Cz Da Db D9 X9 wl
 clear D8 RM8 ck2
 cases b
 ·go_wp2
  exact hQ.out _ _ _ _ _ _ _ _ _ _ _ _ _ _ _ _ _ _ _ _ _ _ _ _ _ _ _ _ _ _ _ _ _ _ _ _ _ _ _ _ _ _ _ _ _ _ _ _ _ _ _ _ _ _ _ _ _ _ _ _ _ _ _ _ _ _ _ _ _ _ _ _ _ _ _ _ _ _ _ _ _ _ _ _ _ _ _ _ _ _ _ _ _ _ _ _ _ _ _ _ _ _ _ _ _ _ _ _ _ _ _ _ _ _ _ _ _ _ _ D9
 ·obtain ⟨x0, x1, x2, x3, x4, x5, x6, x7⟩ := hv8_cells X9.row
  have OKC : (#[.slice q1 t'.words.length f1, .slice q2 t'.roots.length f2, .int .i64 t'.old, .int .i64 t'.eden, .int .i64 t'.surv, .bool t'.flip, .int .i64 t'.hash, .slice q3 t'.kept.length f3] : Array Value).all (·.oneCell') = true := by simp [Value.oneCell']
  go_wp2_with ((with_reducible refine store_box _ ?_ (.tmp 3) (.tmp 117) 26 ?_ 26 H 8 #[.slice q1 t'.words.length f1, .slice q2 t'.roots.length f2, .int .i64 t'.old, .int .i64 t'.eden, .int .i64 t'.surv, .bool t'.flip, .int .i64 t'.hash, .slice q3 t'.kept.length f3] _ ?_ ?_ D9.row ?_ ?_ OKC ?_); rfl; rfl; rfl; rfl; rfl; kernel_rfl; intro wA F9 G9)
  have DA := D9.take X9.hm X9.sm (wl.out (by simp)) G9 F9
  clear F9 G9 OKC x0 x1 x2 x3 x4 x5 x6 x7 X9 D9
  go_wp2
  exact hQ.out _ _ _ _ _ _ _ _ _ _ _ _ _ _ _ _ _ _ _ _ _ _ _ _ _ _ _ _ _ _ _ _ _ _ _ _ _ _ _ _ _ _ _ _ _ _ _ _ _ _ _ _ _ _ _ _ _ _ _ _ _ _ _ _ _ _ _ _ _ _ _ _ _ _ _ _ _ _ _ _ _ _ _ _ _ _ _ _ _ _ _ _ _ _ _ _ _ _ _ _ _ _ _ _ _ _ _ _ _ _ _ _ _ _ _ _ _ _ _ DA
set_option maxRecDepth 1000000 in
set_option maxHeartbeats 6400000 in
theorem sw5 {w wr : World} {N : Nat} {cv : Value} {cs : List UInt8} {H gQ : Nat} {t : Hp} {p1 p2 p3 : Option Addr} {e1 e2 e3 : Nat} {x : Int} {g c ll : Nat} {m : List Int} (hll : ll <= 3200) (RM7 : RI wr g m c) (hml : Hid (m.length = 3 + ll)) (hin : Hid (∀ x, x ∈ m -> In64 x)) (nN : some g ≠ some N) (hx : In64 x) (hN : N < w.heap.size) (D7 : LD w N cv cs H gQ wr t p1 p2 p3 e1 e2 e3) {Q : Exit -> Act -> World -> Prop} (u1 u2 u4 u5 u6 u8 Kb Jy Kc Jz Ka Kx Kd Kw Ke Kf Kg Kh Ki Kj Kk Kl Id Ie Ig Ih Jf Jg Jh Ii Ij Ik Il Im Io Ip Iq Ir Is It Iu Iv Iw Ix Iy Iz Jc Jd Je Ji Jj Jk Jl Jm Jn Jo Jp Jq Jr Js Jt Ju Jv Jw Jx Ky Kz La Lb Lt Lu Lv Lw Lx Ly Lz Ma Mb Mc Lc Ld Le Lf Lg Lh Li Lj Lk Ll Lm Ln Lo Lp Lq Lr Dc De Df Dg Dh Di Dj Fj Fk Fl Fm Fn Fo Fp Fq Fr Dk Dl Dm Dn Do Dp Dq Ds Dt Du Dv Dx Dy Dz Ea Eb Ec Ed Ee Ef Eg Eh Ei Ej Ek El Em En Eo Ep Eq Er Es Et Eu Ev Fs Ft Fu Fv Fw Fx Fy Fz Gc Ge Gf Ew Ex Ba Bb Bc Bd Be Bf Bg Bh Bi Bj Bk Bl Bm Bn Bo Bp Bq Br Bs Bt Bu Bv Bw Bz Ca Ck Cl Cm Cn Co Cp Cq Cr Cs Cb Cc Cd Ce Cf Cg Ch Ci Cj : Value)
  (hQ : Hid (∀ (t : Hp) (p1 p2 p3 : Option Addr) (e1 e2 e3 : Nat) (w9 : World) (Md Me Mf Mg Mh Mi Mj Mk Ml Mm Mn Mo Mp Mq Mr Ms Mu Mv Mw Mx Km Kn Ko Kp Kq Kr Ks Kt Ku Kv My Mz Na Nb Nc Nf Ng Nh Ni Nj Nk Nl Nm Nn Np Nq Gg Gh Gi Gj Gk Gl Gm Ct Cu Cv Cw Cx Cy Cz Da Db Gn Gp Gs Gt Gu Gv Gw Gx Gy Gz Ha Hb Hc Hd He Hf Hg Hh Hi Hj Hk Hl Hm Hn Ho Hq Hr Hs Ht Hu Hv Hw Hx Hy Hz Ia Ey Ez Fa Fb Fc Fd Fe Ff Fg Fh Fi Ib Ic : Value), LD w N cv cs H gQ w9 t p1 p2 p3 e1 e2 e3 -> Q .normal ⟨List.toArray (.pointer (some ⟨N, 0, none⟩) :: u1 :: u2 :: .pointer (some ⟨H, 0, none⟩) :: u4 :: u5 :: u6 :: .slice (some ⟨g, 0, none⟩) (3 + ll) c :: u8 :: .int .i64 x :: Md :: Me :: Mf :: Mg :: Mh :: Mi :: Mj :: Mk :: Ml :: Mm :: Mn :: Mo :: Mp :: Mq :: Mr :: Ms :: Id :: Ie :: Ig :: Ih :: Jf :: Jg :: Jh :: Ii :: Ij :: Ik :: Il :: Im :: Io :: Ip :: Iq :: Ir :: Is :: It :: Iu :: Iv :: Iw :: Ix :: Iy :: Iz :: Jc :: Jd :: Je :: Ji :: Jj :: Jk :: Jl :: Jm :: Jn :: Jo :: Jp :: Jq :: Jr :: Js :: Jt :: Ju :: Jv :: Jw :: Jx :: .int .i64 5 :: Mu :: Mv :: Mw :: Mx :: Km :: Kn :: Ko :: Kp :: Kq :: Kr :: Ks :: Kt :: Ku :: Kv :: My :: Mz :: Na :: Nb :: Nc :: Nf :: Ng :: Nh :: Ni :: Nj :: Nk :: Nl :: Nm :: Nn :: Np :: Nq :: Gg :: Gh :: Gi :: Gj :: Gk :: Gl :: Gm :: Ct :: Cu :: Cv :: Cw :: Cx :: Cy :: Cz :: Da :: Db :: Gn :: Gp :: Gs :: Gt :: Gu :: Gv :: Gw :: Gx :: Gy :: Gz :: Ha :: Hb :: Hc :: Hd :: He :: Hf :: Hg :: Hh :: Hi :: Hj :: Hk :: Hl :: Hm :: Hn :: Ho :: Hq :: Hr :: Hs :: Ht :: Hu :: Hv :: Hw :: Hx :: Hy :: Hz :: Ia :: Ey :: Ez :: Fa :: Fb :: Fc :: Fd :: Fe :: Ff :: Fg :: Fh :: Fi :: Ib :: Ic :: Ba :: Bb :: Bc :: Bd :: Be :: Bf :: Bg :: Bh :: Bi :: Bj :: Bk :: Bl :: Bm :: Bn :: Bo :: Bp :: Bq :: Br :: Bs :: Bt :: Bu :: Bv :: Bw :: Bz :: Ca :: Ck :: Cl :: Cm :: Cn :: Co :: Cp :: Cq :: Cr :: Cs :: Cb :: Cc :: Cd :: Ce :: Cf :: Cg :: Ch :: Ci :: Cj :: []), []⟩ w9)) :
  Code.wp Tryz.prog blk4 Q ⟨List.toArray (.pointer (some ⟨N, 0, none⟩) :: u1 :: u2 :: .pointer (some ⟨H, 0, none⟩) :: u4 :: u5 :: u6 :: .slice (some ⟨g, 0, none⟩) (3 + ll) c :: u8 :: .int .i64 x :: Kb :: Jy :: Kc :: Jz :: Ka :: Kx :: Kd :: Kw :: Ke :: Kf :: Kg :: Kh :: Ki :: Kj :: Kk :: Kl :: Id :: Ie :: Ig :: Ih :: Jf :: Jg :: Jh :: Ii :: Ij :: Ik :: Il :: Im :: Io :: Ip :: Iq :: Ir :: Is :: It :: Iu :: Iv :: Iw :: Ix :: Iy :: Iz :: Jc :: Jd :: Je :: Ji :: Jj :: Jk :: Jl :: Jm :: Jn :: Jo :: Jp :: Jq :: Jr :: Js :: Jt :: Ju :: Jv :: Jw :: Jx :: .int .i64 5 :: Ky :: Kz :: La :: Lb :: Lt :: Lu :: Lv :: Lw :: Lx :: Ly :: Lz :: Ma :: Mb :: Mc :: Lc :: Ld :: Le :: Lf :: Lg :: Lh :: Li :: Lj :: Lk :: Ll :: Lm :: Ln :: Lo :: Lp :: Lq :: Lr :: Dc :: De :: Df :: Dg :: Dh :: Di :: Dj :: Fj :: Fk :: Fl :: Fm :: Fn :: Fo :: Fp :: Fq :: Fr :: Dk :: Dl :: Dm :: Dn :: Do :: Dp :: Dq :: Ds :: Dt :: Du :: Dv :: Dx :: Dy :: Dz :: Ea :: Eb :: Ec :: Ed :: Ee :: Ef :: Eg :: Eh :: Ei :: Ej :: Ek :: El :: Em :: En :: Eo :: Ep :: Eq :: Er :: Es :: Et :: Eu :: Ev :: Fs :: Ft :: Fu :: Fv :: Fw :: Fx :: Fy :: Fz :: Gc :: Ge :: Gf :: Ew :: Ex :: Ba :: Bb :: Bc :: Bd :: Be :: Bf :: Bg :: Bh :: Bi :: Bj :: Bk :: Bl :: Bm :: Bn :: Bo :: Bp :: Bq :: Br :: Bs :: Bt :: Bu :: Bv :: Bw :: Bz :: Ca :: Ck :: Cl :: Cm :: Cn :: Co :: Cp :: Cq :: Cr :: Cs :: Cb :: Cc :: Cd :: Ce :: Cf :: Cg :: Ch :: Ci :: Cj :: []), []⟩ wr := by
 conv => arg 2; whnf
 have B7 := D7.dw.less ((3 + ll : Nat) : Int) (by omega) (by omega)
 go_wp2_with fail
 refine B7.mono ?_
 rintro y' w7 ⟨⟨z2, rfl, z20, z21⟩, g7, d7⟩
 obtain ⟨k2, rfl⟩ := Int.eq_ofNat_of_zero_le z20
 have D8 := D7.step ⟨g7, d7⟩
 have RM8 := RM7.grown g7 nN
 have hk2 : k2 < m.length := by rw [hml.out]; omega
 have ck2 := RM8.cell (i := k2) hk2
 have yin := hin.out (m.getD k2 0) (by simp [hk2])
 generalize m.getD k2 0 = y at *
 have k2I : (k2 : Int) < ((3 + ll : Nat) : Int) := by omega
 clear B7 D7 g7 d7 RM7 hin
 go_wp2_with fail
 refine reg28 yin hx hN D8 _ _ _ _ _ _ _ _ _ _ _ _ _ _ _ _ _ _ _ _ _ _ _ _ _ _ _ _ _ _ _ _ _ _ _ _ _ _ _ _ _ _ _ _ _ _ _ _ _ _ _ _ _ _ _ _ _ _ _ _ _ _ _ _ _ _ _ _ _ _ _ _ _ _ _ _ _ _ _ _ _ _ _ _ _ _ _ _ _ _ _ _ _ _ _ _ _ _ _ _ _ _ _ _ _ _ _ _ _ _ _ _ _ _ _ _ _ _ _ _ _ _ _ _ _ _ _ _ _ _ _ _ _ _ _ _ _ _ _ _ _ _ _ _ _ _ _ _ _ _ _ _ _ _ _ _ _ _ _ _ _ _ _ _ _ _ _ _ _ _ _ _ _ _ _ _ _ _ _ _ _ _ _ _ _ _ _ _ _ _ _ _ _ _ _ _ _ _ _ _ _ _ _ _ ?_
 intro SB t' q1 q2 q3 f1 f2 f3 b w8 Ct Cu Cv Cw Cx Cy Cz Da Db D9 X9 wl
 clear D8 RM8 ck2
 cases b
 ·go_wp2
  exact hQ.out _ _ _ _ _ _ _ _ _ _ _ _ _ _ _ _ _ _ _ _ _ _ _ _ _ _ _ _ _ _ _ _ _ _ _ _ _ _ _ _ _ _ _ _ _ _ _ _ _ _ _ _ _ _ _ _ _ _ _ _ _ _ _ _ _ _ _ _ _ _ _ _ _ _ _ _ _ _ _ _ _ _ _ _ _ _ _ _ _ _ _ _ _ _ _ _ _ _ _ _ _ _ _ _ _ _ _ _ _ _ _ _ _ _ _ _ _ _ _ D9
 ·obtain ⟨x0, x1, x2, x3, x4, x5, x6, x7⟩ := hv8_cells X9.row
  have OKC : (#[.slice q1 t'.words.length f1, .slice q2 t'.roots.length f2, .int .i64 t'.old, .int .i64 t'.eden, .int .i64 t'.surv, .bool t'.flip, .int .i64 t'.hash, .slice q3 t'.kept.length f3] : Array Value).all (·.oneCell') = true := by simp [Value.oneCell']
  go_wp2_with ((with_reducible refine store_box _ ?_ (.tmp 3) (.tmp 117) 26 ?_ 26 H 8 #[.slice q1 t'.words.length f1, .slice q2 t'.roots.length f2, .int .i64 t'.old, .int .i64 t'.eden, .int .i64 t'.surv, .bool t'.flip, .int .i64 t'.hash, .slice q3 t'.kept.length f3] _ ?_ ?_ D9.row ?_ ?_ OKC ?_); rfl; rfl; rfl; rfl; rfl; kernel_rfl; intro wA F9 G9)
  have DA := D9.take X9.hm X9.sm (wl.out (by simp)) G9 F9
  clear F9 G9 OKC x0 x1 x2 x3 x4 x5 x6 x7 X9 D9
  go_wp2
  exact hQ.out _ _ _ _ _ _ _ _ _ _ _ _ _ _ _ _ _ _ _ _ _ _ _ _ _ _ _ _ _ _ _ _ _ _ _ _ _ _ _ _ _ _ _ _ _ _ _ _ _ _ _ _ _ _ _ _ _ _ _ _ _ _ _ _ _ _ _ _ _ _ _ _ _ _ _ _ _ _ _ _ _ _ _ _ _ _ _ _ _ _ _ _ _ _ _ _ _ _ _ _ _ _ _ _ _ _ _ _ _ _ _ _ _ _ _ _ _ _ _ DA
end Go.Proofs.YthdffigckohpoaaGreat
