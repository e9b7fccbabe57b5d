import Derived.Test.YtboiknllmnfipaaGreatDoorZLSwA
import Derived.Test.YtboiknllmnfipaaGreatDoorZU17
import Derived.Test.YtboiknllmnfipaaGreatDoorZU18
namespace Go.Proofs.YtboiknllmnfipaaGreatDoor
open Go.RowKit
set_option maxRecDepth 100000 in
set_option maxHeartbeats 12800000 in
theorem Dw.heap {N:Nat} {cv:Value} {cs:List UInt8} {w:World} (h:Dw N cv cs w) (hN:N<w.heap.size) :
  Calls Tryz.prog 57 #[.pointer (some ⟨N,0,none⟩)] w fun x w'=>Jcz w N cv cs x w':=by
 have al:=C5 w (.cells #[.slice none 0 0,.slice none 0 0,.int .i64 0,.int .i64 0,.int .i64 0,.bool false,.int .i64 0,.slice none 0 0] 30)
 have NH:=T7 (w.alloc (.cells #[.slice none 0 0,.slice none 0 0,.int .i64 0,.int .i64 0,.int .i64 0,.bool false,.int .i64 0,.slice none 0 0] 30))
 rw [World.size_alloc] at NH
 have RS0:=I0 w #[.slice none 0 0,.slice none 0 0,.int .i64 0,.int .i64 0,.int .i64 0,.bool false,.int .i64 0,.slice none 0 0] 30
 go_enter Tryz.func57,Tryz.ntmps57
 go_wp2_with fail
 refine NH.mono ?_
 rintro e w1 ⟨⟨rfl,RW0⟩,hb1'⟩
 have hb1:Below (w.alloc (.cells #[.slice none 0 0,.slice none 0 0,.int .i64 0,.int .i64 0,.int .i64 0,.bool false,.int .i64 0,.slice none 0 0] 30)).heap.size (w.alloc (.cells #[.slice none 0 0,.slice none 0 0,.int .i64 0,.int .i64 0,.int .i64 0,.bool false,.int .i64 0,.slice none 0 0] 30)) w1:=by simpa using hb1'
 have hbw:=C3 al hb1
 have al2:=C5 w1 (.cells #[.slice (some ⟨w.heap.size+1+1,0,none⟩) 3200 3200,.slice none 0 0,.int .i64 0,.int .i64 2000,.int .i64 2600,.bool false,.int .i64 1,.slice none 0 0] 30)
 have al3:=C5 (w1.alloc (.cells #[.slice (some ⟨w.heap.size+1+1,0,none⟩) 3200 3200,.slice none 0 0,.int .i64 0,.int .i64 2000,.int .i64 2600,.bool false,.int .i64 1,.slice none 0 0] 30)) (.cells #[.int .i64 0,.int .i64 8,.int .i64 (-6)] 2)
 have L0:LD w N cv cs w1.heap.size (w1.heap.size+1) ((w1.alloc (.cells #[.slice (some ⟨w.heap.size+1+1,0,none⟩) 3200 3200,.slice none 0 0,.int .i64 0,.int .i64 2000,.int .i64 2600,.bool false,.int .i64 1,.slice none 0 0] 30)).alloc (.cells #[.int .i64 0,.int .i64 8,.int .i64 (-6)] 2)) newH (some ⟨w.heap.size+1+1,0,none⟩) none none 3200 0 0:=by
  have b3:=C3 (C3 hbw al2) al3
  have R0:=I0 w1 #[.slice (some ⟨w.heap.size+1+1,0,none⟩) 3200 3200,.slice none 0 0,.int .i64 0,.int .i64 2000,.int .i64 2600,.bool false,.int .i64 1,.slice none 0 0] 30
  have R1:=R0.of_block (al3.block _ R0.lt)
  have lt1:w.heap.size<w1.heap.size:=by have:=hb1.size;simp at this;omega
  have nl:newH.words.length=3200:=by simp [newH,Jmz]
  have RW1:=(RW0.later al2).later al3
  have nw:newH.words=List.replicate 3200 0:=rfl
  refine ⟨h.more b3 hN,h,⟨b3.os,b3.tape,b3.output,b3.size,fun k hk _=>b3.block k hk⟩,?_,?_,⟨_,RS0.of_block ((C3 (C3 hb1 al2) al3).block _ RS0.lt)⟩,?_,hN,lt1,by omega,⟨by omega,Nat.zero_le _,Nat.zero_le _⟩,nl⟩
  ·refine R1.congr fun i hi=>?_
   unfold hv8
   rw [nl]
   rcases i with _|_|_|_|_|_|_|_|i
   all_goals first|rfl|(simp at hi;omega)
  ·refine HM.of_owns (h:=newH) (n1:=newH.words.length) rfl ?_ (n2:=0) rfl (Rn _ _) (n3:=0) rfl (Rn _ _) (fun b q=>⟨(fun e=>by cases e),(fun e=>by cases e)⟩) (fun b q e=>by cases e)
   rw [nw] at *
   have q:=RW1.owns (B:=w.heap.size) (by omega) (by unfold maxLen;omega)
   exact q
  ·have q:=I0 (w1.alloc (.cells #[.slice (some ⟨w.heap.size+1+1,0,none⟩) 3200 3200,.slice none 0 0,.int .i64 0,.int .i64 2000,.int .i64 2600,.bool false,.int .i64 1,.slice none 0 0] 30)) #[.int .i64 0,.int .i64 8,.int .i64 (-6)] 2
   rw [World.size_alloc] at q
   refine ⟨_,q,by simp,fun i hi=>?_⟩
   simp only [List.length_cons,List.length_nil] at hi
   rcases i with _|_|_|i
   ·rfl
   ·rfl
   ·rfl
   ·omega
 have B0:=L0.dw.less 24 (by omega) (by omega)
 clear RW0 hb1 hb1' hbw al al2 al3 RS0 NH
 go_wp2_with fail
 refine B0.mono ?_
 rintro x w3 ⟨⟨z,rfl,z0,z1⟩,g3,d3⟩
 have L1:=L0.step ⟨g3,d3⟩
 clear B0 g3 d3 L0
 obtain ⟨cn,rfl⟩:=Int.eq_ofNat_of_zero_le z0
 generalize w1.heap.size+1=gQ at *
 generalize hHH:w1.heap.size=H at *
 clear hHH
 go_wp2
 go_loopw [5] (fun nv wr=>∃ (j:Nat) (t:Hp) (p1 p2 p3:Option Addr) (e1 e2 e3:Nat),nv=.int .i64 j/\j<=24/\LD w N cv cs H gQ wr t p1 p2 p3 e1 e2 e3) (fun nv _=>(intOf nv).toNat)
 case atStart=>exact ⟨cn,_,_,_,_,_,_,_,rfl,by omega,L1⟩
 case round =>
  clear L1
  obtain ⟨j,t,p1,p2,p3,e1,e2,e3,rfl,hj,D⟩:=hrel
  obtain ⟨c0,c1,c2,c3,c4,c5,c6,c7⟩:=C6 D.row
  by_cases hlt:0<j
  ·have hlt' : (0:Int)<(j:Int):=by omega
   have A0:=Ru _ t wr D.hm.hr
   have jm:Hid (∀ x,((j:Int) - 1)=x->∃ i:Nat,x=i/\i<=24/\i<j):=fun x e=>⟨j - 1,by omega,by omega,by omega⟩
   refine wp_seq_k fun K1 hK1=>?_
   have hk1:Hid _:=hK1
   clear hK1
   go_wp2
   refine hk1.out _ _ ?_
   refine wp_seq_k fun K2 hK2=>?_
   have hk2:Hid _:=hK2
   clear hK2
   refine wp_block ?_
   refine wp_seq_k fun K3 hK3=>?_
   have hk3:Hid _:=hK3
   clear hK3
   go_wp2_with fail
   refine A0.mono ?_
   rintro e w4 ⟨⟨l,lv,ls,rfl,OL,-⟩,hb4⟩
   have D4:=D.later hb4
   obtain ⟨la,lc,rfl,hlc⟩:=Si (J2 OL)
   have al5:=C5 w4 (.cells #[] 2)
   have E5:RI (w4.alloc (.cells #[] 2)) w4.heap.size [] 0:=Sw rfl
   have I5:=(D4.wd.later al5).ir (cap:=3) (Nat.le_refl _)
   have s5:(w4.alloc (.cells #[] 2)).heap.size=w4.heap.size+1:=by simp
   clear A0 c0 c1 c2 c3 c4 c5 c6 c7 D hb4 OL
   go_wp2
   refine hk3.out _ _ ?_
   refine wp_seq_k fun K4 hK4=>?_
   have hk4:Hid _:=hK4
   clear hK4
   go_wp2_with (at_builtin;refine Tc _ rfl _ _ rfl w4.heap.size 0 0 [] rfl rfl E5 (Nat.zero_le _) (Nat.zero_le _) (some ⟨gQ,0,none⟩) 3 3 [0,8,-6] rfl rfl I5 (by simp) ?_;intro g6 d6 w6 P6 G6 wh6 mx6;rw [List.nil_append] at P6)
   have B46:Below w4.heap.size w4 w6:=Below.grown al5 G6 (by rw [s5];omega) (fun k hk=>by cases hk;exact Nat.le_refl _)
   have g6b:w4.heap.size<=g6:=by rcases wh6 with e|e <;> omega
   clear E5 I5 G6 wh6 al5
   refine hk4.out _ _ ?_
   refine wp_seq_k fun K5 hK5=>?_
   have hk5:Hid _:=hK5
   clear hK5
   go_wp2
   go_loopw [7,8] (fun rv iv wr=>∃ (i g c:Nat) (m:List Int),i<=l.length/\iv=.int .i64 i/\rv=.slice (some ⟨g,0,none⟩) (3+i) c/\m.length=3+i/\Hid (∀ x,x ∈ m->N8 x)/\RI wr g m c/\c<=maxLen/\w4.heap.size<=g/\Below w4.heap.size w4 wr) (fun _ iv _=>l.length - (intOf iv).toNat)
   case atStart=>exact ⟨0,g6,d6,[0,8,-6],Nat.zero_le _,rfl,rfl,rfl,(fun x hx=>by unfold N8;simp at hx;omega:∀ x,x ∈ [0,8,-6]->N8 x),P6,mx6,g6b,B46⟩
   case round =>
    clear P6 B46 mx6 g6b
    obtain ⟨i,g,c,m,hi,rfl,rfl,hml,hin,RM,mxc,hg,hb⟩:=hrel
    replace hml:Hid (m.length=3+i):=hml
    by_cases hil:i<l.length
    ·have hil' : (i:Int)<(l.length:Int):=by omega
     obtain ⟨lb,lo,rfl,cl⟩:=hlc i hil
     have cl2:=C2 hb cl
     generalize l.getD i 0=a at *
     have al7:=fun y:Int=>C5 wr (.cells #[.int .i64 y] 2)
     have R7:=fun y=>RM.later (al7 y)
     have sz7:∀ y:Int,(wr.alloc (.cells #[.int .i64 y] 2)).heap.size=wr.heap.size+1:=fun y=>by simp
     have I7:∀ y:Int,IR (wr.alloc (.cells #[.int .i64 y] 2)) (.slice (some ⟨wr.heap.size,0,none⟩) 1 1) [y]:=fun y=>⟨_,_,rfl,Nat.le_refl _,fun k hk=>⟨wr.heap.size,0,rfl,by
      simp only [List.length_singleton] at hk
      obtain rfl:k=0:=by omega
      simp⟩⟩
     have hb7:=fun y=>hb.trans ((al7 y).mono hb.size)
     have szr:=hb.size
     clear hlc cl D4
     go_wp2_with (at_builtin;refine Tc _ rfl _ _ rfl g c (3+i) m rfl hml.out.symm (R7 _) (by rw [hml.out];omega) mxc (some ⟨wr.heap.size,0,none⟩) 1 1 [wrap64 (wrap64 (2 * (a:Int))+1)] rfl rfl (I7 _) (by simp) ?_;intro g8 d8 w8 P8 G8 wh8 mx8)
     refine ⟨⟨i+1,g8,d8,m ++ [wrap64 (wrap64 (2 * (a:Int))+1)],by omega,by go_num,rfl,by rw [List.length_append,hml.out];rfl,(fun x hx=>?_:∀ x,x ∈ m ++ [wrap64 (wrap64 (2 * (a:Int))+1)]->N8 x),P8,mx8,by rw [sz7] at wh8;rcases wh8 with e|e <;> omega,Below.grown (hb7 _) G8 (by rw [sz7];omega) (fun k hk=>by cases hk;exact hg)⟩,by simp [intOf];omega⟩
     rw [List.mem_append,List.mem_singleton] at hx
     rcases hx with hx|rfl
     ·exact hin.out x hx
     ·exact Jkm _
    ·obtain rfl:i=l.length:=by omega
     have nil' : ¬ (l.length:Int)<(l.length:Int):=by omega
     have D5:=D4.later hb
     have szr:=hb.size
     have sz4:=D4.gr.size
     have B5:=D5.dw.less ((3+l.length:Nat):Int) (by omega) (by omega)
     clear hlc D4
     go_wp2
     refine hk5.out _ _ ?_
     refine wp_seq_k fun K6 hK6=>?_
     have hk6:Hid _:=hK6
     clear hK6
     go_wp2_with fail
     refine B5.mono ?_
     rintro x w5 ⟨⟨z,rfl,z0,z1⟩,g5,d5⟩
     obtain ⟨k,rfl⟩:=Int.eq_ofNat_of_zero_le z0
     have D6:=D5.step ⟨g5,d5⟩
     have nN:some g ≠ some N:=fun e=>by injection e;omega
     have RM5:=RM.grown g5 nN
     have hkl:k<m.length:=by rw [hml.out];omega
     have ck:=RM5.cell (i:=k) hkl
     have xin:=hin.out (m.getD k 0) (by simp [hkl])
     generalize m.getD k 0=x at *
     have kI:(k:Int)<((3+l.length:Nat):Int):=by omega
     have B6:=D6.dw.less 9 (by omega) (by omega)
     clear B5 D5 g5 d5 RM
     go_wp2
     refine hk6.out _ _ ?_
     refine wp_seq_k fun K7 hK7=>?_
     have hk7:Hid _:=hK7
     clear hK7
     go_wp2_with fail
     refine B6.mono ?_
     rintro y w6 ⟨⟨z,rfl,z0,z1⟩,g6,d6⟩
     have D7:=D6.step ⟨g6,d6⟩
     have RM7:=RM5.grown g6 nN
     have hx:N8 x:=xin
     clear B6 D6 g6 d6 RM5 hb ck
     have jv:Hid (Value.int .i64 ((j:Int) - 1)=.int .i64 ((j - 1:Nat):Int)):=(by rw [show ((j - 1:Nat):Int)=(j:Int) - 1 from by omega]:Value.int .i64 ((j:Int) - 1)=.int .i64 ((j - 1:Nat):Int))
     have hjw:(j:Int)<=24:=by omega
     go_wp2
     refine hk7.out _ _ ?_
     rcases (show z=0 ∨ z=1 ∨ z=2 ∨ z=3 ∨ z=4 ∨ z=5 ∨ z=6 ∨ z=7 ∨ z=8 from by omega) with rfl|rfl|rfl|rfl|rfl|rfl|rfl|rfl|rfl
     ·refine sw0 ls RM7 hml hin nN hx hN D7 _ _ _ _ _ _ _ _ _ _ _ _ _ _ _ _ _ _ _ _ _ _ _ _ _ _ _ _ _ _ _ _ _ _ _ _ _ _ _ _ _ _ _ _ _ _ _ _ _ _ _ _ _ _ _ _ _ _ _ _ _ _ _ _ _ _ _ _ _ _ _ _ _ _ _ _ _ _ _ _ _ _ _ _ _ _ _ _ _ _ _ _ _ _ _ _ _ _ _ _ _ _ _ _ _ _ _ _ _ _ _ _ _ _ _ _ _ _ _ _ _ _ _ _ _ _ _ _ _ _ _ _ _ _ _ _ _ _ _ _ _ _ _ _ _ _ _ _ _ _ _ _ _ _ _ _ _ _ _ _ _ _ _ _ _ _ _ _ _ _ _ _ _ _ _ _ _ _ _ _ _ _ _ _ _ _ _ _ _ _ _ _ _ _ _ _ _ _ _ _ _ _ _ ?_
      unfold Hid
      intro t' q1 q2 q3 f1 f2 f3 w9 Md Me Mf Mg Mh Mi Mj Mk Ml Mm Mn Mo Mp Mq Mr Ms Mt Mu Mv Mw Lr Lt Lu Lv Lw Lx Ly Lz Ma Mb Mx My Mz Na Nb Nc Nf Ng Nh Ni Nj Nk Nl Nm Nn Np Gc Gd Ge Gf Gg Gh Gi Ds Dt Du Dv Dx Dy Dz Ea Eb Gj Gk Gl Gm Gn Gp Gs Gt Gu Gv Gw Gx Gy Gz Ha Hb Hc Hd He Hf Hg Hh Hi Hj Hk Hl Hm Hn Ho Hq Hr Hs Ht Hu Hv Hw Fg Fh Fi Fj Fk Fl Fm Fn Fo Fp Fq Hx Hy D9
      refine hk2.out _ _ ?_
      go_wp2
      exact ⟨⟨j - 1,_,_,_,_,_,_,_,jv.out,by omega,D9⟩,by simp [intOf];omega⟩
     ·refine sw1 ls RM7 hml hin nN hx hN D7 _ _ _ _ _ _ _ _ _ _ _ _ _ _ _ _ _ _ _ _ _ _ _ _ _ _ _ _ _ _ _ _ _ _ _ _ _ _ _ _ _ _ _ _ _ _ _ _ _ _ _ _ _ _ _ _ _ _ _ _ _ _ _ _ _ _ _ _ _ _ _ _ _ _ _ _ _ _ _ _ _ _ _ _ _ _ _ _ _ _ _ _ _ _ _ _ _ _ _ _ _ _ _ _ _ _ _ _ _ _ _ _ _ _ _ _ _ _ _ _ _ _ _ _ _ _ _ _ _ _ _ _ _ _ _ _ _ _ _ _ _ _ _ _ _ _ _ _ _ _ _ _ _ _ _ _ _ _ _ _ _ _ _ _ _ _ _ _ _ _ _ _ _ _ _ _ _ _ _ _ _ _ _ _ _ _ _ _ _ _ _ _ _ _ _ _ _ _ _ _ _ _ _ ?_
      unfold Hid
      intro t' q1 q2 q3 f1 f2 f3 w9 Md Me Mf Mg Mh Mi Mj Mk Ml Mm Mn Mo Mp Mq Mr Ms Mt Mu Mv Mw Lr Lt Lu Lv Lw Lx Ly Lz Ma Mb Mx My Mz Na Nb Nc Nf Ng Nh Ni Nj Nk Nl Nm Nn Np Gc Gd Ge Gf Gg Gh Gi Ds Dt Du Dv Dx Dy Dz Ea Eb Gj Gk Gl Gm Gn Gp Gs Gt Gu Gv Gw Gx Gy Gz Ha Hb Hc Hd He Hf Hg Hh Hi Hj Hk Hl Hm Hn Ho Hq Hr Hs Ht Hu Hv Hw Fg Fh Fi Fj Fk Fl Fm Fn Fo Fp Fq Hx Hy D9
      refine hk2.out _ _ ?_
      go_wp2
      exact ⟨⟨j - 1,_,_,_,_,_,_,_,jv.out,by omega,D9⟩,by simp [intOf];omega⟩
     ·refine sw2 ls RM7 hml hin nN hx hN D7 _ _ _ _ _ _ _ _ _ _ _ _ _ _ _ _ _ _ _ _ _ _ _ _ _ _ _ _ _ _ _ _ _ _ _ _ _ _ _ _ _ _ _ _ _ _ _ _ _ _ _ _ _ _ _ _ _ _ _ _ _ _ _ _ _ _ _ _ _ _ _ _ _ _ _ _ _ _ _ _ _ _ _ _ _ _ _ _ _ _ _ _ _ _ _ _ _ _ _ _ _ _ _ _ _ _ _ _ _ _ _ _ _ _ _ _ _ _ _ _ _ _ _ _ _ _ _ _ _ _ _ _ _ _ _ _ _ _ _ _ _ _ _ _ _ _ _ _ _ _ _ _ _ _ _ _ _ _ _ _ _ _ _ _ _ _ _ _ _ _ _ _ _ _ _ _ _ _ _ _ _ _ _ _ _ _ _ _ _ _ _ _ _ _ _ _ _ _ _ _ _ _ _ ?_
      unfold Hid
      intro t' q1 q2 q3 f1 f2 f3 w9 Md Me Mf Mg Mh Mi Mj Mk Ml Mm Mn Mo Mp Mq Mr Ms Mt Mu Mv Mw Lr Lt Lu Lv Lw Lx Ly Lz Ma Mb Mx My Mz Na Nb Nc Nf Ng Nh Ni Nj Nk Nl Nm Nn Np Gc Gd Ge Gf Gg Gh Gi Ds Dt Du Dv Dx Dy Dz Ea Eb Gj Gk Gl Gm Gn Gp Gs Gt Gu Gv Gw Gx Gy Gz Ha Hb Hc Hd He Hf Hg Hh Hi Hj Hk Hl Hm Hn Ho Hq Hr Hs Ht Hu Hv Hw Fg Fh Fi Fj Fk Fl Fm Fn Fo Fp Fq Hx Hy D9
      refine hk2.out _ _ ?_
      go_wp2
      exact ⟨⟨j - 1,_,_,_,_,_,_,_,jv.out,by omega,D9⟩,by simp [intOf];omega⟩
     ·refine sw3 ls RM7 hml hin nN hx hN D7 _ _ _ _ _ _ _ _ _ _ _ _ _ _ _ _ _ _ _ _ _ _ _ _ _ _ _ _ _ _ _ _ _ _ _ _ _ _ _ _ _ _ _ _ _ _ _ _ _ _ _ _ _ _ _ _ _ _ _ _ _ _ _ _ _ _ _ _ _ _ _ _ _ _ _ _ _ _ _ _ _ _ _ _ _ _ _ _ _ _ _ _ _ _ _ _ _ _ _ _ _ _ _ _ _ _ _ _ _ _ _ _ _ _ _ _ _ _ _ _ _ _ _ _ _ _ _ _ _ _ _ _ _ _ _ _ _ _ _ _ _ _ _ _ _ _ _ _ _ _ _ _ _ _ _ _ _ _ _ _ _ _ _ _ _ _ _ _ _ _ _ _ _ _ _ _ _ _ _ _ _ _ _ _ _ _ _ _ _ _ _ _ _ _ _ _ _ _ _ _ _ _ _ ?_
      unfold Hid
      intro t' q1 q2 q3 f1 f2 f3 w9 Md Me Mf Mg Mh Mi Mj Mk Ml Mm Mn Mo Mp Mq Mr Ms Mt Mu Mv Mw Lr Lt Lu Lv Lw Lx Ly Lz Ma Mb Mx My Mz Na Nb Nc Nf Ng Nh Ni Nj Nk Nl Nm Nn Np Gc Gd Ge Gf Gg Gh Gi Ds Dt Du Dv Dx Dy Dz Ea Eb Gj Gk Gl Gm Gn Gp Gs Gt Gu Gv Gw Gx Gy Gz Ha Hb Hc Hd He Hf Hg Hh Hi Hj Hk Hl Hm Hn Ho Hq Hr Hs Ht Hu Hv Hw Fg Fh Fi Fj Fk Fl Fm Fn Fo Fp Fq Hx Hy D9
      refine hk2.out _ _ ?_
      go_wp2
      exact ⟨⟨j - 1,_,_,_,_,_,_,_,jv.out,by omega,D9⟩,by simp [intOf];omega⟩
     ·refine sw4 ls RM7 hml hin nN hx hN D7 _ _ _ _ _ _ _ _ _ _ _ _ _ _ _ _ _ _ _ _ _ _ _ _ _ _ _ _ _ _ _ _ _ _ _ _ _ _ _ _ _ _ _ _ _ _ _ _ _ _ _ _ _ _ _ _ _ _ _ _ _ _ _ _ _ _ _ _ _ _ _ _ _ _ _ _ _ _ _ _ _ _ _ _ _ _ _ _ _ _ _ _ _ _ _ _ _ _ _ _ _ _ _ _ _ _ _ _ _ _ _ _ _ _ _ _ _ _ _ _ _ _ _ _ _ _ _ _ _ _ _ _ _ _ _ _ _ _ _ _ _ _ _ _ _ _ _ _ _ _ _ _ _ _ _ _ _ _ _ _ _ _ _ _ _ _ _ _ _ _ _ _ _ _ _ _ _ _ _ _ _ _ _ _ _ _ _ _ _ _ _ _ _ _ _ _ _ _ _ _ _ _ _ ?_
      unfold Hid
      intro t' q1 q2 q3 f1 f2 f3 w9 Md Me Mf Mg Mh Mi Mj Mk Ml Mm Mn Mo Mp Mq Mr Ms Mt Mu Mv Mw Lr Lt Lu Lv Lw Lx Ly Lz Ma Mb Mx My Mz Na Nb Nc Nf Ng Nh Ni Nj Nk Nl Nm Nn Np Gc Gd Ge Gf Gg Gh Gi Ds Dt Du Dv Dx Dy Dz Ea Eb Gj Gk Gl Gm Gn Gp Gs Gt Gu Gv Gw Gx Gy Gz Ha Hb Hc Hd He Hf Hg Hh Hi Hj Hk Hl Hm Hn Ho Hq Hr Hs Ht Hu Hv Hw Fg Fh Fi Fj Fk Fl Fm Fn Fo Fp Fq Hx Hy D9
      refine hk2.out _ _ ?_
      go_wp2
      exact ⟨⟨j - 1,_,_,_,_,_,_,_,jv.out,by omega,D9⟩,by simp [intOf];omega⟩
     ·refine sw5 ls RM7 hml hin nN hx hN D7 _ _ _ _ _ _ _ _ _ _ _ _ _ _ _ _ _ _ _ _ _ _ _ _ _ _ _ _ _ _ _ _ _ _ _ _ _ _ _ _ _ _ _ _ _ _ _ _ _ _ _ _ _ _ _ _ _ _ _ _ _ _ _ _ _ _ _ _ _ _ _ _ _ _ _ _ _ _ _ _ _ _ _ _ _ _ _ _ _ _ _ _ _ _ _ _ _ _ _ _ _ _ _ _ _ _ _ _ _ _ _ _ _ _ _ _ _ _ _ _ _ _ _ _ _ _ _ _ _ _ _ _ _ _ _ _ _ _ _ _ _ _ _ _ _ _ _ _ _ _ _ _ _ _ _ _ _ _ _ _ _ _ _ _ _ _ _ _ _ _ _ _ _ _ _ _ _ _ _ _ _ _ _ _ _ _ _ _ _ _ _ _ _ _ _ _ _ _ _ _ _ _ _ ?_
      unfold Hid
      intro t' q1 q2 q3 f1 f2 f3 w9 Md Me Mf Mg Mh Mi Mj Mk Ml Mm Mn Mo Mp Mq Mr Ms Mt Mu Mv Mw Lr Lt Lu Lv Lw Lx Ly Lz Ma Mb Mx My Mz Na Nb Nc Nf Ng Nh Ni Nj Nk Nl Nm Nn Np Gc Gd Ge Gf Gg Gh Gi Ds Dt Du Dv Dx Dy Dz Ea Eb Gj Gk Gl Gm Gn Gp Gs Gt Gu Gv Gw Gx Gy Gz Ha Hb Hc Hd He Hf Hg Hh Hi Hj Hk Hl Hm Hn Ho Hq Hr Hs Ht Hu Hv Hw Fg Fh Fi Fj Fk Fl Fm Fn Fo Fp Fq Hx Hy D9
      refine hk2.out _ _ ?_
      go_wp2
      exact ⟨⟨j - 1,_,_,_,_,_,_,_,jv.out,by omega,D9⟩,by simp [intOf];omega⟩
     ·refine sw6 ls RM7 hml hin nN hx hN D7 _ _ _ _ _ _ _ _ _ _ _ _ _ _ _ _ _ _ _ _ _ _ _ _ _ _ _ _ _ _ _ _ _ _ _ _ _ _ _ _ _ _ _ _ _ _ _ _ _ _ _ _ _ _ _ _ _ _ _ _ _ _ _ _ _ _ _ _ _ _ _ _ _ _ _ _ _ _ _ _ _ _ _ _ _ _ _ _ _ _ _ _ _ _ _ _ _ _ _ _ _ _ _ _ _ _ _ _ _ _ _ _ _ _ _ _ _ _ _ _ _ _ _ _ _ _ _ _ _ _ _ _ _ _ _ _ _ _ _ _ _ _ _ _ _ _ _ _ _ _ _ _ _ _ _ _ _ _ _ _ _ _ _ _ _ _ _ _ _ _ _ _ _ _ _ _ _ _ _ _ _ _ _ _ _ _ _ _ _ _ _ _ _ _ _ _ _ _ _ _ _ _ _ ?_
      unfold Hid
      intro t' q1 q2 q3 f1 f2 f3 w9 Md Me Mf Mg Mh Mi Mj Mk Ml Mm Mn Mo Mp Mq Mr Ms Mt Mu Mv Mw Lr Lt Lu Lv Lw Lx Ly Lz Ma Mb Mx My Mz Na Nb Nc Nf Ng Nh Ni Nj Nk Nl Nm Nn Np Gc Gd Ge Gf Gg Gh Gi Ds Dt Du Dv Dx Dy Dz Ea Eb Gj Gk Gl Gm Gn Gp Gs Gt Gu Gv Gw Gx Gy Gz Ha Hb Hc Hd He Hf Hg Hh Hi Hj Hk Hl Hm Hn Ho Hq Hr Hs Ht Hu Hv Hw Fg Fh Fi Fj Fk Fl Fm Fn Fo Fp Fq Hx Hy D9
      refine hk2.out _ _ ?_
      go_wp2
      exact ⟨⟨j - 1,_,_,_,_,_,_,_,jv.out,by omega,D9⟩,by simp [intOf];omega⟩
     ·refine sw7 ls RM7 hml hin nN hx hN D7 _ _ _ _ _ _ _ _ _ _ _ _ _ _ _ _ _ _ _ _ _ _ _ _ _ _ _ _ _ _ _ _ _ _ _ _ _ _ _ _ _ _ _ _ _ _ _ _ _ _ _ _ _ _ _ _ _ _ _ _ _ _ _ _ _ _ _ _ _ _ _ _ _ _ _ _ _ _ _ _ _ _ _ _ _ _ _ _ _ _ _ _ _ _ _ _ _ _ _ _ _ _ _ _ _ _ _ _ _ _ _ _ _ _ _ _ _ _ _ _ _ _ _ _ _ _ _ _ _ _ _ _ _ _ _ _ _ _ _ _ _ _ _ _ _ _ _ _ _ _ _ _ _ _ _ _ _ _ _ _ _ _ _ _ _ _ _ _ _ _ _ _ _ _ _ _ _ _ _ _ _ _ _ _ _ _ _ _ _ _ _ _ _ _ _ _ _ _ _ _ _ _ _ ?_
      unfold Hid
      intro t' q1 q2 q3 f1 f2 f3 w9 Md Me Mf Mg Mh Mi Mj Mk Ml Mm Mn Mo Mp Mq Mr Ms Mt Mu Mv Mw Lr Lt Lu Lv Lw Lx Ly Lz Ma Mb Mx My Mz Na Nb Nc Nf Ng Nh Ni Nj Nk Nl Nm Nn Np Gc Gd Ge Gf Gg Gh Gi Ds Dt Du Dv Dx Dy Dz Ea Eb Gj Gk Gl Gm Gn Gp Gs Gt Gu Gv Gw Gx Gy Gz Ha Hb Hc Hd He Hf Hg Hh Hi Hj Hk Hl Hm Hn Ho Hq Hr Hs Ht Hu Hv Hw Fg Fh Fi Fj Fk Fl Fm Fn Fo Fp Fq Hx Hy D9
      refine hk2.out _ _ ?_
      go_wp2
      exact ⟨⟨j - 1,_,_,_,_,_,_,_,jv.out,by omega,D9⟩,by simp [intOf];omega⟩
     ·refine sw8 ls RM7 hml hin nN hx hN D7 _ _ _ _ _ _ _ _ _ _ _ _ _ _ _ _ _ _ _ _ _ _ _ _ _ _ _ _ _ _ _ _ _ _ _ _ _ _ _ _ _ _ _ _ _ _ _ _ _ _ _ _ _ _ _ _ _ _ _ _ _ _ _ _ _ _ _ _ _ _ _ _ _ _ _ _ _ _ _ _ _ _ _ _ _ _ _ _ _ _ _ _ _ _ _ _ _ _ _ _ _ _ _ _ _ _ _ _ _ _ _ _ _ _ _ _ _ _ _ _ _ _ _ _ _ _ _ _ _ _ _ _ _ _ _ _ _ _ _ _ _ _ _ _ _ _ _ _ _ _ _ _ _ _ _ _ _ _ _ _ _ _ _ _ _ _ _ _ _ _ _ _ _ _ _ _ _ _ _ _ _ _ _ _ _ _ _ _ _ _ _ _ _ _ _ _ _ _ _ _ _ _ _ ?_
      unfold Hid
      intro t' q1 q2 q3 f1 f2 f3 w9 Md Me Mf Mg Mh Mi Mj Mk Ml Mm Mn Mo Mp Mq Mr Ms Mt Mu Mv Mw Lr Lt Lu Lv Lw Lx Ly Lz Ma Mb Mx My Mz Na Nb Nc Nf Ng Nh Ni Nj Nk Nl Nm Nn Np Gc Gd Ge Gf Gg Gh Gi Ds Dt Du Dv Dx Dy Dz Ea Eb Gj Gk Gl Gm Gn Gp Gs Gt Gu Gv Gw Gx Gy Gz Ha Hb Hc Hd He Hf Hg Hh Hi Hj Hk Hl Hm Hn Ho Hq Hr Hs Ht Hu Hv Hw Fg Fh Fi Fj Fk Fl Fm Fn Fo Fp Fq Hx Hy D9
      refine hk2.out _ _ ?_
      go_wp2
      exact ⟨⟨j - 1,_,_,_,_,_,_,_,jv.out,by omega,D9⟩,by simp [intOf];omega⟩
  ·obtain rfl:j=0:=by omega
   have hj0:¬ (0:Int)<((0:Nat):Int):=by omega
   clear hlt c0 c1 c2 c3 c4 c5 c6 c7
   have BO:=D.dw.once 20 (by omega) (by omega)
   go_wp2_with fail
   refine BO.mono ?_
   rintro x wO ⟨⟨bo,rfl⟩,go,dO⟩
   have DX:=D.step ⟨go,dO⟩
   clear BO go dO D
   cases bo
   ·have BP:=DX.dw.once 12 (by omega) (by omega)
    go_wp2_with fail
    refine BP.mono ?_
    rintro x wP ⟨⟨bp,rfl⟩,gp,dP⟩
    have D2:=DX.step ⟨gp,dP⟩
    clear BP gp dP DX
    cases bp
    ·obtain ⟨c0,c1,c2,c3,c4,c5,c6,c7⟩:=C6 D2.row
     obtain ⟨fR,FR⟩:=D2.res
     have OKC:(#[.slice p1 t.words.length e1,.slice p2 t.roots.length e2,.int .i64 t.old,.int .i64 t.eden,.int .i64 t.surv,.bool t.flip,.int .i64 t.hash,.slice p3 t.kept.length e3]:Array Value).all (·.oneCell')=true:=by simp [Value.oneCell']
     go_wp2_with ((with_reducible refine C9 _ ?_ (.tmp 2) (.tmp 207) 30 ?_ 30 w.heap.size 8 #[.slice p1 t.words.length e1,.slice p2 t.roots.length e2,.int .i64 t.old,.int .i64 t.eden,.int .i64 t.surv,.bool t.flip,.int .i64 t.hash,.slice p3 t.kept.length e3] _ ?_ ?_ FR ?_ ?_ OKC ?_);rfl;rfl;rfl;rfl;rfl;kernel_rfl;intro w9 F9 G9)
     obtain ⟨r0,r1,r2,r3,r4,r5,r6,r7⟩:=C6 (t:=t) (p1:=p1) (p2:=p2) (p3:=p3) (e1:=e1) (e2:=e2) (e3:=e3) F9
     exact bodyPost_ret (v:=.agg #[.slice p1 t.words.length e1,.slice p2 t.roots.length e2,.int .i64 t.old,.int .i64 t.eden,.int .i64 t.surv,.bool t.flip,.int .i64 t.hash,.slice p3 t.kept.length e3]) (by simp [results,Tryz.results57,go_sem,r0,r1,r2,r3,r4,r5,r6,r7]) rfl (D2.done G9)
    ·have B2:=D2.dw.less 14 (by omega) (by omega)
     go_wp2_with fail
     refine B2.mono ?_
     rintro x w3 ⟨⟨z,rfl,z0,z1⟩,g3,d3⟩
     have D3:=D2.step ⟨g3,d3⟩
     clear B2 g3 d3 D2
     obtain ⟨cn,rfl⟩:=Int.eq_ofNat_of_zero_le z0
     go_wp2
     go_loopw [29] (fun nv wr=>∃ (j:Nat) (t:Hp) (p1 p2 p3:Option Addr) (e1 e2 e3:Nat),nv=.int .i64 j/\j<=24/\LD w N cv cs H gQ wr t p1 p2 p3 e1 e2 e3) (fun nv _=>(intOf nv).toNat)
     case atStart=>exact ⟨cn,_,_,_,_,_,_,_,rfl,by omega,D3⟩
     case round =>
      clear D3
      obtain ⟨j,t,p1,p2,p3,e1,e2,e3,rfl,hj,D⟩:=hrel
      have c1:=(C6 D.row).2.1
      by_cases hlt:0<j
      ·have hlt' : (0:Int)<(j:Int):=by omega
       have jv:Hid (Value.int .i64 ((j:Int) - 1)=.int .i64 ((j - 1:Nat):Int)):=(by rw [show ((j - 1:Nat):Int)=(j:Int) - 1 from by omega]:Value.int .i64 ((j:Int) - 1)=.int .i64 ((j - 1:Nat):Int))
       by_cases hr:t.roots.length<20
       ·have hr' : (t.roots.length:Int)<20:=by omega
        go_wp2_with fail
        refine Jlk  hN D _ _ _ _ _ _ _ _ _ _ _ _ _ _ _ _ _ _ _ _ _ _ _ _ _ _ _ _ _ _ _ _ _ _ _ _ _ _ _ _ _ _ _ _ _ _ _ _ _ _ _ _ _ _ _ _ _ _ _ _ _ _ _ _ _ _ _ _ _ _ _ _ _ _ _ _ _ _ _ _ _ _ _ _ _ _ _ _ _ _ _ _ _ _ _ _ _ _ _ _ _ _ _ _ _ _ _ _ _ _ _ _ _ _ _ _ _ _ _ _ _ _ _ _ _ _ _ _ _ _ _ _ _ _ _ _ _ _ _ _ _ _ _ _ _ _ _ _ _ _ _ _ _ _ _ _ _ _ _ _ _ _ _ _ _ _ _ _ _ _ _ _ _ _ _ _ _ _ _ _ _ _ _ _ _ _ _ _ _ _ _ _ _ _ _ _ _ _ _ _ _ _ _ _ _ _ ?_
        intro SB t' q1 q2 q3 f1 f2 f3 r b w8 Nr Ns Nt Nu Nv Nw Nx Ny Nz D8 X8 rin wl an
        (
         clear D c1
         cases b
         ·obtain ⟨c0,c1,c2,c3,c4,c5,c6,c7⟩:=C6 D8.row
          obtain ⟨fR,FR⟩:=D8.res
          have OKC:(#[.slice p1 t.words.length e1,.slice p2 t.roots.length e2,.int .i64 t.old,.int .i64 t.eden,.int .i64 t.surv,.bool t.flip,.int .i64 t.hash,.slice p3 t.kept.length e3]:Array Value).all (·.oneCell')=true:=by simp [Value.oneCell']
          go_wp2_with ((with_reducible refine C9 _ ?_ (.tmp 2) (.tmp 207) 30 ?_ 30 w.heap.size 8 #[.slice p1 t.words.length e1,.slice p2 t.roots.length e2,.int .i64 t.old,.int .i64 t.eden,.int .i64 t.surv,.bool t.flip,.int .i64 t.hash,.slice p3 t.kept.length e3] _ ?_ ?_ FR ?_ ?_ OKC ?_);rfl;rfl;rfl;rfl;rfl;kernel_rfl;intro w9 F9 G9)
          obtain ⟨r0,r1,r2,r3,r4,r5,r6,r7⟩:=C6 (t:=t) (p1:=p1) (p2:=p2) (p3:=p3) (e1:=e1) (e2:=e2) (e3:=e3) F9
          exact bodyPost_ret (v:=.agg #[.slice p1 t.words.length e1,.slice p2 t.roots.length e2,.int .i64 t.old,.int .i64 t.eden,.int .i64 t.surv,.bool t.flip,.int .i64 t.hash,.slice p3 t.kept.length e3]) (by simp [results,Tryz.results57,go_sem,r0,r1,r2,r3,r4,r5,r6,r7]) rfl (D8.done G9)
         ·obtain ⟨x0,x1,x2,x3,x4,x5,x6,x7⟩:=C6 X8.row
          have KC:=Jlf X8.hm.hr X8.sm r rin (an.out (by simp) hr)
          go_wp2_with fail
          refine KC.mono ?_
          rintro e wK ⟨⟨u,t2,rfl,HU,su,wl2⟩,hbk⟩
          replace wl2:Hid (t2.words.length=3200):=wl2
          obtain ⟨s1,s2,s3,h1,h2,h3,rfl⟩:=HU.shape
          have DK:=D8.later hbk
          have HK:=HU.low (C:=w.heap.size) D8.gr.size
          have OKC:(#[.slice s1 t2.words.length h1,.slice s2 t2.roots.length h2,.int .i64 t2.old,.int .i64 t2.eden,.int .i64 t2.surv,.bool t2.flip,.int .i64 t2.hash,.slice s3 t2.kept.length h3]:Array Value).all (·.oneCell')=true:=by simp [Value.oneCell']
          clear KC hbk HU x0 x1 x2 x3 x4 x5 x6 x7 X8
          go_wp2_with ((with_reducible refine C9 _ ?_ (.tmp 3) (.tmp 205) 30 ?_ 30 H 8 #[.slice s1 t2.words.length h1,.slice s2 t2.roots.length h2,.int .i64 t2.old,.int .i64 t2.eden,.int .i64 t2.surv,.bool t2.flip,.int .i64 t2.hash,.slice s3 t2.kept.length h3] _ ?_ ?_ DK.row ?_ ?_ OKC ?_);rfl;rfl;rfl;rfl;rfl;kernel_rfl;intro w9 F9 G9)
          have D9:=DK.take HK su wl2.out G9 F9
          clear F9 G9 OKC HK DK D8
          go_wp2
          exact ⟨⟨j - 1,_,_,_,_,_,_,_,jv.out,by omega,D9⟩,by simp [intOf];omega⟩
        )
       ·have hr' : ¬ (t.roots.length:Int)<20:=by omega
        obtain ⟨c0,c1,c2,c3,c4,c5,c6,c7⟩:=C6 D.row
        obtain ⟨fR,FR⟩:=D.res
        have OKC:(#[.slice p1 t.words.length e1,.slice p2 t.roots.length e2,.int .i64 t.old,.int .i64 t.eden,.int .i64 t.surv,.bool t.flip,.int .i64 t.hash,.slice p3 t.kept.length e3]:Array Value).all (·.oneCell')=true:=by simp [Value.oneCell']
        go_wp2_with ((with_reducible refine C9 _ ?_ (.tmp 2) (.tmp 207) 30 ?_ 30 w.heap.size 8 #[.slice p1 t.words.length e1,.slice p2 t.roots.length e2,.int .i64 t.old,.int .i64 t.eden,.int .i64 t.surv,.bool t.flip,.int .i64 t.hash,.slice p3 t.kept.length e3] _ ?_ ?_ FR ?_ ?_ OKC ?_);rfl;rfl;rfl;rfl;rfl;kernel_rfl;intro w9 F9 G9)
        obtain ⟨r0,r1,r2,r3,r4,r5,r6,r7⟩:=C6 (t:=t) (p1:=p1) (p2:=p2) (p3:=p3) (e1:=e1) (e2:=e2) (e3:=e3) F9
        exact bodyPost_ret (v:=.agg #[.slice p1 t.words.length e1,.slice p2 t.roots.length e2,.int .i64 t.old,.int .i64 t.eden,.int .i64 t.surv,.bool t.flip,.int .i64 t.hash,.slice p3 t.kept.length e3]) (by simp [results,Tryz.results57,go_sem,r0,r1,r2,r3,r4,r5,r6,r7]) rfl (D.done G9)
      ·obtain rfl:j=0:=by omega
       have hlt' : ¬ (0:Int)<((0:Nat):Int):=by omega
       obtain ⟨c0,c1,c2,c3,c4,c5,c6,c7⟩:=C6 D.row
       obtain ⟨fR,FR⟩:=D.res
       have OKC:(#[.slice p1 t.words.length e1,.slice p2 t.roots.length e2,.int .i64 t.old,.int .i64 t.eden,.int .i64 t.surv,.bool t.flip,.int .i64 t.hash,.slice p3 t.kept.length e3]:Array Value).all (·.oneCell')=true:=by simp [Value.oneCell']
       go_wp2_with ((with_reducible refine C9 _ ?_ (.tmp 2) (.tmp 207) 30 ?_ 30 w.heap.size 8 #[.slice p1 t.words.length e1,.slice p2 t.roots.length e2,.int .i64 t.old,.int .i64 t.eden,.int .i64 t.surv,.bool t.flip,.int .i64 t.hash,.slice p3 t.kept.length e3] _ ?_ ?_ FR ?_ ?_ OKC ?_);rfl;rfl;rfl;rfl;rfl;kernel_rfl;intro w9 F9 G9)
       obtain ⟨r0,r1,r2,r3,r4,r5,r6,r7⟩:=C6 (t:=t) (p1:=p1) (p2:=p2) (p3:=p3) (e1:=e1) (e2:=e2) (e3:=e3) F9
       exact bodyPost_ret (v:=.agg #[.slice p1 t.words.length e1,.slice p2 t.roots.length e2,.int .i64 t.old,.int .i64 t.eden,.int .i64 t.surv,.bool t.flip,.int .i64 t.hash,.slice p3 t.kept.length e3]) (by simp [results,Tryz.results57,go_sem,r0,r1,r2,r3,r4,r5,r6,r7]) rfl (D.done G9)
   ·go_wp2
    go_loopw [] (fun wr=>∃ (t:Hp) (p1 p2 p3:Option Addr) (e1 e2 e3:Nat),LD w N cv cs H gQ wr t p1 p2 p3 e1 e2 e3) (fun wr=>2700 - Jmb H wr)
    case atStart=>exact ⟨t,_,_,_,_,_,_,DX⟩
    case round =>
     clear DX
     obtain ⟨t,p1,p2,p3,e1,e2,e3,D⟩:=hrel
     have hed:=Jdx (C6 D.row).2.2.2.1
     obtain ⟨c0,c1,c2,c3,c4,c5,c6,c7⟩:=C6 D.row
     have KC:=Jcc D.hm.hr D.sm 7 60
     go_wp2_with fail
     refine KC.mono ?_
     rintro e w8 ⟨⟨u,r,b,t',rfl,HU,su,inr,gr,wl,an⟩,hbk⟩
     replace wl:Hid (b=true->t'.words.length=3200):=wl
     replace an:Hid (b=true->t.roots.length<20->Pu t' r=true):=an
     obtain ⟨q1,q2,q3,f1,f2,f3,rfl⟩:=HU.shape
     have DK:=D.later hbk
     have alk:=C5 w8 (.cells #[.slice q1 t'.words.length f1,.slice q2 t'.roots.length f2,.int .i64 t'.old,.int .i64 t'.eden,.int .i64 t'.surv,.bool t'.flip,.int .i64 t'.hash,.slice q3 t'.kept.length f3] 30)
     have X9:XB w (w8.alloc (.cells #[.slice q1 t'.words.length f1,.slice q2 t'.roots.length f2,.int .i64 t'.old,.int .i64 t'.eden,.int .i64 t'.surv,.bool t'.flip,.int .i64 t'.hash,.slice q3 t'.kept.length f3] 30)) w8.heap.size t' q1 q2 q3 f1 f2 f3:=⟨I0 w8 #[.slice q1 t'.words.length f1,.slice q2 t'.roots.length f2,.int .i64 t'.old,.int .i64 t'.eden,.int .i64 t'.surv,.bool t'.flip,.int .i64 t'.hash,.slice q3 t'.kept.length f3] 30,(HU.low (C:=w.heap.size) D.gr.size).later alk,su,Nat.lt_of_lt_of_le D.hH (Nat.le_of_lt DK.row.lt)⟩
     have D9:=DK.later alk
     clear KC hbk HU DK alk c0 c1 c2 c3 c4 c5 c6 c7 D
     replace gr:Hid (b=true->2000<=t.eden/\t'.eden=t.eden+4+60/\t'.eden<=2600):=gr
     cases b
     ·clear X9 gr hed
      have BP:=D9.dw.once 12 (by omega) (by omega)
      go_wp2_with fail
      refine BP.mono ?_
      rintro x wP ⟨⟨bp,rfl⟩,gp,dP⟩
      have D2:=D9.step ⟨gp,dP⟩
      clear BP gp dP D9
      cases bp
      ·obtain ⟨c0,c1,c2,c3,c4,c5,c6,c7⟩:=C6 D2.row
       obtain ⟨fR,FR⟩:=D2.res
       have OKC:(#[.slice p1 t.words.length e1,.slice p2 t.roots.length e2,.int .i64 t.old,.int .i64 t.eden,.int .i64 t.surv,.bool t.flip,.int .i64 t.hash,.slice p3 t.kept.length e3]:Array Value).all (·.oneCell')=true:=by simp [Value.oneCell']
       go_wp2_with ((with_reducible refine C9 _ ?_ (.tmp 2) (.tmp 207) 30 ?_ 30 w.heap.size 8 #[.slice p1 t.words.length e1,.slice p2 t.roots.length e2,.int .i64 t.old,.int .i64 t.eden,.int .i64 t.surv,.bool t.flip,.int .i64 t.hash,.slice p3 t.kept.length e3] _ ?_ ?_ FR ?_ ?_ OKC ?_);rfl;rfl;rfl;rfl;rfl;kernel_rfl;intro w9 F9 G9)
       obtain ⟨r0,r1,r2,r3,r4,r5,r6,r7⟩:=C6 (t:=t) (p1:=p1) (p2:=p2) (p3:=p3) (e1:=e1) (e2:=e2) (e3:=e3) F9
       exact bodyPost_ret (v:=.agg #[.slice p1 t.words.length e1,.slice p2 t.roots.length e2,.int .i64 t.old,.int .i64 t.eden,.int .i64 t.surv,.bool t.flip,.int .i64 t.hash,.slice p3 t.kept.length e3]) (by simp [results,Tryz.results57,go_sem,r0,r1,r2,r3,r4,r5,r6,r7]) rfl (D2.done G9)
      ·have B2:=D2.dw.less 14 (by omega) (by omega)
       go_wp2_with fail
       refine B2.mono ?_
       rintro x w3 ⟨⟨z,rfl,z0,z1⟩,g3,d3⟩
       have D3:=D2.step ⟨g3,d3⟩
       clear B2 g3 d3 D2
       obtain ⟨cn,rfl⟩:=Int.eq_ofNat_of_zero_le z0
       go_wp2
       go_loopw [29] (fun nv wr=>∃ (j:Nat) (t:Hp) (p1 p2 p3:Option Addr) (e1 e2 e3:Nat),nv=.int .i64 j/\j<=24/\LD w N cv cs H gQ wr t p1 p2 p3 e1 e2 e3) (fun nv _=>(intOf nv).toNat)
       case atStart=>exact ⟨cn,_,_,_,_,_,_,_,rfl,by omega,D3⟩
       case round =>
        clear D3
        obtain ⟨j,t,p1,p2,p3,e1,e2,e3,rfl,hj,D⟩:=hrel
        have c1:=(C6 D.row).2.1
        by_cases hlt:0<j
        ·have hlt' : (0:Int)<(j:Int):=by omega
         have jv:Hid (Value.int .i64 ((j:Int) - 1)=.int .i64 ((j - 1:Nat):Int)):=(by rw [show ((j - 1:Nat):Int)=(j:Int) - 1 from by omega]:Value.int .i64 ((j:Int) - 1)=.int .i64 ((j - 1:Nat):Int))
         by_cases hr:t.roots.length<20
         ·have hr' : (t.roots.length:Int)<20:=by omega
          go_wp2_with fail
          refine Jlk  hN D _ _ _ _ _ _ _ _ _ _ _ _ _ _ _ _ _ _ _ _ _ _ _ _ _ _ _ _ _ _ _ _ _ _ _ _ _ _ _ _ _ _ _ _ _ _ _ _ _ _ _ _ _ _ _ _ _ _ _ _ _ _ _ _ _ _ _ _ _ _ _ _ _ _ _ _ _ _ _ _ _ _ _ _ _ _ _ _ _ _ _ _ _ _ _ _ _ _ _ _ _ _ _ _ _ _ _ _ _ _ _ _ _ _ _ _ _ _ _ _ _ _ _ _ _ _ _ _ _ _ _ _ _ _ _ _ _ _ _ _ _ _ _ _ _ _ _ _ _ _ _ _ _ _ _ _ _ _ _ _ _ _ _ _ _ _ _ _ _ _ _ _ _ _ _ _ _ _ _ _ _ _ _ _ _ _ _ _ _ _ _ _ _ _ _ _ _ _ _ _ _ _ _ _ _ _ ?_
          intro SB t' q1 q2 q3 f1 f2 f3 r b w8 Nr Ns Nt Nu Nv Nw Nx Ny Nz D8 X8 rin wl an
          (
           clear D c1
           cases b
           ·obtain ⟨c0,c1,c2,c3,c4,c5,c6,c7⟩:=C6 D8.row
            obtain ⟨fR,FR⟩:=D8.res
            have OKC:(#[.slice p1 t.words.length e1,.slice p2 t.roots.length e2,.int .i64 t.old,.int .i64 t.eden,.int .i64 t.surv,.bool t.flip,.int .i64 t.hash,.slice p3 t.kept.length e3]:Array Value).all (·.oneCell')=true:=by simp [Value.oneCell']
            go_wp2_with ((with_reducible refine C9 _ ?_ (.tmp 2) (.tmp 207) 30 ?_ 30 w.heap.size 8 #[.slice p1 t.words.length e1,.slice p2 t.roots.length e2,.int .i64 t.old,.int .i64 t.eden,.int .i64 t.surv,.bool t.flip,.int .i64 t.hash,.slice p3 t.kept.length e3] _ ?_ ?_ FR ?_ ?_ OKC ?_);rfl;rfl;rfl;rfl;rfl;kernel_rfl;intro w9 F9 G9)
            obtain ⟨r0,r1,r2,r3,r4,r5,r6,r7⟩:=C6 (t:=t) (p1:=p1) (p2:=p2) (p3:=p3) (e1:=e1) (e2:=e2) (e3:=e3) F9
            exact bodyPost_ret (v:=.agg #[.slice p1 t.words.length e1,.slice p2 t.roots.length e2,.int .i64 t.old,.int .i64 t.eden,.int .i64 t.surv,.bool t.flip,.int .i64 t.hash,.slice p3 t.kept.length e3]) (by simp [results,Tryz.results57,go_sem,r0,r1,r2,r3,r4,r5,r6,r7]) rfl (D8.done G9)
           ·obtain ⟨x0,x1,x2,x3,x4,x5,x6,x7⟩:=C6 X8.row
            have KC:=Jlf X8.hm.hr X8.sm r rin (an.out (by simp) hr)
            go_wp2_with fail
            refine KC.mono ?_
            rintro e wK ⟨⟨u,t2,rfl,HU,su,wl2⟩,hbk⟩
            replace wl2:Hid (t2.words.length=3200):=wl2
            obtain ⟨s1,s2,s3,h1,h2,h3,rfl⟩:=HU.shape
            have DK:=D8.later hbk
            have HK:=HU.low (C:=w.heap.size) D8.gr.size
            have OKC:(#[.slice s1 t2.words.length h1,.slice s2 t2.roots.length h2,.int .i64 t2.old,.int .i64 t2.eden,.int .i64 t2.surv,.bool t2.flip,.int .i64 t2.hash,.slice s3 t2.kept.length h3]:Array Value).all (·.oneCell')=true:=by simp [Value.oneCell']
            clear KC hbk HU x0 x1 x2 x3 x4 x5 x6 x7 X8
            go_wp2_with ((with_reducible refine C9 _ ?_ (.tmp 3) (.tmp 205) 30 ?_ 30 H 8 #[.slice s1 t2.words.length h1,.slice s2 t2.roots.length h2,.int .i64 t2.old,.int .i64 t2.eden,.int .i64 t2.surv,.bool t2.flip,.int .i64 t2.hash,.slice s3 t2.kept.length h3] _ ?_ ?_ DK.row ?_ ?_ OKC ?_);rfl;rfl;rfl;rfl;rfl;kernel_rfl;intro w9 F9 G9)
            have D9:=DK.take HK su wl2.out G9 F9
            clear F9 G9 OKC HK DK D8
            go_wp2
            exact ⟨⟨j - 1,_,_,_,_,_,_,_,jv.out,by omega,D9⟩,by simp [intOf];omega⟩
          )
         ·have hr' : ¬ (t.roots.length:Int)<20:=by omega
          obtain ⟨c0,c1,c2,c3,c4,c5,c6,c7⟩:=C6 D.row
          obtain ⟨fR,FR⟩:=D.res
          have OKC:(#[.slice p1 t.words.length e1,.slice p2 t.roots.length e2,.int .i64 t.old,.int .i64 t.eden,.int .i64 t.surv,.bool t.flip,.int .i64 t.hash,.slice p3 t.kept.length e3]:Array Value).all (·.oneCell')=true:=by simp [Value.oneCell']
          go_wp2_with ((with_reducible refine C9 _ ?_ (.tmp 2) (.tmp 207) 30 ?_ 30 w.heap.size 8 #[.slice p1 t.words.length e1,.slice p2 t.roots.length e2,.int .i64 t.old,.int .i64 t.eden,.int .i64 t.surv,.bool t.flip,.int .i64 t.hash,.slice p3 t.kept.length e3] _ ?_ ?_ FR ?_ ?_ OKC ?_);rfl;rfl;rfl;rfl;rfl;kernel_rfl;intro w9 F9 G9)
          obtain ⟨r0,r1,r2,r3,r4,r5,r6,r7⟩:=C6 (t:=t) (p1:=p1) (p2:=p2) (p3:=p3) (e1:=e1) (e2:=e2) (e3:=e3) F9
          exact bodyPost_ret (v:=.agg #[.slice p1 t.words.length e1,.slice p2 t.roots.length e2,.int .i64 t.old,.int .i64 t.eden,.int .i64 t.surv,.bool t.flip,.int .i64 t.hash,.slice p3 t.kept.length e3]) (by simp [results,Tryz.results57,go_sem,r0,r1,r2,r3,r4,r5,r6,r7]) rfl (D.done G9)
        ·obtain rfl:j=0:=by omega
         have hlt' : ¬ (0:Int)<((0:Nat):Int):=by omega
         obtain ⟨c0,c1,c2,c3,c4,c5,c6,c7⟩:=C6 D.row
         obtain ⟨fR,FR⟩:=D.res
         have OKC:(#[.slice p1 t.words.length e1,.slice p2 t.roots.length e2,.int .i64 t.old,.int .i64 t.eden,.int .i64 t.surv,.bool t.flip,.int .i64 t.hash,.slice p3 t.kept.length e3]:Array Value).all (·.oneCell')=true:=by simp [Value.oneCell']
         go_wp2_with ((with_reducible refine C9 _ ?_ (.tmp 2) (.tmp 207) 30 ?_ 30 w.heap.size 8 #[.slice p1 t.words.length e1,.slice p2 t.roots.length e2,.int .i64 t.old,.int .i64 t.eden,.int .i64 t.surv,.bool t.flip,.int .i64 t.hash,.slice p3 t.kept.length e3] _ ?_ ?_ FR ?_ ?_ OKC ?_);rfl;rfl;rfl;rfl;rfl;kernel_rfl;intro w9 F9 G9)
         obtain ⟨r0,r1,r2,r3,r4,r5,r6,r7⟩:=C6 (t:=t) (p1:=p1) (p2:=p2) (p3:=p3) (e1:=e1) (e2:=e2) (e3:=e3) F9
         exact bodyPost_ret (v:=.agg #[.slice p1 t.words.length e1,.slice p2 t.roots.length e2,.int .i64 t.old,.int .i64 t.eden,.int .i64 t.surv,.bool t.flip,.int .i64 t.hash,.slice p3 t.kept.length e3]) (by simp [results,Tryz.results57,go_sem,r0,r1,r2,r3,r4,r5,r6,r7]) rfl (D.done G9)
     ·obtain ⟨x0,x1,x2,x3,x4,x5,x6,x7⟩:=C6 X9.row
      have OKC:(#[.slice q1 t'.words.length f1,.slice q2 t'.roots.length f2,.int .i64 t'.old,.int .i64 t'.eden,.int .i64 t'.surv,.bool t'.flip,.int .i64 t'.hash,.slice q3 t'.kept.length f3]:Array Value).all (·.oneCell')=true:=by simp [Value.oneCell']
      go_wp2_with ((with_reducible refine C9 _ ?_ (.tmp 3) (.tmp 175) 30 ?_ 30 H 8 #[.slice q1 t'.words.length f1,.slice q2 t'.roots.length f2,.int .i64 t'.old,.int .i64 t'.eden,.int .i64 t'.surv,.bool t'.flip,.int .i64 t'.hash,.slice q3 t'.kept.length f3] _ ?_ ?_ D9.row ?_ ?_ OKC ?_);rfl;rfl;rfl;rfl;rfl;kernel_rfl;intro wA F9 G9)
      have DA:=D9.take X9.hm X9.sm (wl.out (by simp)) G9 F9
      clear F9 G9 OKC x0 x1 x2 x3 x4 x5 x6 x7 X9 D9
      have hed2:=Jdx (C6 DA.row).2.2.2.1
      go_wp2
      have gr':=gr.out (by simp)
      refine ⟨⟨_,_,_,_,_,_,_,_,_,_,_,_,⟨t',_,_,_,_,_,_,DA⟩,rfl⟩,?_⟩
      rw [hed,hed2]
      omega
end Go.Proofs.YtboiknllmnfipaaGreatDoor
