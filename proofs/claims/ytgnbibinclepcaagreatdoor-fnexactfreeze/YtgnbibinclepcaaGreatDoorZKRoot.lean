import Derived.Test.YtgnbibinclepcaaGreatDoorZP17
import Derived.Test.YtgnbibinclepcaaGreatDoorZP15
namespace Go.Proofs.YtgnbibinclepcaaGreatDoor
open Go.RowKit
structure KM (W:World) (N g1 g2:Nat) (oa:Option Addr) (oc:Nat) (h:Hp):Prop where
 c0:W.cell? ⟨N,0,none⟩=some (.slice (some ⟨g1,0,none⟩) 3200 3200)
 c1:W.cell? ⟨N,1,none⟩=some (.slice oa (obC h).length oc)
 c2:W.cell? ⟨N,2,none⟩=some (.slice (some ⟨g2,0,none⟩) h.roots.length h.roots.length)
 ws:WS W g1 0 h.words
 r1:∀ k,k<h.roots.length->W.cell? ⟨g2,k,none⟩=some (.int .i64 (h.roots.getD k 0))
 io:IR W (.slice oa (obC h).length oc) (ints (obC h))
theorem KM.later {W W' : World} {N g1 g2 oc:Nat} {oa:Option Addr} {h:Hp} (K:KM W N g1 g2 oa oc h) (hb:Below W.heap.size W W'):KM W' N g1 g2 oa oc h :=
 ⟨cell_later hb K.c0,cell_later hb K.c1,cell_later hb K.c2,K.ws.later hb,fun k hk=>cell_later hb (K.r1 k hk),K.io.later hb⟩
set_option maxRecDepth 100000 in
set_option maxHeartbeats 3200000 in
theorem rootFields_any (N g1 g2:Nat) (oa:Option Addr) (oc:Nat) (h:Hp) (w:World) (K:KM w N g1 g2 oa oc h) (hk:okC h=true) (k:Nat) (hk2:k<h.roots.length) (_kl:h.roots.length<=20) :
  Calls Tryz.prog 155 #[.pointer (some ⟨N,0,none⟩),.int .i64 k] w fun e w'=>(∃ v,e=.returned v/\(refB h (h.roots.getD k 0)=true->IR w' v (fldR h k)))/\Below w.heap.size w w':=by
 have OS:=ok_sorted hk
 have OL:(obC h).length<=1000000000:=by have:=ob_short h;omega
 have EE:∀ x,elW h (.slice (some ⟨g1,0,none⟩) 3200 3200) x=elV (obC h) (.slice (some ⟨g1,0,none⟩) 3200 3200) x:=fun x=>by unfold elW;rw [hk];rfl
 unfold fldR
 obtain ⟨x,hx⟩:∃ x,h.roots.getD k 0=x:=⟨_,rfl⟩
 rw [hx]
 rcases el_cases h (.slice (some ⟨g1,0,none⟩) 3200 3200) x with ⟨ev,n,_⟩|⟨_,ev,n,_⟩|⟨_,r,a,ha,ea,k2,ev⟩
 ·rw [EE] at ev
  rw [hk,Bool.and_true] at n
  have hm:=mNF
  go_enter Tryz.func155,Tryz.ntmps155
  go_wp2_with fail
  refine Disk.z_plain 99 (fun W'=>KM W' N g1 g2 oa oc h) (by kernel_rfl) (K.later (Below.refl _ _).drew) fun hs=>?_
  refine Disk.zt 0 5 (v:=.pointer (some ⟨N,0,none⟩)) rfl rfl hs (fun W' hSw=>(by
   obtain ⟨s0,s1,s2,s3,s4,s5⟩:=hSw
   go_simp;first|done|with_reducible rfl)) ?_
  simp only [zA,zB,zC]
  refine Disk.zt 1 6 (v:=.pointer (some ⟨N,0,none⟩)) rfl rfl hs (fun W' hSw=>(by
   obtain ⟨s0,s1,s2,s3,s4,s5⟩:=hSw
   go_simp;first|done|with_reducible rfl)) ?_
  simp only [zA,zB,zC]
  refine Disk.zt 2 7 (v:=.pointer (some ⟨N,0,none⟩)) rfl rfl hs (fun W' hSw=>(by
   obtain ⟨s0,s1,s2,s3,s4,s5⟩:=hSw
   go_simp;first|done|with_reducible rfl)) ?_
  simp only [zA,zB,zC]
  refine Disk.zt 3 8 (v:=.pointer (some ⟨N,0,none⟩)) rfl rfl hs (fun W' hSw=>(by
   obtain ⟨s0,s1,s2,s3,s4,s5⟩:=hSw
   go_simp;first|done|with_reducible rfl)) ?_
  simp only [zA,zB,zC]
  refine Disk.zt 4 9 (v:=.agg #[.slice (some ⟨g1,0,none⟩) 3200 3200,.slice oa (obC h).length oc]) rfl rfl hs (fun W' hSw=>(by
   obtain ⟨s0,s1,s2,s3,s4,s5⟩:=hSw
   go_simp;first|done|with_reducible rfl)) ?_
  simp only [zA,zB,zC]
  refine Disk.zt 5 10 (v:=.pointer (some ⟨N,0,none⟩)) rfl rfl hs (fun W' hSw=>(by
   obtain ⟨s0,s1,s2,s3,s4,s5⟩:=hSw
   go_simp;first|done|with_reducible rfl)) ?_
  simp only [zA,zB,zC]
  refine Disk.zt 6 11 (v:=.pointer (some ⟨N,0,none⟩)) rfl rfl hs (fun W' hSw=>(by
   obtain ⟨s0,s1,s2,s3,s4,s5⟩:=hSw
   go_simp;first|done|with_reducible rfl)) ?_
  simp only [zA,zB,zC]
  refine Disk.zt 7 12 (v:=.pointer (some ⟨N,0,none⟩)) rfl rfl hs (fun W' hSw=>(by
   obtain ⟨s0,s1,s2,s3,s4,s5⟩:=hSw
   go_simp;first|done|with_reducible rfl)) ?_
  simp only [zA,zB,zC]
  refine Disk.zt 8 13 (v:=.pointer (some ⟨N,2,none⟩)) rfl rfl hs (fun W' hSw=>(by
   obtain ⟨s0,s1,s2,s3,s4,s5⟩:=hSw
   go_simp;first|done|with_reducible rfl)) ?_
  simp only [zA,zB,zC]
  refine Disk.zt 9 14 (v:=.slice (some ⟨g2,0,none⟩) h.roots.length h.roots.length) rfl rfl hs (fun W' hSw=>(by
   obtain ⟨s0,s1,s2,s3,s4,s5⟩:=hSw
   go_simp;first|done|with_reducible rfl)) ?_
  simp only [zA,zB,zC]
  refine Disk.zt 10 15 (v:=.int .i64 k) rfl rfl hs (fun W' hSw=>(by
   obtain ⟨s0,s1,s2,s3,s4,s5⟩:=hSw
   go_simp;first|done|with_reducible rfl)) ?_
  simp only [zA,zB,zC]
  refine Disk.zt 11 16 (v:=.pointer (some ⟨g2,k,none⟩)) rfl rfl hs (fun W' hSw=>(by
   obtain ⟨s0,s1,s2,s3,s4,s5⟩:=hSw
   go_simp;first|done|with_reducible rfl)) ?_
  simp only [zA,zB,zC]
  refine Disk.zt 12 17 (v:=.int .i64 x) rfl rfl hs (fun W' hSw=>(by
   have rc:=hSw.r1 k hk2
   rw [hx] at rc
   go_simp;first|done|with_reducible rfl)) ?_
  simp only [zA,zB,zC]
  refine Disk.z_call 13 18 rfl rfl (by kernel_rfl) (by rfl) (f:=187) (args:=#[.agg #[.slice (some ⟨g1,0,none⟩) 3200 3200,.slice oa (obC h).length oc],.int .i64 x]) (w0:=w.drew) (by go_simp;first|done|with_reducible rfl) ?_
  refine (elementOf_any (some ⟨g1,0,none⟩) oa 3200 3200 oc (obC h) x w.drew (K.io.later (Below.refl _ _).drew) OS OL).mono ?_
  rintro e w1 ⟨rfl,hb1⟩
  have b1:=bel_after (Below.refl _ _).drew hb1
  rw [ev]
  have K1:=K.later b1
  refine ⟨_,rfl,.inr K1,?_⟩
  simp only [zA,zB,zC]
  refine Disk.z_call 14 19 rfl rfl (by kernel_rfl) (by rfl) (f:=285) (args:=#[.agg #[]]) (w0:=w1) (by go_simp;first|done|with_reducible rfl) ?_
  refine (noneF_any w1).mono ?_
  rintro e w2 ⟨rfl,hb2⟩
  refine ⟨_,rfl,.inr (K1.later hb2),?_⟩
  simp only [zA,zB,zC]
  have hs2:=K1.later hb2
  refine Disk.zt 15 4 (v:=.slice none 0 0) rfl rfl hs2 (fun W' hSw=>(by
   obtain ⟨s0,s1,s2,s3,s4,s5⟩:=hSw
   go_simp;first|done|with_reducible rfl)) ?_
  simp only [zA,zB,zC]
  refine Disk.z_done (by kernel_rfl) ?_ _
  go_wp2
  go_ret
  exact ⟨⟨_,rfl,fun q=>by rw [n] at q;cases q⟩,bel_after b1 hb2⟩
 ·rw [EE] at ev
  have hm:=mUF
  go_enter Tryz.func155,Tryz.ntmps155
  go_wp2_with fail
  refine Disk.z_plain 99 (fun W'=>KM W' N g1 g2 oa oc h) (by kernel_rfl) (K.later (Below.refl _ _).drew) fun hs=>?_
  refine Disk.zt 0 5 (v:=.pointer (some ⟨N,0,none⟩)) rfl rfl hs (fun W' hSw=>(by
   obtain ⟨s0,s1,s2,s3,s4,s5⟩:=hSw
   go_simp;first|done|with_reducible rfl)) ?_
  simp only [zA,zB,zC]
  refine Disk.zt 1 6 (v:=.pointer (some ⟨N,0,none⟩)) rfl rfl hs (fun W' hSw=>(by
   obtain ⟨s0,s1,s2,s3,s4,s5⟩:=hSw
   go_simp;first|done|with_reducible rfl)) ?_
  simp only [zA,zB,zC]
  refine Disk.zt 2 7 (v:=.pointer (some ⟨N,0,none⟩)) rfl rfl hs (fun W' hSw=>(by
   obtain ⟨s0,s1,s2,s3,s4,s5⟩:=hSw
   go_simp;first|done|with_reducible rfl)) ?_
  simp only [zA,zB,zC]
  refine Disk.zt 3 8 (v:=.pointer (some ⟨N,0,none⟩)) rfl rfl hs (fun W' hSw=>(by
   obtain ⟨s0,s1,s2,s3,s4,s5⟩:=hSw
   go_simp;first|done|with_reducible rfl)) ?_
  simp only [zA,zB,zC]
  refine Disk.zt 4 9 (v:=.agg #[.slice (some ⟨g1,0,none⟩) 3200 3200,.slice oa (obC h).length oc]) rfl rfl hs (fun W' hSw=>(by
   obtain ⟨s0,s1,s2,s3,s4,s5⟩:=hSw
   go_simp;first|done|with_reducible rfl)) ?_
  simp only [zA,zB,zC]
  refine Disk.zt 5 10 (v:=.pointer (some ⟨N,0,none⟩)) rfl rfl hs (fun W' hSw=>(by
   obtain ⟨s0,s1,s2,s3,s4,s5⟩:=hSw
   go_simp;first|done|with_reducible rfl)) ?_
  simp only [zA,zB,zC]
  refine Disk.zt 6 11 (v:=.pointer (some ⟨N,0,none⟩)) rfl rfl hs (fun W' hSw=>(by
   obtain ⟨s0,s1,s2,s3,s4,s5⟩:=hSw
   go_simp;first|done|with_reducible rfl)) ?_
  simp only [zA,zB,zC]
  refine Disk.zt 7 12 (v:=.pointer (some ⟨N,0,none⟩)) rfl rfl hs (fun W' hSw=>(by
   obtain ⟨s0,s1,s2,s3,s4,s5⟩:=hSw
   go_simp;first|done|with_reducible rfl)) ?_
  simp only [zA,zB,zC]
  refine Disk.zt 8 13 (v:=.pointer (some ⟨N,2,none⟩)) rfl rfl hs (fun W' hSw=>(by
   obtain ⟨s0,s1,s2,s3,s4,s5⟩:=hSw
   go_simp;first|done|with_reducible rfl)) ?_
  simp only [zA,zB,zC]
  refine Disk.zt 9 14 (v:=.slice (some ⟨g2,0,none⟩) h.roots.length h.roots.length) rfl rfl hs (fun W' hSw=>(by
   obtain ⟨s0,s1,s2,s3,s4,s5⟩:=hSw
   go_simp;first|done|with_reducible rfl)) ?_
  simp only [zA,zB,zC]
  refine Disk.zt 10 15 (v:=.int .i64 k) rfl rfl hs (fun W' hSw=>(by
   obtain ⟨s0,s1,s2,s3,s4,s5⟩:=hSw
   go_simp;first|done|with_reducible rfl)) ?_
  simp only [zA,zB,zC]
  refine Disk.zt 11 16 (v:=.pointer (some ⟨g2,k,none⟩)) rfl rfl hs (fun W' hSw=>(by
   obtain ⟨s0,s1,s2,s3,s4,s5⟩:=hSw
   go_simp;first|done|with_reducible rfl)) ?_
  simp only [zA,zB,zC]
  refine Disk.zt 12 17 (v:=.int .i64 x) rfl rfl hs (fun W' hSw=>(by
   have rc:=hSw.r1 k hk2
   rw [hx] at rc
   go_simp;first|done|with_reducible rfl)) ?_
  simp only [zA,zB,zC]
  refine Disk.z_call 13 18 rfl rfl (by kernel_rfl) (by rfl) (f:=187) (args:=#[.agg #[.slice (some ⟨g1,0,none⟩) 3200 3200,.slice oa (obC h).length oc],.int .i64 x]) (w0:=w.drew) (by go_simp;first|done|with_reducible rfl) ?_
  refine (elementOf_any (some ⟨g1,0,none⟩) oa 3200 3200 oc (obC h) x w.drew (K.io.later (Below.refl _ _).drew) OS OL).mono ?_
  rintro e w1 ⟨rfl,hb1⟩
  have b1:=bel_after (Below.refl _ _).drew hb1
  rw [ev]
  have K1:=K.later b1
  refine ⟨_,rfl,.inr K1,?_⟩
  simp only [zA,zB,zC]
  refine Disk.z_call 14 19 rfl rfl (by kernel_rfl) (by rfl) (f:=288) (args:=#[.agg #[]]) (w0:=w1) (by go_simp;first|done|with_reducible rfl) ?_
  refine (numF_any w1).mono ?_
  rintro e w2 ⟨rfl,hb2⟩
  refine ⟨_,rfl,.inr (K1.later hb2),?_⟩
  simp only [zA,zB,zC]
  have hs2:=K1.later hb2
  refine Disk.zt 15 4 (v:=.slice none 0 0) rfl rfl hs2 (fun W' hSw=>(by
   obtain ⟨s0,s1,s2,s3,s4,s5⟩:=hSw
   go_simp;first|done|with_reducible rfl)) ?_
  simp only [zA,zB,zC]
  refine Disk.z_done (by kernel_rfl) ?_ _
  go_wp2
  go_ret
  exact ⟨⟨_,rfl,fun q=>by rw [n] at q;cases q⟩,bel_after b1 hb2⟩
 ·have RG:=c_right hk
  obtain ⟨q1,q2,q3⟩:=RG.1.obj ha
  have q4:=size_of q3
  rw [ea,Int.toNat_natCast]
  have FI:∀ W q c,WS W g1 0 h.words->(gw h.words a).toNat<=c->((gw h.words a).toNat=0 ∨ q=0+(a+4))->IR W (.slice (some ⟨g1,q,none⟩) (gw h.words a).toNat c) (flds h.words a):=fun W q c u v z=>flds_ir u RG.1.1 q2 v z
  have OF:=fun W (u:WS W g1 0 h.words)=>objF_any g1 0 3200 h.words a W u RG.1.1 (Nat.le_refl _) q1 q4 q2
  rw [EE] at ev
  rcases ev with ev|ev
  ·have hm:=mOF (.slice (some ⟨g1,0,none⟩) 3200 3200) a
   go_enter Tryz.func155,Tryz.ntmps155
   go_wp2_with fail
   refine Disk.z_plain 99 (fun W'=>KM W' N g1 g2 oa oc h) (by kernel_rfl) (K.later (Below.refl _ _).drew) fun hs=>?_
   refine Disk.zt 0 5 (v:=.pointer (some ⟨N,0,none⟩)) rfl rfl hs (fun W' hSw=>(by
    obtain ⟨s0,s1,s2,s3,s4,s5⟩:=hSw
    go_simp;first|done|with_reducible rfl)) ?_
   simp only [zA,zB,zC]
   refine Disk.zt 1 6 (v:=.pointer (some ⟨N,0,none⟩)) rfl rfl hs (fun W' hSw=>(by
    obtain ⟨s0,s1,s2,s3,s4,s5⟩:=hSw
    go_simp;first|done|with_reducible rfl)) ?_
   simp only [zA,zB,zC]
   refine Disk.zt 2 7 (v:=.pointer (some ⟨N,0,none⟩)) rfl rfl hs (fun W' hSw=>(by
    obtain ⟨s0,s1,s2,s3,s4,s5⟩:=hSw
    go_simp;first|done|with_reducible rfl)) ?_
   simp only [zA,zB,zC]
   refine Disk.zt 3 8 (v:=.pointer (some ⟨N,0,none⟩)) rfl rfl hs (fun W' hSw=>(by
    obtain ⟨s0,s1,s2,s3,s4,s5⟩:=hSw
    go_simp;first|done|with_reducible rfl)) ?_
   simp only [zA,zB,zC]
   refine Disk.zt 4 9 (v:=.agg #[.slice (some ⟨g1,0,none⟩) 3200 3200,.slice oa (obC h).length oc]) rfl rfl hs (fun W' hSw=>(by
    obtain ⟨s0,s1,s2,s3,s4,s5⟩:=hSw
    go_simp;first|done|with_reducible rfl)) ?_
   simp only [zA,zB,zC]
   refine Disk.zt 5 10 (v:=.pointer (some ⟨N,0,none⟩)) rfl rfl hs (fun W' hSw=>(by
    obtain ⟨s0,s1,s2,s3,s4,s5⟩:=hSw
    go_simp;first|done|with_reducible rfl)) ?_
   simp only [zA,zB,zC]
   refine Disk.zt 6 11 (v:=.pointer (some ⟨N,0,none⟩)) rfl rfl hs (fun W' hSw=>(by
    obtain ⟨s0,s1,s2,s3,s4,s5⟩:=hSw
    go_simp;first|done|with_reducible rfl)) ?_
   simp only [zA,zB,zC]
   refine Disk.zt 7 12 (v:=.pointer (some ⟨N,0,none⟩)) rfl rfl hs (fun W' hSw=>(by
    obtain ⟨s0,s1,s2,s3,s4,s5⟩:=hSw
    go_simp;first|done|with_reducible rfl)) ?_
   simp only [zA,zB,zC]
   refine Disk.zt 8 13 (v:=.pointer (some ⟨N,2,none⟩)) rfl rfl hs (fun W' hSw=>(by
    obtain ⟨s0,s1,s2,s3,s4,s5⟩:=hSw
    go_simp;first|done|with_reducible rfl)) ?_
   simp only [zA,zB,zC]
   refine Disk.zt 9 14 (v:=.slice (some ⟨g2,0,none⟩) h.roots.length h.roots.length) rfl rfl hs (fun W' hSw=>(by
    obtain ⟨s0,s1,s2,s3,s4,s5⟩:=hSw
    go_simp;first|done|with_reducible rfl)) ?_
   simp only [zA,zB,zC]
   refine Disk.zt 10 15 (v:=.int .i64 k) rfl rfl hs (fun W' hSw=>(by
    obtain ⟨s0,s1,s2,s3,s4,s5⟩:=hSw
    go_simp;first|done|with_reducible rfl)) ?_
   simp only [zA,zB,zC]
   refine Disk.zt 11 16 (v:=.pointer (some ⟨g2,k,none⟩)) rfl rfl hs (fun W' hSw=>(by
    obtain ⟨s0,s1,s2,s3,s4,s5⟩:=hSw
    go_simp;first|done|with_reducible rfl)) ?_
   simp only [zA,zB,zC]
   refine Disk.zt 12 17 (v:=.int .i64 x) rfl rfl hs (fun W' hSw=>(by
    have rc:=hSw.r1 k hk2
    rw [hx] at rc
    go_simp;first|done|with_reducible rfl)) ?_
   simp only [zA,zB,zC]
   refine Disk.z_call 13 18 rfl rfl (by kernel_rfl) (by rfl) (f:=187) (args:=#[.agg #[.slice (some ⟨g1,0,none⟩) 3200 3200,.slice oa (obC h).length oc],.int .i64 x]) (w0:=w.drew) (by go_simp;first|done|with_reducible rfl) ?_
   refine (elementOf_any (some ⟨g1,0,none⟩) oa 3200 3200 oc (obC h) x w.drew (K.io.later (Below.refl _ _).drew) OS OL).mono ?_
   rintro e w1 ⟨rfl,hb1⟩
   have b1:=bel_after (Below.refl _ _).drew hb1
   rw [ev]
   have K1:=K.later b1
   refine ⟨_,rfl,.inr K1,?_⟩
   simp only [zA,zB,zC]
   refine Disk.z_call 14 19 rfl rfl (by kernel_rfl) (by rfl) (f:=291) (args:=#[.agg #[.slice (some ⟨g1,0,none⟩) 3200 3200,.int .i64 a]]) (w0:=w1) (by go_simp;first|done|with_reducible rfl) ?_
   refine (OF w1 K1.ws).mono ?_
   rintro e w2 ⟨⟨q,c,rfl,hc,hq⟩,hb2⟩
   refine ⟨_,rfl,.inr (K1.later hb2),?_⟩
   simp only [zA,zB,zC]
   have hs2:=K1.later hb2
   have V:=FI w2 q c hs2.ws hc hq
   clear FI OF hc hq q4 q2
   generalize (gw h.words a).toNat=nn at *
   refine Disk.zt 15 4 (v:=.slice (some ⟨g1,q,none⟩) nn c) rfl rfl hs2 (fun W' hSw=>(by
    obtain ⟨s0,s1,s2,s3,s4,s5⟩:=hSw
    go_simp;first|done|with_reducible rfl)) ?_
   simp only [zA,zB,zC]
   refine Disk.z_done (by kernel_rfl) ?_ _
   go_wp2
   go_ret
   exact ⟨⟨_,rfl,fun _=>V⟩,bel_after b1 hb2⟩
  ·have hm:=mYF (.slice (some ⟨g1,0,none⟩) 3200 3200) a
   go_enter Tryz.func155,Tryz.ntmps155
   go_wp2_with fail
   refine Disk.z_plain 99 (fun W'=>KM W' N g1 g2 oa oc h) (by kernel_rfl) (K.later (Below.refl _ _).drew) fun hs=>?_
   refine Disk.zt 0 5 (v:=.pointer (some ⟨N,0,none⟩)) rfl rfl hs (fun W' hSw=>(by
    obtain ⟨s0,s1,s2,s3,s4,s5⟩:=hSw
    go_simp;first|done|with_reducible rfl)) ?_
   simp only [zA,zB,zC]
   refine Disk.zt 1 6 (v:=.pointer (some ⟨N,0,none⟩)) rfl rfl hs (fun W' hSw=>(by
    obtain ⟨s0,s1,s2,s3,s4,s5⟩:=hSw
    go_simp;first|done|with_reducible rfl)) ?_
   simp only [zA,zB,zC]
   refine Disk.zt 2 7 (v:=.pointer (some ⟨N,0,none⟩)) rfl rfl hs (fun W' hSw=>(by
    obtain ⟨s0,s1,s2,s3,s4,s5⟩:=hSw
    go_simp;first|done|with_reducible rfl)) ?_
   simp only [zA,zB,zC]
   refine Disk.zt 3 8 (v:=.pointer (some ⟨N,0,none⟩)) rfl rfl hs (fun W' hSw=>(by
    obtain ⟨s0,s1,s2,s3,s4,s5⟩:=hSw
    go_simp;first|done|with_reducible rfl)) ?_
   simp only [zA,zB,zC]
   refine Disk.zt 4 9 (v:=.agg #[.slice (some ⟨g1,0,none⟩) 3200 3200,.slice oa (obC h).length oc]) rfl rfl hs (fun W' hSw=>(by
    obtain ⟨s0,s1,s2,s3,s4,s5⟩:=hSw
    go_simp;first|done|with_reducible rfl)) ?_
   simp only [zA,zB,zC]
   refine Disk.zt 5 10 (v:=.pointer (some ⟨N,0,none⟩)) rfl rfl hs (fun W' hSw=>(by
    obtain ⟨s0,s1,s2,s3,s4,s5⟩:=hSw
    go_simp;first|done|with_reducible rfl)) ?_
   simp only [zA,zB,zC]
   refine Disk.zt 6 11 (v:=.pointer (some ⟨N,0,none⟩)) rfl rfl hs (fun W' hSw=>(by
    obtain ⟨s0,s1,s2,s3,s4,s5⟩:=hSw
    go_simp;first|done|with_reducible rfl)) ?_
   simp only [zA,zB,zC]
   refine Disk.zt 7 12 (v:=.pointer (some ⟨N,0,none⟩)) rfl rfl hs (fun W' hSw=>(by
    obtain ⟨s0,s1,s2,s3,s4,s5⟩:=hSw
    go_simp;first|done|with_reducible rfl)) ?_
   simp only [zA,zB,zC]
   refine Disk.zt 8 13 (v:=.pointer (some ⟨N,2,none⟩)) rfl rfl hs (fun W' hSw=>(by
    obtain ⟨s0,s1,s2,s3,s4,s5⟩:=hSw
    go_simp;first|done|with_reducible rfl)) ?_
   simp only [zA,zB,zC]
   refine Disk.zt 9 14 (v:=.slice (some ⟨g2,0,none⟩) h.roots.length h.roots.length) rfl rfl hs (fun W' hSw=>(by
    obtain ⟨s0,s1,s2,s3,s4,s5⟩:=hSw
    go_simp;first|done|with_reducible rfl)) ?_
   simp only [zA,zB,zC]
   refine Disk.zt 10 15 (v:=.int .i64 k) rfl rfl hs (fun W' hSw=>(by
    obtain ⟨s0,s1,s2,s3,s4,s5⟩:=hSw
    go_simp;first|done|with_reducible rfl)) ?_
   simp only [zA,zB,zC]
   refine Disk.zt 11 16 (v:=.pointer (some ⟨g2,k,none⟩)) rfl rfl hs (fun W' hSw=>(by
    obtain ⟨s0,s1,s2,s3,s4,s5⟩:=hSw
    go_simp;first|done|with_reducible rfl)) ?_
   simp only [zA,zB,zC]
   refine Disk.zt 12 17 (v:=.int .i64 x) rfl rfl hs (fun W' hSw=>(by
    have rc:=hSw.r1 k hk2
    rw [hx] at rc
    go_simp;first|done|with_reducible rfl)) ?_
   simp only [zA,zB,zC]
   refine Disk.z_call 13 18 rfl rfl (by kernel_rfl) (by rfl) (f:=187) (args:=#[.agg #[.slice (some ⟨g1,0,none⟩) 3200 3200,.slice oa (obC h).length oc],.int .i64 x]) (w0:=w.drew) (by go_simp;first|done|with_reducible rfl) ?_
   refine (elementOf_any (some ⟨g1,0,none⟩) oa 3200 3200 oc (obC h) x w.drew (K.io.later (Below.refl _ _).drew) OS OL).mono ?_
   rintro e w1 ⟨rfl,hb1⟩
   have b1:=bel_after (Below.refl _ _).drew hb1
   rw [ev]
   have K1:=K.later b1
   refine ⟨_,rfl,.inr K1,?_⟩
   simp only [zA,zB,zC]
   refine Disk.z_call 14 19 rfl rfl (by kernel_rfl) (by rfl) (f:=291) (args:=#[.agg #[.slice (some ⟨g1,0,none⟩) 3200 3200,.int .i64 a]]) (w0:=w1) (by go_simp;first|done|with_reducible rfl) ?_
   refine (OF w1 K1.ws).mono ?_
   rintro e w2 ⟨⟨q,c,rfl,hc,hq⟩,hb2⟩
   refine ⟨_,rfl,.inr (K1.later hb2),?_⟩
   simp only [zA,zB,zC]
   have hs2:=K1.later hb2
   have V:=FI w2 q c hs2.ws hc hq
   clear FI OF hc hq q4 q2
   generalize (gw h.words a).toNat=nn at *
   refine Disk.zt 15 4 (v:=.slice (some ⟨g1,q,none⟩) nn c) rfl rfl hs2 (fun W' hSw=>(by
    obtain ⟨s0,s1,s2,s3,s4,s5⟩:=hSw
    go_simp;first|done|with_reducible rfl)) ?_
   simp only [zA,zB,zC]
   refine Disk.z_done (by kernel_rfl) ?_ _
   go_wp2
   go_ret
   exact ⟨⟨_,rfl,fun _=>V⟩,bel_after b1 hb2⟩
set_option maxRecDepth 100000 in
set_option maxHeartbeats 3200000 in
theorem hasRoot_any (N g1 g2:Nat) (oa:Option Addr) (oc:Nat) (h:Hp) (w:World) (K:KM w N g1 g2 oa oc h) (hk:okC h=true) (k:Nat) (hk2:k<h.roots.length) (kl:h.roots.length<=20) (c:Int) (n:Nat) (hc:1<=c/\c<=2) :
  Calls Tryz.prog 153 #[.pointer (some ⟨N,0,none⟩),.int .i64 k,.int .i64 c,.int .i64 n] w fun e w'=>e=.returned (.bool (rootB h k c n))/\Below w.heap.size w w':=by
 have OS:=ok_sorted hk
 have OL:(obC h).length<=1000000000:=by have:=ob_short h;omega
 have EE:∀ x,elW h (.slice (some ⟨g1,0,none⟩) 3200 3200) x=elV (obC h) (.slice (some ⟨g1,0,none⟩) 3200 3200) x:=fun x=>by unfold elW;rw [hk];rfl
 have RFC:=fun W (Kq:KM W N g1 g2 oa oc h)=>rootFields_any N g1 g2 oa oc h W Kq hk k hk2 kl
 unfold rootB
 unfold fldR at RFC
 obtain ⟨x,hx⟩:∃ x,h.roots.getD k 0=x:=⟨_,rfl⟩
 rw [hx] at RFC ⊢
 rcases el_cases h (.slice (some ⟨g1,0,none⟩) 3200 3200) x with ⟨ev,m,_⟩|⟨_,ev,m,_⟩|⟨_,r,a,ha,ea,k2,ev⟩
 ·rw [EE] at ev
  rw [hk,Bool.and_true] at m
  rw [m,Bool.false_and]
  have hm:=mNC
  clear RFC
  go_enter Tryz.func153,Tryz.ntmps153
  go_wp2_with fail
  refine Disk.z_plain 99 (fun W'=>KM W' N g1 g2 oa oc h) (by kernel_rfl) (K.later (Below.refl _ _).drew) fun hs=>?_
  refine Disk.zt 0 9 (v:=.pointer (some ⟨N,0,none⟩)) rfl rfl hs (fun W' hSw=>(by
   obtain ⟨s0,s1,s2,s3,s4,s5⟩:=hSw
   go_simp;first|done|with_reducible rfl)) ?_
  simp only [zA,zB,zC]
  refine Disk.zt 1 10 (v:=.pointer (some ⟨N,0,none⟩)) rfl rfl hs (fun W' hSw=>(by
   obtain ⟨s0,s1,s2,s3,s4,s5⟩:=hSw
   go_simp;first|done|with_reducible rfl)) ?_
  simp only [zA,zB,zC]
  refine Disk.zt 2 11 (v:=.pointer (some ⟨N,0,none⟩)) rfl rfl hs (fun W' hSw=>(by
   obtain ⟨s0,s1,s2,s3,s4,s5⟩:=hSw
   go_simp;first|done|with_reducible rfl)) ?_
  simp only [zA,zB,zC]
  refine Disk.zt 3 12 (v:=.pointer (some ⟨N,0,none⟩)) rfl rfl hs (fun W' hSw=>(by
   obtain ⟨s0,s1,s2,s3,s4,s5⟩:=hSw
   go_simp;first|done|with_reducible rfl)) ?_
  simp only [zA,zB,zC]
  refine Disk.zt 4 13 (v:=.agg #[.slice (some ⟨g1,0,none⟩) 3200 3200,.slice oa (obC h).length oc]) rfl rfl hs (fun W' hSw=>(by
   obtain ⟨s0,s1,s2,s3,s4,s5⟩:=hSw
   go_simp;first|done|with_reducible rfl)) ?_
  simp only [zA,zB,zC]
  refine Disk.zt 5 14 (v:=.pointer (some ⟨N,0,none⟩)) rfl rfl hs (fun W' hSw=>(by
   obtain ⟨s0,s1,s2,s3,s4,s5⟩:=hSw
   go_simp;first|done|with_reducible rfl)) ?_
  simp only [zA,zB,zC]
  refine Disk.zt 6 15 (v:=.pointer (some ⟨N,0,none⟩)) rfl rfl hs (fun W' hSw=>(by
   obtain ⟨s0,s1,s2,s3,s4,s5⟩:=hSw
   go_simp;first|done|with_reducible rfl)) ?_
  simp only [zA,zB,zC]
  refine Disk.zt 7 16 (v:=.pointer (some ⟨N,0,none⟩)) rfl rfl hs (fun W' hSw=>(by
   obtain ⟨s0,s1,s2,s3,s4,s5⟩:=hSw
   go_simp;first|done|with_reducible rfl)) ?_
  simp only [zA,zB,zC]
  refine Disk.zt 8 17 (v:=.pointer (some ⟨N,2,none⟩)) rfl rfl hs (fun W' hSw=>(by
   obtain ⟨s0,s1,s2,s3,s4,s5⟩:=hSw
   go_simp;first|done|with_reducible rfl)) ?_
  simp only [zA,zB,zC]
  refine Disk.zt 9 18 (v:=.slice (some ⟨g2,0,none⟩) h.roots.length h.roots.length) rfl rfl hs (fun W' hSw=>(by
   obtain ⟨s0,s1,s2,s3,s4,s5⟩:=hSw
   go_simp;first|done|with_reducible rfl)) ?_
  simp only [zA,zB,zC]
  refine Disk.zt 10 19 (v:=.int .i64 k) rfl rfl hs (fun W' hSw=>(by
   obtain ⟨s0,s1,s2,s3,s4,s5⟩:=hSw
   go_simp;first|done|with_reducible rfl)) ?_
  simp only [zA,zB,zC]
  refine Disk.zt 11 20 (v:=.pointer (some ⟨g2,k,none⟩)) rfl rfl hs (fun W' hSw=>(by
   obtain ⟨s0,s1,s2,s3,s4,s5⟩:=hSw
   go_simp;first|done|with_reducible rfl)) ?_
  simp only [zA,zB,zC]
  refine Disk.zt 12 21 (v:=.int .i64 x) rfl rfl hs (fun W' hSw=>(by
   have rc:=hSw.r1 k hk2
   rw [hx] at rc
   go_simp;first|done|with_reducible rfl)) ?_
  simp only [zA,zB,zC]
  refine Disk.zt 15 24 (v:=.int .i64 c) rfl rfl hs (fun W' hSw=>(by
   obtain ⟨s0,s1,s2,s3,s4,s5⟩:=hSw
   go_simp;first|done|with_reducible rfl)) ?_
  simp only [zA,zB,zC]
  refine Disk.z_call 13 22 rfl rfl (by kernel_rfl) (by rfl) (f:=187) (args:=#[.agg #[.slice (some ⟨g1,0,none⟩) 3200 3200,.slice oa (obC h).length oc],.int .i64 x]) (w0:=w.drew) (by go_simp;first|done|with_reducible rfl) ?_
  refine (elementOf_any (some ⟨g1,0,none⟩) oa 3200 3200 oc (obC h) x w.drew (K.io.later (Below.refl _ _).drew) OS OL).mono ?_
  rintro e w1 ⟨rfl,hb1⟩
  have b1:=bel_after (Below.refl _ _).drew hb1
  rw [ev]
  have K1:=K.later b1
  refine ⟨_,rfl,.inr K1,?_⟩
  simp only [zA,zB,zC]
  refine Disk.z_call 14 23 rfl rfl (by kernel_rfl) (by rfl) (f:=284) (args:=#[.agg #[]]) (w0:=w1) (by go_simp;first|done|with_reducible rfl) ?_
  refine (noneC_any w1).mono ?_
  rintro e w2 ⟨rfl,hb2⟩
  have b2:=bel_after b1 hb2
  have K2:=K.later b2
  refine ⟨_,rfl,.inr K2,?_⟩
  simp only [zA,zB,zC]
  replace hs:=K2
  refine Disk.zt 16 25 (v:=.bool false) rfl rfl hs (fun W' hSw=>(by
   have cq:((-1:Int) == c)=false:=by rw [beq_eq_false_iff_ne];omega
   go_simp;first|done|with_reducible rfl)) ?_
  simp only [zA,zB,zC]
  refine Disk.zt 17 26 (v:=.bool false) rfl rfl hs (fun W' hSw=>(by
   obtain ⟨s0,s1,s2,s3,s4,s5⟩:=hSw
   go_simp;first|done|with_reducible rfl)) ?_
  simp only [zA,zB,zC]
  refine Disk.z_pass 18 27 rfl rfl (by kernel_rfl) (by kernel_rfl) (by kernel_rfl) (by kernel_rfl) (by rfl) hs ?_
  simp only [zA,zB,zC]
  refine Disk.z_pass 19 28 rfl rfl (by kernel_rfl) (by kernel_rfl) (by kernel_rfl) (by kernel_rfl) (by rfl) hs ?_
  simp only [zA,zB,zC]
  refine Disk.z_pass 20 29 rfl rfl (by kernel_rfl) (by kernel_rfl) (by kernel_rfl) (by kernel_rfl) (by rfl) hs ?_
  simp only [zA,zB,zC]
  refine Disk.z_pass 21 30 rfl rfl (by kernel_rfl) (by kernel_rfl) (by kernel_rfl) (by kernel_rfl) (by rfl) hs ?_
  simp only [zA,zB,zC]
  refine Disk.z_pass 22 31 rfl rfl (by kernel_rfl) (by kernel_rfl) (by kernel_rfl) (by kernel_rfl) (by rfl) hs ?_
  simp only [zA,zB,zC]
  refine Disk.z_pass 23 32 rfl rfl (by kernel_rfl) (by kernel_rfl) (by kernel_rfl) (by kernel_rfl) (by rfl) hs ?_
  simp only [zA,zB,zC]
  refine Disk.zt 24 33 (v:=.bool false) rfl rfl hs (fun W' hSw=>(by
   obtain ⟨s0,s1,s2,s3,s4,s5⟩:=hSw
   go_simp;first|done|with_reducible rfl)) ?_
  simp only [zA,zB,zC]
  refine Disk.zt 25 8 (v:=.bool false) rfl rfl hs (fun W' hSw=>(by
   obtain ⟨s0,s1,s2,s3,s4,s5⟩:=hSw
   go_simp;first|done|with_reducible rfl)) ?_
  simp only [zA,zB,zC]
  refine Disk.z_done (by kernel_rfl) ?_ _
  go_wp2
  go_ret
  exact ⟨rfl,b2⟩
 ·rw [EE] at ev
  rw [m,Bool.false_and]
  have hm:=mUC
  clear RFC
  go_enter Tryz.func153,Tryz.ntmps153
  go_wp2_with fail
  refine Disk.z_plain 99 (fun W'=>KM W' N g1 g2 oa oc h) (by kernel_rfl) (K.later (Below.refl _ _).drew) fun hs=>?_
  refine Disk.zt 0 9 (v:=.pointer (some ⟨N,0,none⟩)) rfl rfl hs (fun W' hSw=>(by
   obtain ⟨s0,s1,s2,s3,s4,s5⟩:=hSw
   go_simp;first|done|with_reducible rfl)) ?_
  simp only [zA,zB,zC]
  refine Disk.zt 1 10 (v:=.pointer (some ⟨N,0,none⟩)) rfl rfl hs (fun W' hSw=>(by
   obtain ⟨s0,s1,s2,s3,s4,s5⟩:=hSw
   go_simp;first|done|with_reducible rfl)) ?_
  simp only [zA,zB,zC]
  refine Disk.zt 2 11 (v:=.pointer (some ⟨N,0,none⟩)) rfl rfl hs (fun W' hSw=>(by
   obtain ⟨s0,s1,s2,s3,s4,s5⟩:=hSw
   go_simp;first|done|with_reducible rfl)) ?_
  simp only [zA,zB,zC]
  refine Disk.zt 3 12 (v:=.pointer (some ⟨N,0,none⟩)) rfl rfl hs (fun W' hSw=>(by
   obtain ⟨s0,s1,s2,s3,s4,s5⟩:=hSw
   go_simp;first|done|with_reducible rfl)) ?_
  simp only [zA,zB,zC]
  refine Disk.zt 4 13 (v:=.agg #[.slice (some ⟨g1,0,none⟩) 3200 3200,.slice oa (obC h).length oc]) rfl rfl hs (fun W' hSw=>(by
   obtain ⟨s0,s1,s2,s3,s4,s5⟩:=hSw
   go_simp;first|done|with_reducible rfl)) ?_
  simp only [zA,zB,zC]
  refine Disk.zt 5 14 (v:=.pointer (some ⟨N,0,none⟩)) rfl rfl hs (fun W' hSw=>(by
   obtain ⟨s0,s1,s2,s3,s4,s5⟩:=hSw
   go_simp;first|done|with_reducible rfl)) ?_
  simp only [zA,zB,zC]
  refine Disk.zt 6 15 (v:=.pointer (some ⟨N,0,none⟩)) rfl rfl hs (fun W' hSw=>(by
   obtain ⟨s0,s1,s2,s3,s4,s5⟩:=hSw
   go_simp;first|done|with_reducible rfl)) ?_
  simp only [zA,zB,zC]
  refine Disk.zt 7 16 (v:=.pointer (some ⟨N,0,none⟩)) rfl rfl hs (fun W' hSw=>(by
   obtain ⟨s0,s1,s2,s3,s4,s5⟩:=hSw
   go_simp;first|done|with_reducible rfl)) ?_
  simp only [zA,zB,zC]
  refine Disk.zt 8 17 (v:=.pointer (some ⟨N,2,none⟩)) rfl rfl hs (fun W' hSw=>(by
   obtain ⟨s0,s1,s2,s3,s4,s5⟩:=hSw
   go_simp;first|done|with_reducible rfl)) ?_
  simp only [zA,zB,zC]
  refine Disk.zt 9 18 (v:=.slice (some ⟨g2,0,none⟩) h.roots.length h.roots.length) rfl rfl hs (fun W' hSw=>(by
   obtain ⟨s0,s1,s2,s3,s4,s5⟩:=hSw
   go_simp;first|done|with_reducible rfl)) ?_
  simp only [zA,zB,zC]
  refine Disk.zt 10 19 (v:=.int .i64 k) rfl rfl hs (fun W' hSw=>(by
   obtain ⟨s0,s1,s2,s3,s4,s5⟩:=hSw
   go_simp;first|done|with_reducible rfl)) ?_
  simp only [zA,zB,zC]
  refine Disk.zt 11 20 (v:=.pointer (some ⟨g2,k,none⟩)) rfl rfl hs (fun W' hSw=>(by
   obtain ⟨s0,s1,s2,s3,s4,s5⟩:=hSw
   go_simp;first|done|with_reducible rfl)) ?_
  simp only [zA,zB,zC]
  refine Disk.zt 12 21 (v:=.int .i64 x) rfl rfl hs (fun W' hSw=>(by
   have rc:=hSw.r1 k hk2
   rw [hx] at rc
   go_simp;first|done|with_reducible rfl)) ?_
  simp only [zA,zB,zC]
  refine Disk.zt 15 24 (v:=.int .i64 c) rfl rfl hs (fun W' hSw=>(by
   obtain ⟨s0,s1,s2,s3,s4,s5⟩:=hSw
   go_simp;first|done|with_reducible rfl)) ?_
  simp only [zA,zB,zC]
  refine Disk.z_call 13 22 rfl rfl (by kernel_rfl) (by rfl) (f:=187) (args:=#[.agg #[.slice (some ⟨g1,0,none⟩) 3200 3200,.slice oa (obC h).length oc],.int .i64 x]) (w0:=w.drew) (by go_simp;first|done|with_reducible rfl) ?_
  refine (elementOf_any (some ⟨g1,0,none⟩) oa 3200 3200 oc (obC h) x w.drew (K.io.later (Below.refl _ _).drew) OS OL).mono ?_
  rintro e w1 ⟨rfl,hb1⟩
  have b1:=bel_after (Below.refl _ _).drew hb1
  rw [ev]
  have K1:=K.later b1
  refine ⟨_,rfl,.inr K1,?_⟩
  simp only [zA,zB,zC]
  refine Disk.z_call 14 23 rfl rfl (by kernel_rfl) (by rfl) (f:=287) (args:=#[.agg #[]]) (w0:=w1) (by go_simp;first|done|with_reducible rfl) ?_
  refine (numC_any w1).mono ?_
  rintro e w2 ⟨rfl,hb2⟩
  have b2:=bel_after b1 hb2
  have K2:=K.later b2
  refine ⟨_,rfl,.inr K2,?_⟩
  simp only [zA,zB,zC]
  replace hs:=K2
  refine Disk.zt 16 25 (v:=.bool false) rfl rfl hs (fun W' hSw=>(by
   have cq:((100:Int) == c)=false:=by rw [beq_eq_false_iff_ne];omega
   go_simp;first|done|with_reducible rfl)) ?_
  simp only [zA,zB,zC]
  refine Disk.zt 17 26 (v:=.bool false) rfl rfl hs (fun W' hSw=>(by
   obtain ⟨s0,s1,s2,s3,s4,s5⟩:=hSw
   go_simp;first|done|with_reducible rfl)) ?_
  simp only [zA,zB,zC]
  refine Disk.z_pass 18 27 rfl rfl (by kernel_rfl) (by kernel_rfl) (by kernel_rfl) (by kernel_rfl) (by rfl) hs ?_
  simp only [zA,zB,zC]
  refine Disk.z_pass 19 28 rfl rfl (by kernel_rfl) (by kernel_rfl) (by kernel_rfl) (by kernel_rfl) (by rfl) hs ?_
  simp only [zA,zB,zC]
  refine Disk.z_pass 20 29 rfl rfl (by kernel_rfl) (by kernel_rfl) (by kernel_rfl) (by kernel_rfl) (by rfl) hs ?_
  simp only [zA,zB,zC]
  refine Disk.z_pass 21 30 rfl rfl (by kernel_rfl) (by kernel_rfl) (by kernel_rfl) (by kernel_rfl) (by rfl) hs ?_
  simp only [zA,zB,zC]
  refine Disk.z_pass 22 31 rfl rfl (by kernel_rfl) (by kernel_rfl) (by kernel_rfl) (by kernel_rfl) (by rfl) hs ?_
  simp only [zA,zB,zC]
  refine Disk.z_pass 23 32 rfl rfl (by kernel_rfl) (by kernel_rfl) (by kernel_rfl) (by kernel_rfl) (by rfl) hs ?_
  simp only [zA,zB,zC]
  refine Disk.zt 24 33 (v:=.bool false) rfl rfl hs (fun W' hSw=>(by
   obtain ⟨s0,s1,s2,s3,s4,s5⟩:=hSw
   go_simp;first|done|with_reducible rfl)) ?_
  simp only [zA,zB,zC]
  refine Disk.zt 25 8 (v:=.bool false) rfl rfl hs (fun W' hSw=>(by
   obtain ⟨s0,s1,s2,s3,s4,s5⟩:=hSw
   go_simp;first|done|with_reducible rfl)) ?_
  simp only [zA,zB,zC]
  refine Disk.z_done (by kernel_rfl) ?_ _
  go_wp2
  go_ret
  exact ⟨rfl,b2⟩
 ·have RG:=c_right hk
  obtain ⟨q1,q2,q3⟩:=RG.1.obj ha
  have q4:=size_of q3
  rw [ea,Int.toNat_natCast] at RFC ⊢
  have OC:=fun W (u:WS W g1 0 h.words)=>objC_any g1 0 3200 h.words a W u RG.1.1 q1
  have FL:Hid ((flds h.words a).length=(gw h.words a).toNat):=flds_len _ _
  rw [EE] at ev
  rw [r,Bool.true_and]
  rw [r] at RFC
  generalize gw h.words (a+1)=cl at *
  generalize (gw h.words a).toNat=nn at *
  generalize flds h.words a=ff at *
  by_cases hcl:cl=c
  ·subst hcl
   rw [decide_eq_true rfl,Bool.true_and]
   rcases ev with ev|ev
   ·have hm:=mOC (.slice (some ⟨g1,0,none⟩) 3200 3200) a
    go_enter Tryz.func153,Tryz.ntmps153
    go_wp2_with fail
    refine Disk.z_plain 99 (fun W'=>KM W' N g1 g2 oa oc h) (by kernel_rfl) (K.later (Below.refl _ _).drew) fun hs=>?_
    refine Disk.zt 0 9 (v:=.pointer (some ⟨N,0,none⟩)) rfl rfl hs (fun W' hSw=>(by
     obtain ⟨s0,s1,s2,s3,s4,s5⟩:=hSw
     go_simp;first|done|with_reducible rfl)) ?_
    simp only [zA,zB,zC]
    refine Disk.zt 1 10 (v:=.pointer (some ⟨N,0,none⟩)) rfl rfl hs (fun W' hSw=>(by
     obtain ⟨s0,s1,s2,s3,s4,s5⟩:=hSw
     go_simp;first|done|with_reducible rfl)) ?_
    simp only [zA,zB,zC]
    refine Disk.zt 2 11 (v:=.pointer (some ⟨N,0,none⟩)) rfl rfl hs (fun W' hSw=>(by
     obtain ⟨s0,s1,s2,s3,s4,s5⟩:=hSw
     go_simp;first|done|with_reducible rfl)) ?_
    simp only [zA,zB,zC]
    refine Disk.zt 3 12 (v:=.pointer (some ⟨N,0,none⟩)) rfl rfl hs (fun W' hSw=>(by
     obtain ⟨s0,s1,s2,s3,s4,s5⟩:=hSw
     go_simp;first|done|with_reducible rfl)) ?_
    simp only [zA,zB,zC]
    refine Disk.zt 4 13 (v:=.agg #[.slice (some ⟨g1,0,none⟩) 3200 3200,.slice oa (obC h).length oc]) rfl rfl hs (fun W' hSw=>(by
     obtain ⟨s0,s1,s2,s3,s4,s5⟩:=hSw
     go_simp;first|done|with_reducible rfl)) ?_
    simp only [zA,zB,zC]
    refine Disk.zt 5 14 (v:=.pointer (some ⟨N,0,none⟩)) rfl rfl hs (fun W' hSw=>(by
     obtain ⟨s0,s1,s2,s3,s4,s5⟩:=hSw
     go_simp;first|done|with_reducible rfl)) ?_
    simp only [zA,zB,zC]
    refine Disk.zt 6 15 (v:=.pointer (some ⟨N,0,none⟩)) rfl rfl hs (fun W' hSw=>(by
     obtain ⟨s0,s1,s2,s3,s4,s5⟩:=hSw
     go_simp;first|done|with_reducible rfl)) ?_
    simp only [zA,zB,zC]
    refine Disk.zt 7 16 (v:=.pointer (some ⟨N,0,none⟩)) rfl rfl hs (fun W' hSw=>(by
     obtain ⟨s0,s1,s2,s3,s4,s5⟩:=hSw
     go_simp;first|done|with_reducible rfl)) ?_
    simp only [zA,zB,zC]
    refine Disk.zt 8 17 (v:=.pointer (some ⟨N,2,none⟩)) rfl rfl hs (fun W' hSw=>(by
     obtain ⟨s0,s1,s2,s3,s4,s5⟩:=hSw
     go_simp;first|done|with_reducible rfl)) ?_
    simp only [zA,zB,zC]
    refine Disk.zt 9 18 (v:=.slice (some ⟨g2,0,none⟩) h.roots.length h.roots.length) rfl rfl hs (fun W' hSw=>(by
     obtain ⟨s0,s1,s2,s3,s4,s5⟩:=hSw
     go_simp;first|done|with_reducible rfl)) ?_
    simp only [zA,zB,zC]
    refine Disk.zt 10 19 (v:=.int .i64 k) rfl rfl hs (fun W' hSw=>(by
     obtain ⟨s0,s1,s2,s3,s4,s5⟩:=hSw
     go_simp;first|done|with_reducible rfl)) ?_
    simp only [zA,zB,zC]
    refine Disk.zt 11 20 (v:=.pointer (some ⟨g2,k,none⟩)) rfl rfl hs (fun W' hSw=>(by
     obtain ⟨s0,s1,s2,s3,s4,s5⟩:=hSw
     go_simp;first|done|with_reducible rfl)) ?_
    simp only [zA,zB,zC]
    refine Disk.zt 12 21 (v:=.int .i64 x) rfl rfl hs (fun W' hSw=>(by
     have rc:=hSw.r1 k hk2
     rw [hx] at rc
     go_simp;first|done|with_reducible rfl)) ?_
    simp only [zA,zB,zC]
    refine Disk.zt 15 24 (v:=.int .i64 cl) rfl rfl hs (fun W' hSw=>(by
     obtain ⟨s0,s1,s2,s3,s4,s5⟩:=hSw
     go_simp;first|done|with_reducible rfl)) ?_
    simp only [zA,zB,zC]
    refine Disk.z_call 13 22 rfl rfl (by kernel_rfl) (by rfl) (f:=187) (args:=#[.agg #[.slice (some ⟨g1,0,none⟩) 3200 3200,.slice oa (obC h).length oc],.int .i64 x]) (w0:=w.drew) (by go_simp;first|done|with_reducible rfl) ?_
    refine (elementOf_any (some ⟨g1,0,none⟩) oa 3200 3200 oc (obC h) x w.drew (K.io.later (Below.refl _ _).drew) OS OL).mono ?_
    rintro e w1 ⟨rfl,hb1⟩
    have b1:=bel_after (Below.refl _ _).drew hb1
    rw [ev]
    have K1:=K.later b1
    refine ⟨_,rfl,.inr K1,?_⟩
    simp only [zA,zB,zC]
    refine Disk.z_call 14 23 rfl rfl (by kernel_rfl) (by rfl) (f:=290) (args:=#[.agg #[.slice (some ⟨g1,0,none⟩) 3200 3200,.int .i64 a]]) (w0:=w1) (by go_simp;first|done|with_reducible rfl) ?_
    refine (OC w1 K1.ws).mono ?_
    rintro e w2 ⟨rfl,hb2⟩
    have b2:=bel_after b1 hb2
    have K2:=K.later b2
    refine ⟨_,rfl,.inr K2,?_⟩
    simp only [zA,zB,zC]
    replace hs:=K2
    refine Disk.zt 16 25 (v:=.bool true) rfl rfl hs (fun W' hSw=>(by
     have cq:(cl == cl)=true:=beq_self_eq_true cl
     go_simp;first|done|with_reducible rfl)) ?_
    simp only [zA,zB,zC]
    refine Disk.zt 17 26 (v:=.bool true) rfl rfl hs (fun W' hSw=>(by
     obtain ⟨s0,s1,s2,s3,s4,s5⟩:=hSw
     go_simp;first|done|with_reducible rfl)) ?_
    simp only [zA,zB,zC]
    refine Disk.zt 18 27 (v:=.pointer (some ⟨N,0,none⟩)) rfl rfl hs (fun W' hSw=>(by
     obtain ⟨s0,s1,s2,s3,s4,s5⟩:=hSw
     go_simp;first|done|with_reducible rfl)) ?_
    simp only [zA,zB,zC]
    refine Disk.zt 19 28 (v:=.int .i64 k) rfl rfl hs (fun W' hSw=>(by
     obtain ⟨s0,s1,s2,s3,s4,s5⟩:=hSw
     go_simp;first|done|with_reducible rfl)) ?_
    simp only [zA,zB,zC]
    refine Disk.zt 22 31 (v:=.int .i64 n) rfl rfl hs (fun W' hSw=>(by
     obtain ⟨s0,s1,s2,s3,s4,s5⟩:=hSw
     go_simp;first|done|with_reducible rfl)) ?_
    simp only [zA,zB,zC]
    refine Disk.z_call 20 29 rfl rfl (by kernel_rfl) (by rfl) (f:=155) (args:=#[.pointer (some ⟨N,0,none⟩),.int .i64 k]) (w0:=w2) (by go_simp;first|done|with_reducible rfl) ?_
    refine (RFC w2 K2).mono ?_
    rintro e w3 ⟨⟨v,rfl,hv⟩,hb3⟩
    obtain ⟨va,vc,rfl,vl⟩:=IRs (hv (by simp))
    rw [FL.out]
    have b3:=bel_after b2 hb3
    have K3:=K.later b3
    refine ⟨_,rfl,.inr K3,?_⟩
    simp only [zA,zB,zC]
    replace hs:=K3
    refine Disk.zt 21 30 (v:=.int .i64 nn) rfl rfl hs (fun W' hSw=>(by
     obtain ⟨s0,s1,s2,s3,s4,s5⟩:=hSw
     go_simp;first|done|with_reducible rfl)) ?_
    simp only [zA,zB,zC]
    refine Disk.zt 23 32 (v:=.bool (decide (nn=n))) rfl rfl hs (fun W' hSw=>(by
     have cq:((nn:Int) == (n:Int))=decide (nn=n):=by
      by_cases e:nn=n
      ·subst e;simp
      ·rw [decide_eq_false e,beq_eq_false_iff_ne];omega
     go_simp;first|done|with_reducible rfl)) ?_
    simp only [zA,zB,zC]
    refine Disk.zt 24 33 (v:=.bool (decide (nn=n))) rfl rfl hs (fun W' hSw=>(by
     obtain ⟨s0,s1,s2,s3,s4,s5⟩:=hSw
     go_simp;first|done|with_reducible rfl)) ?_
    simp only [zA,zB,zC]
    refine Disk.zt 25 8 (v:=.bool (decide (nn=n))) rfl rfl hs (fun W' hSw=>(by
     obtain ⟨s0,s1,s2,s3,s4,s5⟩:=hSw
     go_simp;first|done|with_reducible rfl)) ?_
    simp only [zA,zB,zC]
    refine Disk.z_done (by kernel_rfl) ?_ _
    go_wp2
    go_ret
    exact ⟨rfl,b3⟩
   ·have hm:=mYC (.slice (some ⟨g1,0,none⟩) 3200 3200) a
    go_enter Tryz.func153,Tryz.ntmps153
    go_wp2_with fail
    refine Disk.z_plain 99 (fun W'=>KM W' N g1 g2 oa oc h) (by kernel_rfl) (K.later (Below.refl _ _).drew) fun hs=>?_
    refine Disk.zt 0 9 (v:=.pointer (some ⟨N,0,none⟩)) rfl rfl hs (fun W' hSw=>(by
     obtain ⟨s0,s1,s2,s3,s4,s5⟩:=hSw
     go_simp;first|done|with_reducible rfl)) ?_
    simp only [zA,zB,zC]
    refine Disk.zt 1 10 (v:=.pointer (some ⟨N,0,none⟩)) rfl rfl hs (fun W' hSw=>(by
     obtain ⟨s0,s1,s2,s3,s4,s5⟩:=hSw
     go_simp;first|done|with_reducible rfl)) ?_
    simp only [zA,zB,zC]
    refine Disk.zt 2 11 (v:=.pointer (some ⟨N,0,none⟩)) rfl rfl hs (fun W' hSw=>(by
     obtain ⟨s0,s1,s2,s3,s4,s5⟩:=hSw
     go_simp;first|done|with_reducible rfl)) ?_
    simp only [zA,zB,zC]
    refine Disk.zt 3 12 (v:=.pointer (some ⟨N,0,none⟩)) rfl rfl hs (fun W' hSw=>(by
     obtain ⟨s0,s1,s2,s3,s4,s5⟩:=hSw
     go_simp;first|done|with_reducible rfl)) ?_
    simp only [zA,zB,zC]
    refine Disk.zt 4 13 (v:=.agg #[.slice (some ⟨g1,0,none⟩) 3200 3200,.slice oa (obC h).length oc]) rfl rfl hs (fun W' hSw=>(by
     obtain ⟨s0,s1,s2,s3,s4,s5⟩:=hSw
     go_simp;first|done|with_reducible rfl)) ?_
    simp only [zA,zB,zC]
    refine Disk.zt 5 14 (v:=.pointer (some ⟨N,0,none⟩)) rfl rfl hs (fun W' hSw=>(by
     obtain ⟨s0,s1,s2,s3,s4,s5⟩:=hSw
     go_simp;first|done|with_reducible rfl)) ?_
    simp only [zA,zB,zC]
    refine Disk.zt 6 15 (v:=.pointer (some ⟨N,0,none⟩)) rfl rfl hs (fun W' hSw=>(by
     obtain ⟨s0,s1,s2,s3,s4,s5⟩:=hSw
     go_simp;first|done|with_reducible rfl)) ?_
    simp only [zA,zB,zC]
    refine Disk.zt 7 16 (v:=.pointer (some ⟨N,0,none⟩)) rfl rfl hs (fun W' hSw=>(by
     obtain ⟨s0,s1,s2,s3,s4,s5⟩:=hSw
     go_simp;first|done|with_reducible rfl)) ?_
    simp only [zA,zB,zC]
    refine Disk.zt 8 17 (v:=.pointer (some ⟨N,2,none⟩)) rfl rfl hs (fun W' hSw=>(by
     obtain ⟨s0,s1,s2,s3,s4,s5⟩:=hSw
     go_simp;first|done|with_reducible rfl)) ?_
    simp only [zA,zB,zC]
    refine Disk.zt 9 18 (v:=.slice (some ⟨g2,0,none⟩) h.roots.length h.roots.length) rfl rfl hs (fun W' hSw=>(by
     obtain ⟨s0,s1,s2,s3,s4,s5⟩:=hSw
     go_simp;first|done|with_reducible rfl)) ?_
    simp only [zA,zB,zC]
    refine Disk.zt 10 19 (v:=.int .i64 k) rfl rfl hs (fun W' hSw=>(by
     obtain ⟨s0,s1,s2,s3,s4,s5⟩:=hSw
     go_simp;first|done|with_reducible rfl)) ?_
    simp only [zA,zB,zC]
    refine Disk.zt 11 20 (v:=.pointer (some ⟨g2,k,none⟩)) rfl rfl hs (fun W' hSw=>(by
     obtain ⟨s0,s1,s2,s3,s4,s5⟩:=hSw
     go_simp;first|done|with_reducible rfl)) ?_
    simp only [zA,zB,zC]
    refine Disk.zt 12 21 (v:=.int .i64 x) rfl rfl hs (fun W' hSw=>(by
     have rc:=hSw.r1 k hk2
     rw [hx] at rc
     go_simp;first|done|with_reducible rfl)) ?_
    simp only [zA,zB,zC]
    refine Disk.zt 15 24 (v:=.int .i64 cl) rfl rfl hs (fun W' hSw=>(by
     obtain ⟨s0,s1,s2,s3,s4,s5⟩:=hSw
     go_simp;first|done|with_reducible rfl)) ?_
    simp only [zA,zB,zC]
    refine Disk.z_call 13 22 rfl rfl (by kernel_rfl) (by rfl) (f:=187) (args:=#[.agg #[.slice (some ⟨g1,0,none⟩) 3200 3200,.slice oa (obC h).length oc],.int .i64 x]) (w0:=w.drew) (by go_simp;first|done|with_reducible rfl) ?_
    refine (elementOf_any (some ⟨g1,0,none⟩) oa 3200 3200 oc (obC h) x w.drew (K.io.later (Below.refl _ _).drew) OS OL).mono ?_
    rintro e w1 ⟨rfl,hb1⟩
    have b1:=bel_after (Below.refl _ _).drew hb1
    rw [ev]
    have K1:=K.later b1
    refine ⟨_,rfl,.inr K1,?_⟩
    simp only [zA,zB,zC]
    refine Disk.z_call 14 23 rfl rfl (by kernel_rfl) (by rfl) (f:=290) (args:=#[.agg #[.slice (some ⟨g1,0,none⟩) 3200 3200,.int .i64 a]]) (w0:=w1) (by go_simp;first|done|with_reducible rfl) ?_
    refine (OC w1 K1.ws).mono ?_
    rintro e w2 ⟨rfl,hb2⟩
    have b2:=bel_after b1 hb2
    have K2:=K.later b2
    refine ⟨_,rfl,.inr K2,?_⟩
    simp only [zA,zB,zC]
    replace hs:=K2
    refine Disk.zt 16 25 (v:=.bool true) rfl rfl hs (fun W' hSw=>(by
     have cq:(cl == cl)=true:=beq_self_eq_true cl
     go_simp;first|done|with_reducible rfl)) ?_
    simp only [zA,zB,zC]
    refine Disk.zt 17 26 (v:=.bool true) rfl rfl hs (fun W' hSw=>(by
     obtain ⟨s0,s1,s2,s3,s4,s5⟩:=hSw
     go_simp;first|done|with_reducible rfl)) ?_
    simp only [zA,zB,zC]
    refine Disk.zt 18 27 (v:=.pointer (some ⟨N,0,none⟩)) rfl rfl hs (fun W' hSw=>(by
     obtain ⟨s0,s1,s2,s3,s4,s5⟩:=hSw
     go_simp;first|done|with_reducible rfl)) ?_
    simp only [zA,zB,zC]
    refine Disk.zt 19 28 (v:=.int .i64 k) rfl rfl hs (fun W' hSw=>(by
     obtain ⟨s0,s1,s2,s3,s4,s5⟩:=hSw
     go_simp;first|done|with_reducible rfl)) ?_
    simp only [zA,zB,zC]
    refine Disk.zt 22 31 (v:=.int .i64 n) rfl rfl hs (fun W' hSw=>(by
     obtain ⟨s0,s1,s2,s3,s4,s5⟩:=hSw
     go_simp;first|done|with_reducible rfl)) ?_
    simp only [zA,zB,zC]
    refine Disk.z_call 20 29 rfl rfl (by kernel_rfl) (by rfl) (f:=155) (args:=#[.pointer (some ⟨N,0,none⟩),.int .i64 k]) (w0:=w2) (by go_simp;first|done|with_reducible rfl) ?_
    refine (RFC w2 K2).mono ?_
    rintro e w3 ⟨⟨v,rfl,hv⟩,hb3⟩
    obtain ⟨va,vc,rfl,vl⟩:=IRs (hv (by simp))
    rw [FL.out]
    have b3:=bel_after b2 hb3
    have K3:=K.later b3
    refine ⟨_,rfl,.inr K3,?_⟩
    simp only [zA,zB,zC]
    replace hs:=K3
    refine Disk.zt 21 30 (v:=.int .i64 nn) rfl rfl hs (fun W' hSw=>(by
     obtain ⟨s0,s1,s2,s3,s4,s5⟩:=hSw
     go_simp;first|done|with_reducible rfl)) ?_
    simp only [zA,zB,zC]
    refine Disk.zt 23 32 (v:=.bool (decide (nn=n))) rfl rfl hs (fun W' hSw=>(by
     have cq:((nn:Int) == (n:Int))=decide (nn=n):=by
      by_cases e:nn=n
      ·subst e;simp
      ·rw [decide_eq_false e,beq_eq_false_iff_ne];omega
     go_simp;first|done|with_reducible rfl)) ?_
    simp only [zA,zB,zC]
    refine Disk.zt 24 33 (v:=.bool (decide (nn=n))) rfl rfl hs (fun W' hSw=>(by
     obtain ⟨s0,s1,s2,s3,s4,s5⟩:=hSw
     go_simp;first|done|with_reducible rfl)) ?_
    simp only [zA,zB,zC]
    refine Disk.zt 25 8 (v:=.bool (decide (nn=n))) rfl rfl hs (fun W' hSw=>(by
     obtain ⟨s0,s1,s2,s3,s4,s5⟩:=hSw
     go_simp;first|done|with_reducible rfl)) ?_
    simp only [zA,zB,zC]
    refine Disk.z_done (by kernel_rfl) ?_ _
    go_wp2
    go_ret
    exact ⟨rfl,b3⟩
  ·rw [decide_eq_false hcl,Bool.false_and]
   clear RFC
   rcases ev with ev|ev
   ·have hm:=mOC (.slice (some ⟨g1,0,none⟩) 3200 3200) a
    go_enter Tryz.func153,Tryz.ntmps153
    go_wp2_with fail
    refine Disk.z_plain 99 (fun W'=>KM W' N g1 g2 oa oc h) (by kernel_rfl) (K.later (Below.refl _ _).drew) fun hs=>?_
    refine Disk.zt 0 9 (v:=.pointer (some ⟨N,0,none⟩)) rfl rfl hs (fun W' hSw=>(by
     obtain ⟨s0,s1,s2,s3,s4,s5⟩:=hSw
     go_simp;first|done|with_reducible rfl)) ?_
    simp only [zA,zB,zC]
    refine Disk.zt 1 10 (v:=.pointer (some ⟨N,0,none⟩)) rfl rfl hs (fun W' hSw=>(by
     obtain ⟨s0,s1,s2,s3,s4,s5⟩:=hSw
     go_simp;first|done|with_reducible rfl)) ?_
    simp only [zA,zB,zC]
    refine Disk.zt 2 11 (v:=.pointer (some ⟨N,0,none⟩)) rfl rfl hs (fun W' hSw=>(by
     obtain ⟨s0,s1,s2,s3,s4,s5⟩:=hSw
     go_simp;first|done|with_reducible rfl)) ?_
    simp only [zA,zB,zC]
    refine Disk.zt 3 12 (v:=.pointer (some ⟨N,0,none⟩)) rfl rfl hs (fun W' hSw=>(by
     obtain ⟨s0,s1,s2,s3,s4,s5⟩:=hSw
     go_simp;first|done|with_reducible rfl)) ?_
    simp only [zA,zB,zC]
    refine Disk.zt 4 13 (v:=.agg #[.slice (some ⟨g1,0,none⟩) 3200 3200,.slice oa (obC h).length oc]) rfl rfl hs (fun W' hSw=>(by
     obtain ⟨s0,s1,s2,s3,s4,s5⟩:=hSw
     go_simp;first|done|with_reducible rfl)) ?_
    simp only [zA,zB,zC]
    refine Disk.zt 5 14 (v:=.pointer (some ⟨N,0,none⟩)) rfl rfl hs (fun W' hSw=>(by
     obtain ⟨s0,s1,s2,s3,s4,s5⟩:=hSw
     go_simp;first|done|with_reducible rfl)) ?_
    simp only [zA,zB,zC]
    refine Disk.zt 6 15 (v:=.pointer (some ⟨N,0,none⟩)) rfl rfl hs (fun W' hSw=>(by
     obtain ⟨s0,s1,s2,s3,s4,s5⟩:=hSw
     go_simp;first|done|with_reducible rfl)) ?_
    simp only [zA,zB,zC]
    refine Disk.zt 7 16 (v:=.pointer (some ⟨N,0,none⟩)) rfl rfl hs (fun W' hSw=>(by
     obtain ⟨s0,s1,s2,s3,s4,s5⟩:=hSw
     go_simp;first|done|with_reducible rfl)) ?_
    simp only [zA,zB,zC]
    refine Disk.zt 8 17 (v:=.pointer (some ⟨N,2,none⟩)) rfl rfl hs (fun W' hSw=>(by
     obtain ⟨s0,s1,s2,s3,s4,s5⟩:=hSw
     go_simp;first|done|with_reducible rfl)) ?_
    simp only [zA,zB,zC]
    refine Disk.zt 9 18 (v:=.slice (some ⟨g2,0,none⟩) h.roots.length h.roots.length) rfl rfl hs (fun W' hSw=>(by
     obtain ⟨s0,s1,s2,s3,s4,s5⟩:=hSw
     go_simp;first|done|with_reducible rfl)) ?_
    simp only [zA,zB,zC]
    refine Disk.zt 10 19 (v:=.int .i64 k) rfl rfl hs (fun W' hSw=>(by
     obtain ⟨s0,s1,s2,s3,s4,s5⟩:=hSw
     go_simp;first|done|with_reducible rfl)) ?_
    simp only [zA,zB,zC]
    refine Disk.zt 11 20 (v:=.pointer (some ⟨g2,k,none⟩)) rfl rfl hs (fun W' hSw=>(by
     obtain ⟨s0,s1,s2,s3,s4,s5⟩:=hSw
     go_simp;first|done|with_reducible rfl)) ?_
    simp only [zA,zB,zC]
    refine Disk.zt 12 21 (v:=.int .i64 x) rfl rfl hs (fun W' hSw=>(by
     have rc:=hSw.r1 k hk2
     rw [hx] at rc
     go_simp;first|done|with_reducible rfl)) ?_
    simp only [zA,zB,zC]
    refine Disk.zt 15 24 (v:=.int .i64 c) rfl rfl hs (fun W' hSw=>(by
     obtain ⟨s0,s1,s2,s3,s4,s5⟩:=hSw
     go_simp;first|done|with_reducible rfl)) ?_
    simp only [zA,zB,zC]
    refine Disk.z_call 13 22 rfl rfl (by kernel_rfl) (by rfl) (f:=187) (args:=#[.agg #[.slice (some ⟨g1,0,none⟩) 3200 3200,.slice oa (obC h).length oc],.int .i64 x]) (w0:=w.drew) (by go_simp;first|done|with_reducible rfl) ?_
    refine (elementOf_any (some ⟨g1,0,none⟩) oa 3200 3200 oc (obC h) x w.drew (K.io.later (Below.refl _ _).drew) OS OL).mono ?_
    rintro e w1 ⟨rfl,hb1⟩
    have b1:=bel_after (Below.refl _ _).drew hb1
    rw [ev]
    have K1:=K.later b1
    refine ⟨_,rfl,.inr K1,?_⟩
    simp only [zA,zB,zC]
    refine Disk.z_call 14 23 rfl rfl (by kernel_rfl) (by rfl) (f:=290) (args:=#[.agg #[.slice (some ⟨g1,0,none⟩) 3200 3200,.int .i64 a]]) (w0:=w1) (by go_simp;first|done|with_reducible rfl) ?_
    refine (OC w1 K1.ws).mono ?_
    rintro e w2 ⟨rfl,hb2⟩
    have b2:=bel_after b1 hb2
    have K2:=K.later b2
    refine ⟨_,rfl,.inr K2,?_⟩
    simp only [zA,zB,zC]
    replace hs:=K2
    refine Disk.zt 16 25 (v:=.bool false) rfl rfl hs (fun W' hSw=>(by
     have cq:(cl == c)=false:=by rw [beq_eq_false_iff_ne];exact hcl
     go_simp;first|done|with_reducible rfl)) ?_
    simp only [zA,zB,zC]
    refine Disk.zt 17 26 (v:=.bool false) rfl rfl hs (fun W' hSw=>(by
     obtain ⟨s0,s1,s2,s3,s4,s5⟩:=hSw
     go_simp;first|done|with_reducible rfl)) ?_
    simp only [zA,zB,zC]
    refine Disk.z_pass 18 27 rfl rfl (by kernel_rfl) (by kernel_rfl) (by kernel_rfl) (by kernel_rfl) (by rfl) hs ?_
    simp only [zA,zB,zC]
    refine Disk.z_pass 19 28 rfl rfl (by kernel_rfl) (by kernel_rfl) (by kernel_rfl) (by kernel_rfl) (by rfl) hs ?_
    simp only [zA,zB,zC]
    refine Disk.z_pass 20 29 rfl rfl (by kernel_rfl) (by kernel_rfl) (by kernel_rfl) (by kernel_rfl) (by rfl) hs ?_
    simp only [zA,zB,zC]
    refine Disk.z_pass 21 30 rfl rfl (by kernel_rfl) (by kernel_rfl) (by kernel_rfl) (by kernel_rfl) (by rfl) hs ?_
    simp only [zA,zB,zC]
    refine Disk.z_pass 22 31 rfl rfl (by kernel_rfl) (by kernel_rfl) (by kernel_rfl) (by kernel_rfl) (by rfl) hs ?_
    simp only [zA,zB,zC]
    refine Disk.z_pass 23 32 rfl rfl (by kernel_rfl) (by kernel_rfl) (by kernel_rfl) (by kernel_rfl) (by rfl) hs ?_
    simp only [zA,zB,zC]
    refine Disk.zt 24 33 (v:=.bool false) rfl rfl hs (fun W' hSw=>(by
     obtain ⟨s0,s1,s2,s3,s4,s5⟩:=hSw
     go_simp;first|done|with_reducible rfl)) ?_
    simp only [zA,zB,zC]
    refine Disk.zt 25 8 (v:=.bool false) rfl rfl hs (fun W' hSw=>(by
     obtain ⟨s0,s1,s2,s3,s4,s5⟩:=hSw
     go_simp;first|done|with_reducible rfl)) ?_
    simp only [zA,zB,zC]
    refine Disk.z_done (by kernel_rfl) ?_ _
    go_wp2
    go_ret
    exact ⟨rfl,b2⟩
   ·have hm:=mYC (.slice (some ⟨g1,0,none⟩) 3200 3200) a
    go_enter Tryz.func153,Tryz.ntmps153
    go_wp2_with fail
    refine Disk.z_plain 99 (fun W'=>KM W' N g1 g2 oa oc h) (by kernel_rfl) (K.later (Below.refl _ _).drew) fun hs=>?_
    refine Disk.zt 0 9 (v:=.pointer (some ⟨N,0,none⟩)) rfl rfl hs (fun W' hSw=>(by
     obtain ⟨s0,s1,s2,s3,s4,s5⟩:=hSw
     go_simp;first|done|with_reducible rfl)) ?_
    simp only [zA,zB,zC]
    refine Disk.zt 1 10 (v:=.pointer (some ⟨N,0,none⟩)) rfl rfl hs (fun W' hSw=>(by
     obtain ⟨s0,s1,s2,s3,s4,s5⟩:=hSw
     go_simp;first|done|with_reducible rfl)) ?_
    simp only [zA,zB,zC]
    refine Disk.zt 2 11 (v:=.pointer (some ⟨N,0,none⟩)) rfl rfl hs (fun W' hSw=>(by
     obtain ⟨s0,s1,s2,s3,s4,s5⟩:=hSw
     go_simp;first|done|with_reducible rfl)) ?_
    simp only [zA,zB,zC]
    refine Disk.zt 3 12 (v:=.pointer (some ⟨N,0,none⟩)) rfl rfl hs (fun W' hSw=>(by
     obtain ⟨s0,s1,s2,s3,s4,s5⟩:=hSw
     go_simp;first|done|with_reducible rfl)) ?_
    simp only [zA,zB,zC]
    refine Disk.zt 4 13 (v:=.agg #[.slice (some ⟨g1,0,none⟩) 3200 3200,.slice oa (obC h).length oc]) rfl rfl hs (fun W' hSw=>(by
     obtain ⟨s0,s1,s2,s3,s4,s5⟩:=hSw
     go_simp;first|done|with_reducible rfl)) ?_
    simp only [zA,zB,zC]
    refine Disk.zt 5 14 (v:=.pointer (some ⟨N,0,none⟩)) rfl rfl hs (fun W' hSw=>(by
     obtain ⟨s0,s1,s2,s3,s4,s5⟩:=hSw
     go_simp;first|done|with_reducible rfl)) ?_
    simp only [zA,zB,zC]
    refine Disk.zt 6 15 (v:=.pointer (some ⟨N,0,none⟩)) rfl rfl hs (fun W' hSw=>(by
     obtain ⟨s0,s1,s2,s3,s4,s5⟩:=hSw
     go_simp;first|done|with_reducible rfl)) ?_
    simp only [zA,zB,zC]
    refine Disk.zt 7 16 (v:=.pointer (some ⟨N,0,none⟩)) rfl rfl hs (fun W' hSw=>(by
     obtain ⟨s0,s1,s2,s3,s4,s5⟩:=hSw
     go_simp;first|done|with_reducible rfl)) ?_
    simp only [zA,zB,zC]
    refine Disk.zt 8 17 (v:=.pointer (some ⟨N,2,none⟩)) rfl rfl hs (fun W' hSw=>(by
     obtain ⟨s0,s1,s2,s3,s4,s5⟩:=hSw
     go_simp;first|done|with_reducible rfl)) ?_
    simp only [zA,zB,zC]
    refine Disk.zt 9 18 (v:=.slice (some ⟨g2,0,none⟩) h.roots.length h.roots.length) rfl rfl hs (fun W' hSw=>(by
     obtain ⟨s0,s1,s2,s3,s4,s5⟩:=hSw
     go_simp;first|done|with_reducible rfl)) ?_
    simp only [zA,zB,zC]
    refine Disk.zt 10 19 (v:=.int .i64 k) rfl rfl hs (fun W' hSw=>(by
     obtain ⟨s0,s1,s2,s3,s4,s5⟩:=hSw
     go_simp;first|done|with_reducible rfl)) ?_
    simp only [zA,zB,zC]
    refine Disk.zt 11 20 (v:=.pointer (some ⟨g2,k,none⟩)) rfl rfl hs (fun W' hSw=>(by
     obtain ⟨s0,s1,s2,s3,s4,s5⟩:=hSw
     go_simp;first|done|with_reducible rfl)) ?_
    simp only [zA,zB,zC]
    refine Disk.zt 12 21 (v:=.int .i64 x) rfl rfl hs (fun W' hSw=>(by
     have rc:=hSw.r1 k hk2
     rw [hx] at rc
     go_simp;first|done|with_reducible rfl)) ?_
    simp only [zA,zB,zC]
    refine Disk.zt 15 24 (v:=.int .i64 c) rfl rfl hs (fun W' hSw=>(by
     obtain ⟨s0,s1,s2,s3,s4,s5⟩:=hSw
     go_simp;first|done|with_reducible rfl)) ?_
    simp only [zA,zB,zC]
    refine Disk.z_call 13 22 rfl rfl (by kernel_rfl) (by rfl) (f:=187) (args:=#[.agg #[.slice (some ⟨g1,0,none⟩) 3200 3200,.slice oa (obC h).length oc],.int .i64 x]) (w0:=w.drew) (by go_simp;first|done|with_reducible rfl) ?_
    refine (elementOf_any (some ⟨g1,0,none⟩) oa 3200 3200 oc (obC h) x w.drew (K.io.later (Below.refl _ _).drew) OS OL).mono ?_
    rintro e w1 ⟨rfl,hb1⟩
    have b1:=bel_after (Below.refl _ _).drew hb1
    rw [ev]
    have K1:=K.later b1
    refine ⟨_,rfl,.inr K1,?_⟩
    simp only [zA,zB,zC]
    refine Disk.z_call 14 23 rfl rfl (by kernel_rfl) (by rfl) (f:=290) (args:=#[.agg #[.slice (some ⟨g1,0,none⟩) 3200 3200,.int .i64 a]]) (w0:=w1) (by go_simp;first|done|with_reducible rfl) ?_
    refine (OC w1 K1.ws).mono ?_
    rintro e w2 ⟨rfl,hb2⟩
    have b2:=bel_after b1 hb2
    have K2:=K.later b2
    refine ⟨_,rfl,.inr K2,?_⟩
    simp only [zA,zB,zC]
    replace hs:=K2
    refine Disk.zt 16 25 (v:=.bool false) rfl rfl hs (fun W' hSw=>(by
     have cq:(cl == c)=false:=by rw [beq_eq_false_iff_ne];exact hcl
     go_simp;first|done|with_reducible rfl)) ?_
    simp only [zA,zB,zC]
    refine Disk.zt 17 26 (v:=.bool false) rfl rfl hs (fun W' hSw=>(by
     obtain ⟨s0,s1,s2,s3,s4,s5⟩:=hSw
     go_simp;first|done|with_reducible rfl)) ?_
    simp only [zA,zB,zC]
    refine Disk.z_pass 18 27 rfl rfl (by kernel_rfl) (by kernel_rfl) (by kernel_rfl) (by kernel_rfl) (by rfl) hs ?_
    simp only [zA,zB,zC]
    refine Disk.z_pass 19 28 rfl rfl (by kernel_rfl) (by kernel_rfl) (by kernel_rfl) (by kernel_rfl) (by rfl) hs ?_
    simp only [zA,zB,zC]
    refine Disk.z_pass 20 29 rfl rfl (by kernel_rfl) (by kernel_rfl) (by kernel_rfl) (by kernel_rfl) (by rfl) hs ?_
    simp only [zA,zB,zC]
    refine Disk.z_pass 21 30 rfl rfl (by kernel_rfl) (by kernel_rfl) (by kernel_rfl) (by kernel_rfl) (by rfl) hs ?_
    simp only [zA,zB,zC]
    refine Disk.z_pass 22 31 rfl rfl (by kernel_rfl) (by kernel_rfl) (by kernel_rfl) (by kernel_rfl) (by rfl) hs ?_
    simp only [zA,zB,zC]
    refine Disk.z_pass 23 32 rfl rfl (by kernel_rfl) (by kernel_rfl) (by kernel_rfl) (by kernel_rfl) (by rfl) hs ?_
    simp only [zA,zB,zC]
    refine Disk.zt 24 33 (v:=.bool false) rfl rfl hs (fun W' hSw=>(by
     obtain ⟨s0,s1,s2,s3,s4,s5⟩:=hSw
     go_simp;first|done|with_reducible rfl)) ?_
    simp only [zA,zB,zC]
    refine Disk.zt 25 8 (v:=.bool false) rfl rfl hs (fun W' hSw=>(by
     obtain ⟨s0,s1,s2,s3,s4,s5⟩:=hSw
     go_simp;first|done|with_reducible rfl)) ?_
    simp only [zA,zB,zC]
    refine Disk.z_done (by kernel_rfl) ?_ _
    go_wp2
    go_ret
    exact ⟨rfl,b2⟩
end Go.Proofs.YtgnbibinclepcaaGreatDoor
