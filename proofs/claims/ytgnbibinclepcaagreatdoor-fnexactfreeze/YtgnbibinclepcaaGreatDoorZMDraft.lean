import Derived.Test.YtgnbibinclepcaaGreatDoorZP11
import Derived.Test.YtgnbibinclepcaaGreatDoorZP12
namespace Go.Proofs.YtgnbibinclepcaaGreatDoor
open Go.RowKit
def Far (v:Value) (g:Nat):Prop:=∀ (ad:Addr) (n c:Nat),v=.slice (some ad) n c->0<n->ad.block<g
def Low (v:Value) (B:Nat):Prop:=∀ (ad:Addr) (n c:Nat),v=.slice (some ad) n c->0<n->B<=ad.block
def DrOut2 (h:Hp) (B:Nat) (x:Ending) (w' : World):Prop :=
 (okC h=true/\∃ g1 g2 g3 oa oc,x=.returned (.tuple #[.agg #[.slice (some ⟨g1,0,none⟩) h.words.length h.words.length,.slice oa (obC h).length oc,.slice (some ⟨g2,0,none⟩) h.roots.length h.roots.length,.int .i64 h.old,.int .i64 h.eden,.int .i64 h.surv,.bool h.flip,.int .i64 h.hash,.slice (some ⟨g3,0,none⟩) h.kept.length h.kept.length],.bool true]) ∧
  (RI w' g1 h.words h.words.length/\RI w' g2 h.roots h.roots.length/\RI w' g3 h.kept h.kept.length)/\(B<=g1/\g1<g2/\g2<g3)/\IR w' (.slice oa (obC h).length oc) (ints (obC h))/\Far (.slice oa (obC h).length oc) g1/\Low (.slice oa (obC h).length oc) B) ∨
 (okC h=false/\x=.returned (.tuple #[.agg #[.slice none 0 0,.slice none 0 0,.slice none 0 0,.int .i64 0,.int .i64 0,.int .i64 0,.bool false,.int .i64 0,.slice none 0 0],.bool false]))
theorem own_low2 {w:World} {B e size m:Nat} {v:Value} {xs:List Value} (h:w.ownsRow B e size v m xs):Low v B:=by
 intro a n c e _
 subst e
 rcases h.2 with ⟨e0,_⟩|⟨g',cap',cur,e0,hB,hh,_⟩
 ·cases e0
 ·injection e0 with e1
  injection e1 with e1
  subst e1
  exact hB
theorem own_lt {w:World} {B e size m:Nat} {v:Value} {xs:List Value} (h:w.ownsRow B e size v m xs):Far v w.heap.size:=by
 intro a n c e _
 subst e
 rcases h.2 with ⟨e0,_⟩|⟨g',cap',cur,e0,hB,hh,_⟩
 ·cases e0
 ·injection e0 with e1
  injection e1 with e1
  subst e1
  exact (Array.getElem?_eq_some_iff.1 hh).1
theorem IR.setOther {w:World} {v:Value} {l:List Int} {b i:Nat} (h:IR w v l) (hb:∀ a n c,v=.slice (some a) n c->0<n->a.block ≠ b) (u:Value):IR (w.setCell ⟨b,i,none⟩ u) v l :=
 h.keep' fun a n c e hn=>Below.heap_setCell _ _ _ _ (hb a n c e hn)
theorem own_far {w:World} {B e size m b:Nat} {v:Value} {xs:List Value} (h:w.ownsRow B e size v m xs) (hb:b<B):∀ a n c,v=.slice (some a) n c->0<n->a.block ≠ b:=by
 intro a n c e _ k
 subst e
 rcases h.2 with ⟨e0,_⟩|⟨g',cap',cur,e0,hB,_⟩
 ·cases e0
 ·injection e0 with e1
  injection e1 with e1
  subst e1
  have:g' = b:=k
  omega
theorem keepT {W a:World} {i:Nat} {v u0 u1 u2 u3 u4 u5 u6 u7:Value} (h:Below W.heap.size W a/\a.cell? ⟨W.heap.size,0,none⟩=some u0/\a.cell? ⟨W.heap.size,1,none⟩=some u1/\a.cell? ⟨W.heap.size,2,none⟩=some u2/\a.cell? ⟨W.heap.size,3,none⟩=some u3/\a.cell? ⟨W.heap.size,4,none⟩=some u4/\a.cell? ⟨W.heap.size,5,none⟩=some u5/\a.cell? ⟨W.heap.size,6,none⟩=some u6/\a.cell? ⟨W.heap.size,7,none⟩=some u7) :
  Below W.heap.size W (a.setCell ⟨W.heap.size+1,i,none⟩ v)/\(a.setCell ⟨W.heap.size+1,i,none⟩ v).cell? ⟨W.heap.size,0,none⟩=some u0/\(a.setCell ⟨W.heap.size+1,i,none⟩ v).cell? ⟨W.heap.size,1,none⟩=some u1/\(a.setCell ⟨W.heap.size+1,i,none⟩ v).cell? ⟨W.heap.size,2,none⟩=some u2/\(a.setCell ⟨W.heap.size+1,i,none⟩ v).cell? ⟨W.heap.size,3,none⟩=some u3/\(a.setCell ⟨W.heap.size+1,i,none⟩ v).cell? ⟨W.heap.size,4,none⟩=some u4/\(a.setCell ⟨W.heap.size+1,i,none⟩ v).cell? ⟨W.heap.size,5,none⟩=some u5/\(a.setCell ⟨W.heap.size+1,i,none⟩ v).cell? ⟨W.heap.size,6,none⟩=some u6/\(a.setCell ⟨W.heap.size+1,i,none⟩ v).cell? ⟨W.heap.size,7,none⟩=some u7:=by
 have e:∀ o u,a.cell? ⟨W.heap.size,o,none⟩=some u->(a.setCell ⟨W.heap.size+1,i,none⟩ v).cell? ⟨W.heap.size,o,none⟩=some u:=fun o u q =>
  (World.cell?_of_block (w:=a) (a:=⟨W.heap.size,o,none⟩) (Below.heap_setCell _ _ _ _ (by simp))).trans q
 obtain ⟨h0,h1,h2,h3,h4,h5,h6,h7,h8⟩:=h
 exact ⟨h0.setCell (p:=⟨W.heap.size+1,i,none⟩) (Nat.le_succ _) _,e _ _ h1,e _ _ h2,e _ _ h3,e _ _ h4,e _ _ h5,e _ _ h6,e _ _ h7,e _ _ h8⟩
set_option maxRecDepth 100000 in
set_option maxHeartbeats 1600000 in
theorem draftOf_c2 (v:Value) (h:Hp) (w:World) (hv:HR w v h) (hwo:h.words.length<=1000000000000) (hro:h.roots.length<=1000000000000) (hke:h.kept.length<=1000000000000) :
  Calls Tryz.prog 110 #[v] w fun x w'=>DrOut2 h w.heap.size x w' /\ Below w.heap.size w w':=by
 obtain ⟨v1,v2,v3,rfl,i1,i2,i3⟩:=id hv
 obtain ⟨a1,c1,rfl,-⟩:=IRs i1
 obtain ⟨a2,c2,rfl,-⟩:=IRs i2
 obtain ⟨a3,c3,rfl,-⟩:=IRs i3
 have hb0:Below w.heap.size w ((w.alloc (.cells #[.slice a1 h.words.length c1,.slice a2 h.roots.length c2,.int .i64 h.old,.int .i64 h.eden,.int .i64 h.surv,.bool h.flip,.int .i64 h.hash,.slice a3 h.kept.length c3] 26)).alloc (.cells #[.slice none 0 0,.slice none 0 0,.slice none 0 0,.int .i64 0,.int .i64 0,.int .i64 0,.bool false,.int .i64 0,.slice none 0 0] 108)):=bel_after (bel_one _ _) (bel_one _ _)
 have X0:=(Bx.new w (.slice a1 h.words.length c1) (.slice a2 h.roots.length c2) (.slice a3 h.kept.length c3) h 26).later (bel_one _ (.cells #[.slice none 0 0,.slice none 0 0,.slice none 0 0,.int .i64 0,.int .i64 0,.int .i64 0,.bool false,.int .i64 0,.slice none 0 0] 108))
 obtain ⟨f,R0⟩:∃ f,((w.alloc (.cells #[.slice a1 h.words.length c1,.slice a2 h.roots.length c2,.int .i64 h.old,.int .i64 h.eden,.int .i64 h.surv,.bool h.flip,.int .i64 h.hash,.slice a3 h.kept.length c3] 26)).alloc (.cells #[.slice none 0 0,.slice none 0 0,.slice none 0 0,.int .i64 0,.int .i64 0,.int .i64 0,.bool false,.int .i64 0,.slice none 0 0] 108)).rowIs (w.heap.size+1) 108 9 f:=by
  have q:=row_any (w.alloc (.cells #[.slice a1 h.words.length c1,.slice a2 h.roots.length c2,.int .i64 h.old,.int .i64 h.eden,.int .i64 h.surv,.bool h.flip,.int .i64 h.hash,.slice a3 h.kept.length c3] 26)) #[.slice none 0 0,.slice none 0 0,.slice none 0 0,.int .i64 0,.int .i64 0,.int .i64 0,.bool false,.int .i64 0,.slice none 0 0] 108
  rw [World.size_alloc] at q
  exact ⟨_,q⟩
 have C:=right_c _ h _ (hv.later hb0) hro hke
 go_enter Tryz.func110,Tryz.ntmps110
 go_wp2_with fail
 refine C.mono ?_
 rintro x w1 ⟨⟨v',rfl,ho⟩,hb1⟩
 have hbw1:=bel_after hb0 hb1
 have X1:=X0.later hb1
 obtain ⟨oa,oc,rfl,-⟩:=intsI (IR_of_owns' ho)
 have io:=IR_of_owns' ho
 have far:=own_far (b:=w.heap.size+1) ho (by simp)
 have farO:=own_lt ho
 have lowO:Low (.slice oa (obC h).length oc) w.heap.size:=fun ad n c e hn=>Nat.le_trans hb0.size (own_low2 ho ad n c e hn)
 obtain ⟨c0,c1',c2',c3',c4,c5,c6,c7⟩:=id X1
 have R1:=R0.of_block (hb1.block _ R0.lt)
 obtain ⟨r0,r1,r2,r3,r4,r5,r6,r7⟩:=zrc8 R1
 have r8:=R1.cell (i:=8) (by omega)
 have fR:∀ i,w1.frozen? ⟨w.heap.size+1,i,none⟩=false:=fun i=>R1.frozen i
 have ltR:=R1.lt
 clear hv X0 R0 C ho hb0
 cases hk:okC h
 ·have B9:Below w.heap.size w (((((((((w1.setCell ⟨w.heap.size+1,0,none⟩ (.slice none 0 0)).setCell ⟨w.heap.size+1,1,none⟩ (.slice none 0 0)).setCell ⟨w.heap.size+1,2,none⟩ (.slice none 0 0)).setCell ⟨w.heap.size+1,3,none⟩ (.int .i64 0)).setCell ⟨w.heap.size+1,4,none⟩ (.int .i64 0)).setCell ⟨w.heap.size+1,5,none⟩ (.int .i64 0)).setCell ⟨w.heap.size+1,6,none⟩ (.bool false)).setCell ⟨w.heap.size+1,7,none⟩ (.int .i64 0)).setCell ⟨w.heap.size+1,8,none⟩ (.slice none 0 0)):=by
   repeat (refine Below.setCell ?_ (p:=⟨w.heap.size+1,_,none⟩) (Nat.le_succ _) _)
   exact hbw1
  go_wp2
  exact bodyPost_ret (v:=.tuple #[.agg #[.slice none 0 0,.slice none 0 0,.slice none 0 0,.int .i64 0,.int .i64 0,.int .i64 0,.bool false,.int .i64 0,.slice none 0 0],.bool false]) (by simp [results,Tryz.results110,go_sem,r0,r1,r2,r3,r4,r5,r6,r7,r8]) rfl ⟨.inr ⟨hk,rfl⟩,B9⟩
 ·clear r0 r1 r2 r3 r4 r5 r6 r7 r8 fR
  have D1:=fun W (hb:Below w.heap.size w W)=>copyList_any _ _ W (i1.later hb) hwo
  have D2:=fun W (hb:Below w.heap.size w W)=>copyList_any _ _ W (i2.later hb) hro
  have D3:=fun W (hb:Below w.heap.size w W)=>copyList_any _ _ W (i3.later hb) hke
  clear i1 i2 i3
  have hmx:Tryz.prog.follows .mixedOrders=true:=by kernel_rfl
  go_wp2_with fail
  refine Disk.z_plain 22 (fun w'=>(w'.cell? ⟨w.heap.size,0,none⟩=some (.slice a1 h.words.length c1)/\w'.cell? ⟨w.heap.size,1,none⟩=some (.slice a2 h.roots.length c2)/\w'.cell? ⟨w.heap.size,2,none⟩=some (.int .i64 h.old)/\w'.cell? ⟨w.heap.size,3,none⟩=some (.int .i64 h.eden)/\w'.cell? ⟨w.heap.size,4,none⟩=some (.int .i64 h.surv)/\w'.cell? ⟨w.heap.size,5,none⟩=some (.bool h.flip)/\w'.cell? ⟨w.heap.size,6,none⟩=some (.int .i64 h.hash)/\w'.cell? ⟨w.heap.size,7,none⟩=some (.slice a3 h.kept.length c3))) hmx ⟨c0,c1',c2',c3',c4,c5,c6,c7⟩ (fun hs=>?_)
  refine Disk.zt 0 14 (v:=.pointer (some ⟨w.heap.size,0,none⟩)) rfl rfl hs (fun W' hSw=>(by
   obtain ⟨s0,s1,s2,s3,s4,s5,s6,s7⟩:=hSw
   go_simp;first|done|with_reducible rfl)) ?_
  simp only [zA,zB,zC]
  refine Disk.zt 1 15 (v:=.slice a1 h.words.length c1) rfl rfl hs (fun W' hSw=>(by
   obtain ⟨s0,s1,s2,s3,s4,s5,s6,s7⟩:=hSw
   go_simp;first|done|with_reducible rfl)) ?_
  simp only [zA,zB,zC]
  refine Disk.zt 3 17 (v:=.slice oa (obC h).length oc) rfl rfl hs (fun W' hSw=>(by
   obtain ⟨s0,s1,s2,s3,s4,s5,s6,s7⟩:=hSw
   go_simp;first|done|with_reducible rfl)) ?_
  simp only [zA,zB,zC]
  refine Disk.zt 5 19 (v:=.pointer (some ⟨w.heap.size,1,none⟩)) rfl rfl hs (fun W' hSw=>(by
   obtain ⟨s0,s1,s2,s3,s4,s5,s6,s7⟩:=hSw
   go_simp;first|done|with_reducible rfl)) ?_
  simp only [zA,zB,zC]
  refine Disk.zt 6 20 (v:=.slice a2 h.roots.length c2) rfl rfl hs (fun W' hSw=>(by
   obtain ⟨s0,s1,s2,s3,s4,s5,s6,s7⟩:=hSw
   go_simp;first|done|with_reducible rfl)) ?_
  simp only [zA,zB,zC]
  refine Disk.zt 8 22 (v:=.pointer (some ⟨w.heap.size,2,none⟩)) rfl rfl hs (fun W' hSw=>(by
   obtain ⟨s0,s1,s2,s3,s4,s5,s6,s7⟩:=hSw
   go_simp;first|done|with_reducible rfl)) ?_
  simp only [zA,zB,zC]
  refine Disk.zt 9 23 (v:=.int .i64 h.old) rfl rfl hs (fun W' hSw=>(by
   obtain ⟨s0,s1,s2,s3,s4,s5,s6,s7⟩:=hSw
   go_simp;first|done|with_reducible rfl)) ?_
  simp only [zA,zB,zC]
  refine Disk.zt 10 24 (v:=.pointer (some ⟨w.heap.size,3,none⟩)) rfl rfl hs (fun W' hSw=>(by
   obtain ⟨s0,s1,s2,s3,s4,s5,s6,s7⟩:=hSw
   go_simp;first|done|with_reducible rfl)) ?_
  simp only [zA,zB,zC]
  refine Disk.zt 11 25 (v:=.int .i64 h.eden) rfl rfl hs (fun W' hSw=>(by
   obtain ⟨s0,s1,s2,s3,s4,s5,s6,s7⟩:=hSw
   go_simp;first|done|with_reducible rfl)) ?_
  simp only [zA,zB,zC]
  refine Disk.zt 12 26 (v:=.pointer (some ⟨w.heap.size,4,none⟩)) rfl rfl hs (fun W' hSw=>(by
   obtain ⟨s0,s1,s2,s3,s4,s5,s6,s7⟩:=hSw
   go_simp;first|done|with_reducible rfl)) ?_
  simp only [zA,zB,zC]
  refine Disk.zt 13 27 (v:=.int .i64 h.surv) rfl rfl hs (fun W' hSw=>(by
   obtain ⟨s0,s1,s2,s3,s4,s5,s6,s7⟩:=hSw
   go_simp;first|done|with_reducible rfl)) ?_
  simp only [zA,zB,zC]
  refine Disk.zt 14 28 (v:=.pointer (some ⟨w.heap.size,5,none⟩)) rfl rfl hs (fun W' hSw=>(by
   obtain ⟨s0,s1,s2,s3,s4,s5,s6,s7⟩:=hSw
   go_simp;first|done|with_reducible rfl)) ?_
  simp only [zA,zB,zC]
  refine Disk.zt 15 29 (v:=.bool h.flip) rfl rfl hs (fun W' hSw=>(by
   obtain ⟨s0,s1,s2,s3,s4,s5,s6,s7⟩:=hSw
   go_simp;first|done|with_reducible rfl)) ?_
  simp only [zA,zB,zC]
  refine Disk.zt 16 30 (v:=.pointer (some ⟨w.heap.size,6,none⟩)) rfl rfl hs (fun W' hSw=>(by
   obtain ⟨s0,s1,s2,s3,s4,s5,s6,s7⟩:=hSw
   go_simp;first|done|with_reducible rfl)) ?_
  simp only [zA,zB,zC]
  refine Disk.zt 17 31 (v:=.int .i64 h.hash) rfl rfl hs (fun W' hSw=>(by
   obtain ⟨s0,s1,s2,s3,s4,s5,s6,s7⟩:=hSw
   go_simp;first|done|with_reducible rfl)) ?_
  simp only [zA,zB,zC]
  refine Disk.zt 18 32 (v:=.pointer (some ⟨w.heap.size,7,none⟩)) rfl rfl hs (fun W' hSw=>(by
   obtain ⟨s0,s1,s2,s3,s4,s5,s6,s7⟩:=hSw
   go_simp;first|done|with_reducible rfl)) ?_
  simp only [zA,zB,zC]
  refine Disk.zt 19 33 (v:=.slice a3 h.kept.length c3) rfl rfl hs (fun W' hSw=>(by
   obtain ⟨s0,s1,s2,s3,s4,s5,s6,s7⟩:=hSw
   go_simp;first|done|with_reducible rfl)) ?_
  simp only [zA,zB,zC]
  refine Disk.zc 2 16 rfl rfl (f:=115) (args:=#[.slice a1 h.words.length c1]) (w0:=w1.drew) ?_
  refine (D1 _ hbw1.drew).mono ?_
  rintro x w2 ⟨⟨rfl,R2,l2⟩,hb2⟩
  have hbw2:=bel_after hbw1.drew hb2
  obtain ⟨s0,s1,s2,s3,s4,s5,s6,s7⟩:=hs
  have hs2:(w2.cell? ⟨w.heap.size,0,none⟩=some (.slice a1 h.words.length c1)/\w2.cell? ⟨w.heap.size,1,none⟩=some (.slice a2 h.roots.length c2)/\w2.cell? ⟨w.heap.size,2,none⟩=some (.int .i64 h.old)/\w2.cell? ⟨w.heap.size,3,none⟩=some (.int .i64 h.eden)/\w2.cell? ⟨w.heap.size,4,none⟩=some (.int .i64 h.surv)/\w2.cell? ⟨w.heap.size,5,none⟩=some (.bool h.flip)/\w2.cell? ⟨w.heap.size,6,none⟩=some (.int .i64 h.hash)/\w2.cell? ⟨w.heap.size,7,none⟩=some (.slice a3 h.kept.length c3)):=⟨cell_later hb2 s0,cell_later hb2 s1,cell_later hb2 s2,cell_later hb2 s3,cell_later hb2 s4,cell_later hb2 s5,cell_later hb2 s6,cell_later hb2 s7⟩
  refine ⟨_,rfl,.inr hs2,?_⟩
  simp only [zA,zB,zC]
  refine Disk.zt 4 18 (v:=.agg #[.slice (some ⟨w1.drew.heap.size,0,none⟩) h.words.length h.words.length,.slice oa (obC h).length oc]) rfl rfl hs2 (fun W' hSw=>(by
   obtain ⟨s0,s1,s2,s3,s4,s5,s6,s7⟩:=hSw
   go_simp;first|done|with_reducible rfl)) ?_
  simp only [zA,zB,zC]
  refine Disk.zc 7 21 rfl rfl (f:=115) (args:=#[.slice a2 h.roots.length c2]) (w0:=w2) ?_
  refine (D2 _ hbw2).mono ?_
  rintro x w3 ⟨⟨rfl,R3,l3⟩,hb3⟩
  have hbw3:=bel_after hbw2 hb3
  obtain ⟨s0,s1,s2,s3,s4,s5,s6,s7⟩:=hs2
  have hs3:(w3.cell? ⟨w.heap.size,0,none⟩=some (.slice a1 h.words.length c1)/\w3.cell? ⟨w.heap.size,1,none⟩=some (.slice a2 h.roots.length c2)/\w3.cell? ⟨w.heap.size,2,none⟩=some (.int .i64 h.old)/\w3.cell? ⟨w.heap.size,3,none⟩=some (.int .i64 h.eden)/\w3.cell? ⟨w.heap.size,4,none⟩=some (.int .i64 h.surv)/\w3.cell? ⟨w.heap.size,5,none⟩=some (.bool h.flip)/\w3.cell? ⟨w.heap.size,6,none⟩=some (.int .i64 h.hash)/\w3.cell? ⟨w.heap.size,7,none⟩=some (.slice a3 h.kept.length c3)):=⟨cell_later hb3 s0,cell_later hb3 s1,cell_later hb3 s2,cell_later hb3 s3,cell_later hb3 s4,cell_later hb3 s5,cell_later hb3 s6,cell_later hb3 s7⟩
  refine ⟨_,rfl,.inr hs3,?_⟩
  simp only [zA,zB,zC]
  refine Disk.zc 20 34 rfl rfl (f:=115) (args:=#[.slice a3 h.kept.length c3]) (w0:=w3) ?_
  refine (D3 _ hbw3).mono ?_
  rintro x w4 ⟨⟨rfl,R4,l4⟩,hb4⟩
  have hbw4:=bel_after hbw3 hb4
  obtain ⟨s0,s1,s2,s3,s4,s5,s6,s7⟩:=hs3
  have hs4:(w4.cell? ⟨w.heap.size,0,none⟩=some (.slice a1 h.words.length c1)/\w4.cell? ⟨w.heap.size,1,none⟩=some (.slice a2 h.roots.length c2)/\w4.cell? ⟨w.heap.size,2,none⟩=some (.int .i64 h.old)/\w4.cell? ⟨w.heap.size,3,none⟩=some (.int .i64 h.eden)/\w4.cell? ⟨w.heap.size,4,none⟩=some (.int .i64 h.surv)/\w4.cell? ⟨w.heap.size,5,none⟩=some (.bool h.flip)/\w4.cell? ⟨w.heap.size,6,none⟩=some (.int .i64 h.hash)/\w4.cell? ⟨w.heap.size,7,none⟩=some (.slice a3 h.kept.length c3)):=⟨cell_later hb4 s0,cell_later hb4 s1,cell_later hb4 s2,cell_later hb4 s3,cell_later hb4 s4,cell_later hb4 s5,cell_later hb4 s6,cell_later hb4 s7⟩
  refine ⟨_,rfl,.inr hs4,?_⟩
  simp only [zA,zB,zC]
  refine Disk.zr 21 35 rfl rfl (w':=w4) (v:=.agg #[.slice (some ⟨w1.drew.heap.size,0,none⟩) h.words.length h.words.length,.slice oa (obC h).length oc,.slice (some ⟨w2.heap.size,0,none⟩) h.roots.length h.roots.length,.int .i64 h.old,.int .i64 h.eden,.int .i64 h.surv,.bool h.flip,.int .i64 h.hash,.slice (some ⟨w3.heap.size,0,none⟩) h.kept.length h.kept.length]) (.inr hs4) ?_
  simp only [zA,zB,zC]
  have BB:=bel_after (bel_after (bel_after (Below.refl w1.heap.size w1).drew hb2) hb3) hb4
  have RR:=R1.of_block (BB.block _ ltR)
  obtain ⟨r0,r1,r2,r3,r4,r5,r6,r7⟩:=zrc8 RR
  have r8:=RR.cell (i:=8) (by omega)
  have fR:=fun i=>RR.frozen i
  have SS:Below w.heap.size w w4/\(w4.cell? ⟨w.heap.size,0,none⟩=some (.slice a1 h.words.length c1)/\w4.cell? ⟨w.heap.size,1,none⟩=some (.slice a2 h.roots.length c2)/\w4.cell? ⟨w.heap.size,2,none⟩=some (.int .i64 h.old)/\w4.cell? ⟨w.heap.size,3,none⟩=some (.int .i64 h.eden)/\w4.cell? ⟨w.heap.size,4,none⟩=some (.int .i64 h.surv)/\w4.cell? ⟨w.heap.size,5,none⟩=some (.bool h.flip)/\w4.cell? ⟨w.heap.size,6,none⟩=some (.int .i64 h.hash)/\w4.cell? ⟨w.heap.size,7,none⟩=some (.slice a3 h.kept.length c3)):=⟨hbw4,hs4⟩
  have TT:=(keepT (i:=8) (v:=.slice (some ⟨w3.heap.size,0,none⟩) h.kept.length h.kept.length) (keepT (i:=7) (v:=.int .i64 h.hash) (keepT (i:=6) (v:=.bool h.flip) (keepT (i:=5) (v:=.int .i64 h.surv) (keepT (i:=4) (v:=.int .i64 h.eden) (keepT (i:=3) (v:=.int .i64 h.old) (keepT (i:=2) (v:=.slice (some ⟨w2.heap.size,0,none⟩) h.roots.length h.roots.length) (keepT (i:=1) (v:=.slice oa (obC h).length oc) (keepT (i:=0) (v:=.slice (some ⟨w1.drew.heap.size,0,none⟩) h.words.length h.words.length) SS)))))))))
  refine Disk.z_skip 22 rfl rfl (by kernel_rfl) (by rfl) (w':=(((((((((w4.setCell ⟨w.heap.size+1,0,none⟩ (.slice (some ⟨w1.drew.heap.size,0,none⟩) h.words.length h.words.length)).setCell ⟨w.heap.size+1,1,none⟩ (.slice oa (obC h).length oc)).setCell ⟨w.heap.size+1,2,none⟩ (.slice (some ⟨w2.heap.size,0,none⟩) h.roots.length h.roots.length)).setCell ⟨w.heap.size+1,3,none⟩ (.int .i64 h.old)).setCell ⟨w.heap.size+1,4,none⟩ (.int .i64 h.eden)).setCell ⟨w.heap.size+1,5,none⟩ (.int .i64 h.surv)).setCell ⟨w.heap.size+1,6,none⟩ (.bool h.flip)).setCell ⟨w.heap.size+1,7,none⟩ (.int .i64 h.hash)).setCell ⟨w.heap.size+1,8,none⟩ (.slice (some ⟨w3.heap.size,0,none⟩) h.kept.length h.kept.length))) (by go_simp) (.inl rfl) ?_
  refine Disk.zr 23 3 rfl rfl (w':=(((((((((w4.setCell ⟨w.heap.size+1,0,none⟩ (.slice (some ⟨w1.drew.heap.size,0,none⟩) h.words.length h.words.length)).setCell ⟨w.heap.size+1,1,none⟩ (.slice oa (obC h).length oc)).setCell ⟨w.heap.size+1,2,none⟩ (.slice (some ⟨w2.heap.size,0,none⟩) h.roots.length h.roots.length)).setCell ⟨w.heap.size+1,3,none⟩ (.int .i64 h.old)).setCell ⟨w.heap.size+1,4,none⟩ (.int .i64 h.eden)).setCell ⟨w.heap.size+1,5,none⟩ (.int .i64 h.surv)).setCell ⟨w.heap.size+1,6,none⟩ (.bool h.flip)).setCell ⟨w.heap.size+1,7,none⟩ (.int .i64 h.hash)).setCell ⟨w.heap.size+1,8,none⟩ (.slice (some ⟨w3.heap.size,0,none⟩) h.kept.length h.kept.length))) (v:=.bool true) (.inr TT.2) ?_
  simp only [zA,zB,zC]
  refine Disk.z_done (by kernel_rfl) ?_ _
  have n1:w1.drew.heap.size ≠ w.heap.size+1:=fun e=>by
   have q:w1.drew.heap.size=w1.heap.size:=rfl
   omega
  have n2:w2.heap.size ≠ w.heap.size+1:=fun e=>by
   have q:w1.drew.heap.size=w1.heap.size:=rfl
   omega
  have n3:w3.heap.size ≠ w.heap.size+1:=fun e=>by
   have q:w1.drew.heap.size=w1.heap.size:=rfl
   omega
  have F1:=((R2.later hb3).later hb4)
  have F2:=(R3.later hb4)
  have G1:RI (((((((((w4.setCell ⟨w.heap.size+1,0,none⟩ (.slice (some ⟨w1.drew.heap.size,0,none⟩) h.words.length h.words.length)).setCell ⟨w.heap.size+1,1,none⟩ (.slice oa (obC h).length oc)).setCell ⟨w.heap.size+1,2,none⟩ (.slice (some ⟨w2.heap.size,0,none⟩) h.roots.length h.roots.length)).setCell ⟨w.heap.size+1,3,none⟩ (.int .i64 h.old)).setCell ⟨w.heap.size+1,4,none⟩ (.int .i64 h.eden)).setCell ⟨w.heap.size+1,5,none⟩ (.int .i64 h.surv)).setCell ⟨w.heap.size+1,6,none⟩ (.bool h.flip)).setCell ⟨w.heap.size+1,7,none⟩ (.int .i64 h.hash)).setCell ⟨w.heap.size+1,8,none⟩ (.slice (some ⟨w3.heap.size,0,none⟩) h.kept.length h.kept.length)) w1.drew.heap.size h.words h.words.length:=(RI.setOther (RI.setOther (RI.setOther (RI.setOther (RI.setOther (RI.setOther (RI.setOther (RI.setOther (RI.setOther F1 n1 _) n1 _) n1 _) n1 _) n1 _) n1 _) n1 _) n1 _) n1 _)
  have G2:RI (((((((((w4.setCell ⟨w.heap.size+1,0,none⟩ (.slice (some ⟨w1.drew.heap.size,0,none⟩) h.words.length h.words.length)).setCell ⟨w.heap.size+1,1,none⟩ (.slice oa (obC h).length oc)).setCell ⟨w.heap.size+1,2,none⟩ (.slice (some ⟨w2.heap.size,0,none⟩) h.roots.length h.roots.length)).setCell ⟨w.heap.size+1,3,none⟩ (.int .i64 h.old)).setCell ⟨w.heap.size+1,4,none⟩ (.int .i64 h.eden)).setCell ⟨w.heap.size+1,5,none⟩ (.int .i64 h.surv)).setCell ⟨w.heap.size+1,6,none⟩ (.bool h.flip)).setCell ⟨w.heap.size+1,7,none⟩ (.int .i64 h.hash)).setCell ⟨w.heap.size+1,8,none⟩ (.slice (some ⟨w3.heap.size,0,none⟩) h.kept.length h.kept.length)) w2.heap.size h.roots h.roots.length:=(RI.setOther (RI.setOther (RI.setOther (RI.setOther (RI.setOther (RI.setOther (RI.setOther (RI.setOther (RI.setOther F2 n2 _) n2 _) n2 _) n2 _) n2 _) n2 _) n2 _) n2 _) n2 _)
  have G3:RI (((((((((w4.setCell ⟨w.heap.size+1,0,none⟩ (.slice (some ⟨w1.drew.heap.size,0,none⟩) h.words.length h.words.length)).setCell ⟨w.heap.size+1,1,none⟩ (.slice oa (obC h).length oc)).setCell ⟨w.heap.size+1,2,none⟩ (.slice (some ⟨w2.heap.size,0,none⟩) h.roots.length h.roots.length)).setCell ⟨w.heap.size+1,3,none⟩ (.int .i64 h.old)).setCell ⟨w.heap.size+1,4,none⟩ (.int .i64 h.eden)).setCell ⟨w.heap.size+1,5,none⟩ (.int .i64 h.surv)).setCell ⟨w.heap.size+1,6,none⟩ (.bool h.flip)).setCell ⟨w.heap.size+1,7,none⟩ (.int .i64 h.hash)).setCell ⟨w.heap.size+1,8,none⟩ (.slice (some ⟨w3.heap.size,0,none⟩) h.kept.length h.kept.length)) w3.heap.size h.kept h.kept.length:=(RI.setOther (RI.setOther (RI.setOther (RI.setOther (RI.setOther (RI.setOther (RI.setOther (RI.setOther (RI.setOther R4 n3 _) n3 _) n3 _) n3 _) n3 _) n3 _) n3 _) n3 _) n3 _)
  have G4:IR (((((((((w4.setCell ⟨w.heap.size+1,0,none⟩ (.slice (some ⟨w1.drew.heap.size,0,none⟩) h.words.length h.words.length)).setCell ⟨w.heap.size+1,1,none⟩ (.slice oa (obC h).length oc)).setCell ⟨w.heap.size+1,2,none⟩ (.slice (some ⟨w2.heap.size,0,none⟩) h.roots.length h.roots.length)).setCell ⟨w.heap.size+1,3,none⟩ (.int .i64 h.old)).setCell ⟨w.heap.size+1,4,none⟩ (.int .i64 h.eden)).setCell ⟨w.heap.size+1,5,none⟩ (.int .i64 h.surv)).setCell ⟨w.heap.size+1,6,none⟩ (.bool h.flip)).setCell ⟨w.heap.size+1,7,none⟩ (.int .i64 h.hash)).setCell ⟨w.heap.size+1,8,none⟩ (.slice (some ⟨w3.heap.size,0,none⟩) h.kept.length h.kept.length)) (.slice oa (obC h).length oc) (ints (obC h)):=(IR.setOther (IR.setOther (IR.setOther (IR.setOther (IR.setOther (IR.setOther (IR.setOther (IR.setOther (IR.setOther (io.later BB) far _) far _) far _) far _) far _) far _) far _) far _) far _)
  have le1:w.heap.size<=w1.drew.heap.size:=hbw1.size
  have DR:DrOut2 h w.heap.size (.returned (.tuple #[.agg #[.slice (some ⟨w1.drew.heap.size,0,none⟩) h.words.length h.words.length,.slice oa (obC h).length oc,.slice (some ⟨w2.heap.size,0,none⟩) h.roots.length h.roots.length,.int .i64 h.old,.int .i64 h.eden,.int .i64 h.surv,.bool h.flip,.int .i64 h.hash,.slice (some ⟨w3.heap.size,0,none⟩) h.kept.length h.kept.length],.bool true])) (((((((((w4.setCell ⟨w.heap.size+1,0,none⟩ (.slice (some ⟨w1.drew.heap.size,0,none⟩) h.words.length h.words.length)).setCell ⟨w.heap.size+1,1,none⟩ (.slice oa (obC h).length oc)).setCell ⟨w.heap.size+1,2,none⟩ (.slice (some ⟨w2.heap.size,0,none⟩) h.roots.length h.roots.length)).setCell ⟨w.heap.size+1,3,none⟩ (.int .i64 h.old)).setCell ⟨w.heap.size+1,4,none⟩ (.int .i64 h.eden)).setCell ⟨w.heap.size+1,5,none⟩ (.int .i64 h.surv)).setCell ⟨w.heap.size+1,6,none⟩ (.bool h.flip)).setCell ⟨w.heap.size+1,7,none⟩ (.int .i64 h.hash)).setCell ⟨w.heap.size+1,8,none⟩ (.slice (some ⟨w3.heap.size,0,none⟩) h.kept.length h.kept.length)):=.inl ⟨hk,_,_,_,_,_,rfl,⟨G1,G2,G3⟩,⟨le1,l2,l3⟩,G4,farO,lowO⟩
  have FB:=TT.1
  clear TT SS hs4 G1 G2 G3 G4 F1 F2 R2 R3 R4 RR R1
  go_wp2
  exact bodyPost_ret (v:=.tuple #[.agg #[.slice (some ⟨w1.drew.heap.size,0,none⟩) h.words.length h.words.length,.slice oa (obC h).length oc,.slice (some ⟨w2.heap.size,0,none⟩) h.roots.length h.roots.length,.int .i64 h.old,.int .i64 h.eden,.int .i64 h.surv,.bool h.flip,.int .i64 h.hash,.slice (some ⟨w3.heap.size,0,none⟩) h.kept.length h.kept.length],.bool true]) (by simp [results,Tryz.results110,go_sem,r0,r1,r2,r3,r4,r5,r6,r7,r8]) rfl ⟨DR,FB⟩
end Go.Proofs.YtgnbibinclepcaaGreatDoor
