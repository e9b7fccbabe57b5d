
import Derived.Test.YtgnbibinclepcaaGreatDoorZP7
/- toHeap and eqHeap of the laws. -/
namespace Go.Proofs.YtgnbibinclepcaaGreatDoor
open Go.RowKit
theorem Bx.below {w w' : World} {N:Nat} {v1 v2 v3:Value} {h:Hp} (k:Bx w N v1 v2 v3 h) (hb:Below (N+1) w w'):Bx w' N v1 v2 v3 h:=by
 have e:∀ o v,w.cell? ⟨N,o,none⟩=some v->w'.cell? ⟨N,o,none⟩=some v:=fun o v q=>(hb.cell (p:=⟨N,o,none⟩) (by show N<N+1;omega)).trans q
 exact ⟨e _ _ k.c0,e _ _ k.c1,e _ _ k.c2,e _ _ k.c3,e _ _ k.c4,e _ _ k.c5,e _ _ k.c6,e _ _ k.c7⟩
theorem gset (w:World) (b i:Nat) (v:Value) {a:World} (h:a.grownBy w (some b)):a.grownBy (w.setCell ⟨b,i,none⟩ v) (some b):=Disk.grown_trans h (Disk.grown_set w b i v)
theorem OSg {w w' : World} {g n cap R:Nat} (h:Disk.OS w 2 1 (.slice (some ⟨g,0,none⟩) n cap) n) (hg:w.grownBy w' (some R)) (hne:g ≠ R):Disk.OS w' 2 1 (.slice (some ⟨g,0,none⟩) n cap) n:=h.grown hg (.inr (by simp [Value.ownBlock];exact hne))
theorem IRg {w w' : World} {g n cap R:Nat} {l:List Int} (h:IR w (.slice (some ⟨g,0,none⟩) n cap) l) (hg:w.grownBy w' (some R)) (hne:g ≠ R):IR w' (.slice (some ⟨g,0,none⟩) n cap) l:=h.grown hg (.inr (by simp [Value.ownBlock];exact hne))
theorem rowof {g n cap b:Nat} (h:Disk.rowOf (.slice (some ⟨g,0,none⟩) n cap) n=some b):b=g:=by
 unfold Disk.rowOf at h
 split at h
 ·cases h
 ·simp [Value.ownBlock] at h;omega
theorem toInts_g (v:Value) (l:List Int) (w:World) (hv:IR w v l) (h1:l.length<=10000000000000) :
  Calls Tryz.prog 63 #[v] w fun e w'=>(∃ g cap,e=.returned (.slice (some ⟨g,0,none⟩) l.length cap)/\IR w' (.slice (some ⟨g,0,none⟩) l.length cap) l/\Disk.OS w' 2 1 (.slice (some ⟨g,0,none⟩) l.length cap) l.length/\w.heap.size<=g/\g<w'.heap.size)/\Below w.heap.size w w' :=
 (toInts_any v l w hv h1).mono fun _ _ ⟨⟨cap,a,b,c⟩,d,e⟩=>⟨⟨w.heap.size,cap,a,b,c,Nat.le_refl _,e⟩,d⟩
set_option maxRecDepth 100000 in
set_option maxHeartbeats 1600000 in
theorem toHeap_any (v1 v2 v3:Value) (h:Hp) (w:World) (i1:IR w v1 h.words) (i2:IR w v2 h.roots) (i3:IR w v3 h.kept) (l1:h.words.length<=10000000000000) (l2:h.roots.length<=10000000000000) (l3:h.kept.length<=10000000000000) :
  Calls Tryz.prog 62 #[.agg #[v1,v2,.int .i64 h.old,.int .i64 h.eden,.int .i64 h.surv,.bool h.flip,.int .i64 h.hash,v3]] w fun e w'=>(∃ v,e=.returned v/\HN w.heap.size w' v h)/\Below w.heap.size w w':=by
 have hb0:Below w.heap.size w (((w.alloc (.cells #[v1,v2,.int .i64 h.old,.int .i64 h.eden,.int .i64 h.surv,.bool h.flip,.int .i64 h.hash,v3] 47)).alloc (.cells #[.slice none 0 0,.slice none 0 0,.int .i64 0,.int .i64 0,.int .i64 0,.bool false,.int .i64 0,.slice none 0 0] 26)).alloc (.cells #[.slice none 0 0,.slice none 0 0,.int .i64 0,.int .i64 0,.int .i64 0,.bool false,.int .i64 0,.slice none 0 0] 26)):=bel_after (bel_after (bel_one _ _) (bel_one _ _)) (bel_one _ _)
 have X0:Bx (((w.alloc (.cells #[v1,v2,.int .i64 h.old,.int .i64 h.eden,.int .i64 h.surv,.bool h.flip,.int .i64 h.hash,v3] 47)).alloc (.cells #[.slice none 0 0,.slice none 0 0,.int .i64 0,.int .i64 0,.int .i64 0,.bool false,.int .i64 0,.slice none 0 0] 26)).alloc (.cells #[.slice none 0 0,.slice none 0 0,.int .i64 0,.int .i64 0,.int .i64 0,.bool false,.int .i64 0,.slice none 0 0] 26)) w.heap.size v1 v2 v3 h:=((Bx.new w v1 v2 v3 h 47).later (bel_one _ _)).later (bel_one _ _)
 have rR0:(((w.alloc (.cells #[v1,v2,.int .i64 h.old,.int .i64 h.eden,.int .i64 h.surv,.bool h.flip,.int .i64 h.hash,v3] 47)).alloc (.cells #[.slice none 0 0,.slice none 0 0,.int .i64 0,.int .i64 0,.int .i64 0,.bool false,.int .i64 0,.slice none 0 0] 26)).alloc (.cells #[.slice none 0 0,.slice none 0 0,.int .i64 0,.int .i64 0,.int .i64 0,.bool false,.int .i64 0,.slice none 0 0] 26)).rowIs (w.heap.size+1) 26 8 (fun i=>#[.slice none 0 0,.slice none 0 0,.int .i64 0,.int .i64 0,.int .i64 0,.bool false,.int .i64 0,.slice none 0 0][i]?.getD undef):=by
  have q:=(row_any (w.alloc (.cells #[v1,v2,.int .i64 h.old,.int .i64 h.eden,.int .i64 h.surv,.bool h.flip,.int .i64 h.hash,v3] 47)) #[.slice none 0 0,.slice none 0 0,.int .i64 0,.int .i64 0,.int .i64 0,.bool false,.int .i64 0,.slice none 0 0] 26)
  have q2:((w.alloc (.cells #[v1,v2,.int .i64 h.old,.int .i64 h.eden,.int .i64 h.surv,.bool h.flip,.int .i64 h.hash,v3] 47)).alloc (.cells #[.slice none 0 0,.slice none 0 0,.int .i64 0,.int .i64 0,.int .i64 0,.bool false,.int .i64 0,.slice none 0 0] 26)).rowIs (w.heap.size+1) 26 8 (fun i=>#[.slice none 0 0,.slice none 0 0,.int .i64 0,.int .i64 0,.int .i64 0,.bool false,.int .i64 0,.slice none 0 0][i]?.getD undef):=by rw [World.size_alloc] at q;exact q
  exact q2.of_block ((bel_one _ _).block _ q2.lt)
 have rO0:(((w.alloc (.cells #[v1,v2,.int .i64 h.old,.int .i64 h.eden,.int .i64 h.surv,.bool h.flip,.int .i64 h.hash,v3] 47)).alloc (.cells #[.slice none 0 0,.slice none 0 0,.int .i64 0,.int .i64 0,.int .i64 0,.bool false,.int .i64 0,.slice none 0 0] 26)).alloc (.cells #[.slice none 0 0,.slice none 0 0,.int .i64 0,.int .i64 0,.int .i64 0,.bool false,.int .i64 0,.slice none 0 0] 26)).rowIs (w.heap.size+1+1) 26 8 (fun i=>#[.slice none 0 0,.slice none 0 0,.int .i64 0,.int .i64 0,.int .i64 0,.bool false,.int .i64 0,.slice none 0 0][i]?.getD undef):=by
  have q:=(row_any ((w.alloc (.cells #[v1,v2,.int .i64 h.old,.int .i64 h.eden,.int .i64 h.surv,.bool h.flip,.int .i64 h.hash,v3] 47)).alloc (.cells #[.slice none 0 0,.slice none 0 0,.int .i64 0,.int .i64 0,.int .i64 0,.bool false,.int .i64 0,.slice none 0 0] 26)) #[.slice none 0 0,.slice none 0 0,.int .i64 0,.int .i64 0,.int .i64 0,.bool false,.int .i64 0,.slice none 0 0] 26)
  rw [World.size_alloc,World.size_alloc] at q
  exact q
 have s0:(((w.alloc (.cells #[v1,v2,.int .i64 h.old,.int .i64 h.eden,.int .i64 h.surv,.bool h.flip,.int .i64 h.hash,v3] 47)).alloc (.cells #[.slice none 0 0,.slice none 0 0,.int .i64 0,.int .i64 0,.int .i64 0,.bool false,.int .i64 0,.slice none 0 0] 26)).alloc (.cells #[.slice none 0 0,.slice none 0 0,.int .i64 0,.int .i64 0,.int .i64 0,.bool false,.int .i64 0,.slice none 0 0] 26)).heap.size=w.heap.size+1+1+1:=by simp
 have T1:=toInts_g v1 h.words _ (i1.later hb0) l1
 go_enter Tryz.func62,Tryz.ntmps62
 go_wp2_with fail
 refine T1.mono ?_
 rintro e w1 ⟨⟨g1,c1,rfl,j1,o1,le1,lt1⟩,hb1⟩
 generalize hw0:(((w.alloc (.cells #[v1,v2,.int .i64 h.old,.int .i64 h.eden,.int .i64 h.surv,.bool h.flip,.int .i64 h.hash,v3] 47)).alloc (.cells #[.slice none 0 0,.slice none 0 0,.int .i64 0,.int .i64 0,.int .i64 0,.bool false,.int .i64 0,.slice none 0 0] 26)).alloc (.cells #[.slice none 0 0,.slice none 0 0,.int .i64 0,.int .i64 0,.int .i64 0,.bool false,.int .i64 0,.slice none 0 0] 26))=W at *
 have eg1:w.heap.size+1+1+1<=g1:=by omega
 have rO1:=rO0.of_block (hb1.block _ rO0.lt)
 have rR1:=rR0.of_block (hb1.block _ rR0.lt)
 have B1:Below (w.heap.size+1) W (w1.setCell ⟨w.heap.size+1+1,0,none⟩ (.slice (some ⟨g1,0,none⟩) h.words.length c1)):=(hb1.mono (by omega)).setCell (p:=⟨w.heap.size+1+1,0,none⟩) (by show w.heap.size+1<=w.heap.size+1+1;omega) _
 have X1:=X0.below B1
 have gr1:=Disk.grown_set w1 (w.heap.size+1+1) 0 (.slice (some ⟨g1,0,none⟩) h.words.length c1)
 have j1a:=IRg j1 gr1 (by omega)
 have o1a:=OSg o1 gr1 (by omega)
 have rO1a:=rO1.set 0 (.slice (some ⟨g1,0,none⟩) h.words.length c1)
 have rR1a:=rR1.of_block (gr1.block (w.heap.size+1) rR1.lt (by simp))
 have k0:=rO1.cell (i:=0) (by omega)
 have f0:=rO1.frozen 0
 have hbw1:Below w.heap.size w (w1.setCell ⟨w.heap.size+1+1,0,none⟩ (.slice (some ⟨g1,0,none⟩) h.words.length c1)):=hb0.trans (B1.mono (by omega))
 have T2:=toInts_g v2 h.roots _ (i2.later hbw1) l2
 obtain ⟨x0,x1,x2,x3,x4,x5,x6,x7⟩:=id X1
 have sz1:(w1.setCell ⟨w.heap.size+1+1,0,none⟩ (.slice (some ⟨g1,0,none⟩) h.words.length c1)).heap.size=w1.heap.size:=by simp
 have hWs:W.heap.size<=w1.heap.size:=hb1.size
 clear T1 rO1 rR1 j1 o1 X0 hw0
 go_wp2_with fail
 refine T2.mono ?_
 rintro e w2 ⟨⟨g2,c2,rfl,j2,o2,le2,lt2⟩,hb2⟩
 have eg2:g1<g2:=by omega
 have rO2:=rO1a.of_block (hb2.block _ rO1a.lt)
 have rR2:=rR1a.of_block (hb2.block _ rR1a.lt)
 have B2:Below (w.heap.size+1) _ ((((((w2.setCell ⟨w.heap.size+1+1,1,none⟩ (.slice (some ⟨g2,0,none⟩) h.roots.length c2)).setCell ⟨w.heap.size+1+1,2,none⟩ (.int .i64 h.old)).setCell ⟨w.heap.size+1+1,3,none⟩ (.int .i64 h.eden)).setCell ⟨w.heap.size+1+1,4,none⟩ (.int .i64 h.surv)).setCell ⟨w.heap.size+1+1,5,none⟩ (.bool h.flip)).setCell ⟨w.heap.size+1+1,6,none⟩ (.int .i64 h.hash)):=((((((((hb2.mono (by omega))).setCell (p:=⟨w.heap.size+1+1,1,none⟩) (by show w.heap.size+1<=w.heap.size+1+1;omega) (.slice (some ⟨g2,0,none⟩) h.roots.length c2)).setCell (p:=⟨w.heap.size+1+1,2,none⟩) (by show w.heap.size+1<=w.heap.size+1+1;omega) (.int .i64 h.old)).setCell (p:=⟨w.heap.size+1+1,3,none⟩) (by show w.heap.size+1<=w.heap.size+1+1;omega) (.int .i64 h.eden)).setCell (p:=⟨w.heap.size+1+1,4,none⟩) (by show w.heap.size+1<=w.heap.size+1+1;omega) (.int .i64 h.surv)).setCell (p:=⟨w.heap.size+1+1,5,none⟩) (by show w.heap.size+1<=w.heap.size+1+1;omega) (.bool h.flip)).setCell (p:=⟨w.heap.size+1+1,6,none⟩) (by show w.heap.size+1<=w.heap.size+1+1;omega) (.int .i64 h.hash))
 have B2':=B1.trans B2
 have X2:=X1.below B2
 have j1b:=j1a.later hb2
 have o1b:=o1a.later hb2
 have gr2:w2.grownBy ((((((w2.setCell ⟨w.heap.size+1+1,1,none⟩ (.slice (some ⟨g2,0,none⟩) h.roots.length c2)).setCell ⟨w.heap.size+1+1,2,none⟩ (.int .i64 h.old)).setCell ⟨w.heap.size+1+1,3,none⟩ (.int .i64 h.eden)).setCell ⟨w.heap.size+1+1,4,none⟩ (.int .i64 h.surv)).setCell ⟨w.heap.size+1+1,5,none⟩ (.bool h.flip)).setCell ⟨w.heap.size+1+1,6,none⟩ (.int .i64 h.hash)) (some (w.heap.size+1+1)):=gset _ _ _ _ (gset _ _ _ _ (gset _ _ _ _ (gset _ _ _ _ (gset _ _ _ _ (Disk.grown_set w2 (w.heap.size+1+1) 1 (.slice (some ⟨g2,0,none⟩) h.roots.length c2))))))
 have j1c:=IRg j1b gr2 (by omega)
 have o1c:=OSg o1b gr2 (by omega)
 have j2c:=IRg j2 gr2 (by omega)
 have o2c:=OSg o2 gr2 (by omega)
 have rO2a:=((((((rO2.set 1 (.slice (some ⟨g2,0,none⟩) h.roots.length c2)).set 2 (.int .i64 h.old)).set 3 (.int .i64 h.eden)).set 4 (.int .i64 h.surv)).set 5 (.bool h.flip)).set 6 (.int .i64 h.hash))
 have rR2a:=rR2.of_block (gr2.block (w.heap.size+1) rR2.lt (by simp))
 have m1:=rO2.cell (i:=1) (by omega)
 have m2:=rO2.cell (i:=2) (by omega)
 have m3:=rO2.cell (i:=3) (by omega)
 have m4:=rO2.cell (i:=4) (by omega)
 have m5:=rO2.cell (i:=5) (by omega)
 have m6:=rO2.cell (i:=6) (by omega)
 have n2:∀ i,w2.frozen? ⟨w.heap.size+1+1,i,none⟩=false:=fun i=>rO2.frozen i
 have hbw2:Below w.heap.size w ((((((w2.setCell ⟨w.heap.size+1+1,1,none⟩ (.slice (some ⟨g2,0,none⟩) h.roots.length c2)).setCell ⟨w.heap.size+1+1,2,none⟩ (.int .i64 h.old)).setCell ⟨w.heap.size+1+1,3,none⟩ (.int .i64 h.eden)).setCell ⟨w.heap.size+1+1,4,none⟩ (.int .i64 h.surv)).setCell ⟨w.heap.size+1+1,5,none⟩ (.bool h.flip)).setCell ⟨w.heap.size+1+1,6,none⟩ (.int .i64 h.hash)):=hb0.trans (B2'.mono (by omega))
 have T3:=toInts_g v3 h.kept _ (i3.later hbw2) l3
 obtain ⟨y0,y1,y2,y3,y4,y5,y6,y7⟩:=id (X1.below (hb2.mono (by omega)))
 have lt2' : w.heap.size+1+1<w2.heap.size:=by omega
 have szW2:((((((w2.setCell ⟨w.heap.size+1+1,1,none⟩ (.slice (some ⟨g2,0,none⟩) h.roots.length c2)).setCell ⟨w.heap.size+1+1,2,none⟩ (.int .i64 h.old)).setCell ⟨w.heap.size+1+1,3,none⟩ (.int .i64 h.eden)).setCell ⟨w.heap.size+1+1,4,none⟩ (.int .i64 h.surv)).setCell ⟨w.heap.size+1+1,5,none⟩ (.bool h.flip)).setCell ⟨w.heap.size+1+1,6,none⟩ (.int .i64 h.hash)).heap.size=w2.heap.size:=by simp
 clear T2 rO2 rR2 j1a o1a j1b o1b j2 o2 X1 x0 x1 x2 x3 x4 x5 x6 x7 k0 f0 rO1a rR1a
 go_wp2_with fail
 refine T3.mono ?_
 rintro e w3 ⟨⟨g3,c3,rfl,j3,o3,le3,lt3⟩,hb3⟩
 have eg3:g2<g3:=by omega
 clear sz1 szW2
 have rO3:=rO2a.of_block (hb3.block _ rO2a.lt)
 have rR3:=rR2a.of_block (hb3.block _ rR2a.lt)
 have j1d:=j1c.later hb3
 have o1d:=o1c.later hb3
 have j2d:=j2c.later hb3
 have o2d:=o2c.later hb3
 have gA:=Disk.grown_set w3 (w.heap.size+1+1) 7 (.slice (some ⟨g3,0,none⟩) h.kept.length c3)
 have gB:(w3.setCell ⟨w.heap.size+1+1,7,none⟩ (.slice (some ⟨g3,0,none⟩) h.kept.length c3)).grownBy (((((((((w3.setCell ⟨w.heap.size+1+1,7,none⟩ (.slice (some ⟨g3,0,none⟩) h.kept.length c3)).setCell ⟨w.heap.size+1,0,none⟩ (.slice (some ⟨g1,0,none⟩) h.words.length c1)).setCell ⟨w.heap.size+1,1,none⟩ (.slice (some ⟨g2,0,none⟩) h.roots.length c2)).setCell ⟨w.heap.size+1,2,none⟩ (.int .i64 h.old)).setCell ⟨w.heap.size+1,3,none⟩ (.int .i64 h.eden)).setCell ⟨w.heap.size+1,4,none⟩ (.int .i64 h.surv)).setCell ⟨w.heap.size+1,5,none⟩ (.bool h.flip)).setCell ⟨w.heap.size+1,6,none⟩ (.int .i64 h.hash)).setCell ⟨w.heap.size+1,7,none⟩ (.slice (some ⟨g3,0,none⟩) h.kept.length c3)) (some (w.heap.size+1)):=gset _ _ _ _ (gset _ _ _ _ (gset _ _ _ _ (gset _ _ _ _ (gset _ _ _ _ (gset _ _ _ _ (gset _ _ _ _ (Disk.grown_set (w3.setCell ⟨w.heap.size+1+1,7,none⟩ (.slice (some ⟨g3,0,none⟩) h.kept.length c3)) (w.heap.size+1) 0 (.slice (some ⟨g1,0,none⟩) h.words.length c1))))))))
 have fin:HN w.heap.size (((((((((w3.setCell ⟨w.heap.size+1+1,7,none⟩ (.slice (some ⟨g3,0,none⟩) h.kept.length c3)).setCell ⟨w.heap.size+1,0,none⟩ (.slice (some ⟨g1,0,none⟩) h.words.length c1)).setCell ⟨w.heap.size+1,1,none⟩ (.slice (some ⟨g2,0,none⟩) h.roots.length c2)).setCell ⟨w.heap.size+1,2,none⟩ (.int .i64 h.old)).setCell ⟨w.heap.size+1,3,none⟩ (.int .i64 h.eden)).setCell ⟨w.heap.size+1,4,none⟩ (.int .i64 h.surv)).setCell ⟨w.heap.size+1,5,none⟩ (.bool h.flip)).setCell ⟨w.heap.size+1,6,none⟩ (.int .i64 h.hash)).setCell ⟨w.heap.size+1,7,none⟩ (.slice (some ⟨g3,0,none⟩) h.kept.length c3)) (.agg #[(.slice (some ⟨g1,0,none⟩) h.words.length c1),(.slice (some ⟨g2,0,none⟩) h.roots.length c2),.int .i64 h.old,.int .i64 h.eden,.int .i64 h.surv,.bool h.flip,.int .i64 h.hash,(.slice (some ⟨g3,0,none⟩) h.kept.length c3)]) h :=
  ⟨_,_,_,rfl,⟨OSg (OSg o1d gA (by omega)) gB (by omega),OSg (OSg o2d gA (by omega)) gB (by omega),OSg (OSg o3 gA (by omega)) gB (by omega)⟩,⟨IRg (IRg j1d gA (by omega)) gB (by omega),IRg (IRg j2d gA (by omega)) gB (by omega),IRg (IRg j3 gA (by omega)) gB (by omega)⟩,
   ⟨fun b e=>by have:=rowof e;omega,fun b e=>by have:=rowof e;omega,fun b e=>by have:=rowof e;omega⟩,fun b e f=>by have:=rowof e;have:=rowof f;omega,fun b e f=>by have:=rowof e;have:=rowof f;omega,fun b e f=>by have:=rowof e;have:=rowof f;omega⟩
 have bfin:Below w.heap.size w (((((((((w3.setCell ⟨w.heap.size+1+1,7,none⟩ (.slice (some ⟨g3,0,none⟩) h.kept.length c3)).setCell ⟨w.heap.size+1,0,none⟩ (.slice (some ⟨g1,0,none⟩) h.words.length c1)).setCell ⟨w.heap.size+1,1,none⟩ (.slice (some ⟨g2,0,none⟩) h.roots.length c2)).setCell ⟨w.heap.size+1,2,none⟩ (.int .i64 h.old)).setCell ⟨w.heap.size+1,3,none⟩ (.int .i64 h.eden)).setCell ⟨w.heap.size+1,4,none⟩ (.int .i64 h.surv)).setCell ⟨w.heap.size+1,5,none⟩ (.bool h.flip)).setCell ⟨w.heap.size+1,6,none⟩ (.int .i64 h.hash)).setCell ⟨w.heap.size+1,7,none⟩ (.slice (some ⟨g3,0,none⟩) h.kept.length c3)):=hbw2.trans ((((((((((hb3.mono hbw2.size).setCell (p:=⟨w.heap.size+1+1,7,none⟩) (by show w.heap.size<=w.heap.size+1+1;omega) (.slice (some ⟨g3,0,none⟩) h.kept.length c3)).setCell (p:=⟨w.heap.size+1,0,none⟩) (by show w.heap.size<=w.heap.size+1;omega) (.slice (some ⟨g1,0,none⟩) h.words.length c1)).setCell (p:=⟨w.heap.size+1,1,none⟩) (by show w.heap.size<=w.heap.size+1;omega) (.slice (some ⟨g2,0,none⟩) h.roots.length c2)).setCell (p:=⟨w.heap.size+1,2,none⟩) (by show w.heap.size<=w.heap.size+1;omega) (.int .i64 h.old)).setCell (p:=⟨w.heap.size+1,3,none⟩) (by show w.heap.size<=w.heap.size+1;omega) (.int .i64 h.eden)).setCell (p:=⟨w.heap.size+1,4,none⟩) (by show w.heap.size<=w.heap.size+1;omega) (.int .i64 h.surv)).setCell (p:=⟨w.heap.size+1,5,none⟩) (by show w.heap.size<=w.heap.size+1;omega) (.bool h.flip)).setCell (p:=⟨w.heap.size+1,6,none⟩) (by show w.heap.size<=w.heap.size+1;omega) (.int .i64 h.hash)).setCell (p:=⟨w.heap.size+1,7,none⟩) (by show w.heap.size<=w.heap.size+1;omega) (.slice (some ⟨g3,0,none⟩) h.kept.length c3))
 have q0:w3.cell? ⟨w.heap.size+1+1,0,none⟩=some (.slice (some ⟨g1,0,none⟩) h.words.length c1):=rO3.cell (i:=0) (by omega)
 have q1:w3.cell? ⟨w.heap.size+1+1,1,none⟩=some (.slice (some ⟨g2,0,none⟩) h.roots.length c2):=rO3.cell (i:=1) (by omega)
 have q2:w3.cell? ⟨w.heap.size+1+1,2,none⟩=some (.int .i64 h.old):=rO3.cell (i:=2) (by omega)
 have q3:w3.cell? ⟨w.heap.size+1+1,3,none⟩=some (.int .i64 h.eden):=rO3.cell (i:=3) (by omega)
 have q4:w3.cell? ⟨w.heap.size+1+1,4,none⟩=some (.int .i64 h.surv):=rO3.cell (i:=4) (by omega)
 have q5:w3.cell? ⟨w.heap.size+1+1,5,none⟩=some (.bool h.flip):=rO3.cell (i:=5) (by omega)
 have q6:w3.cell? ⟨w.heap.size+1+1,6,none⟩=some (.int .i64 h.hash):=rO3.cell (i:=6) (by omega)
 have q7:=rO3.cell (i:=7) (by omega)
 obtain ⟨r0,r1,r2,r3,r4,r5,r6,r7⟩:=zrc8 rR3
 have fO:∀ i,w3.frozen? ⟨w.heap.size+1+1,i,none⟩=false:=fun i=>rO3.frozen i
 have fR:∀ i,w3.frozen? ⟨w.heap.size+1,i,none⟩=false:=fun i=>rR3.frozen i
 clear T3 rO3 rR3 j1c o1c j2c o2c rO2a rR2a
 go_wp2
 exact bodyPost_ret (v:=.agg #[(.slice (some ⟨g1,0,none⟩) h.words.length c1),(.slice (some ⟨g2,0,none⟩) h.roots.length c2),.int .i64 h.old,.int .i64 h.eden,.int .i64 h.surv,.bool h.flip,.int .i64 h.hash,(.slice (some ⟨g3,0,none⟩) h.kept.length c3)]) (by simp [results,Tryz.results62,go_sem,r0,r1,r2,r3,r4,r5,r6,r7]) rfl ⟨⟨_,rfl,fin⟩,bfin⟩
set_option maxRecDepth 100000 in
set_option maxHeartbeats 1600000 in
theorem eqHeap_any (v u:Value) (h:Hp) (w:World) (hv:HR w v h) (hu:HR w u h) (l1:h.words.length<=10000000000000) (l2:h.roots.length<=10000000000000) (l3:h.kept.length<=10000000000000) :
  Calls Tryz.prog 64 #[v,u] w fun e w'=>e=.returned (.bool true)/\Below w.heap.size w w':=by
 obtain ⟨v1,v2,v3,rfl,a1,a2,a3⟩:=hv
 obtain ⟨u1,u2,u3,rfl,b1,b2,b3⟩:=hu
 have hb0:Below w.heap.size w ((w.alloc (.cells #[v1,v2,.int .i64 h.old,.int .i64 h.eden,.int .i64 h.surv,.bool h.flip,.int .i64 h.hash,v3] 26)).alloc (.cells #[u1,u2,.int .i64 h.old,.int .i64 h.eden,.int .i64 h.surv,.bool h.flip,.int .i64 h.hash,u3] 26)):=bel_after (bel_one _ _) (bel_one _ _)
 have X0:=(Bx.new w v1 v2 v3 h 26).later (bel_one _ (.cells #[u1,u2,.int .i64 h.old,.int .i64 h.eden,.int .i64 h.surv,.bool h.flip,.int .i64 h.hash,u3] 26))
 have Y0:Bx ((w.alloc (.cells #[v1,v2,.int .i64 h.old,.int .i64 h.eden,.int .i64 h.surv,.bool h.flip,.int .i64 h.hash,v3] 26)).alloc (.cells #[u1,u2,.int .i64 h.old,.int .i64 h.eden,.int .i64 h.surv,.bool h.flip,.int .i64 h.hash,u3] 26)) (w.heap.size+1) u1 u2 u3 h:=by
  have q:=Bx.new (w.alloc (.cells #[v1,v2,.int .i64 h.old,.int .i64 h.eden,.int .i64 h.surv,.bool h.flip,.int .i64 h.hash,v3] 26)) u1 u2 u3 h 26
  rwa [World.size_alloc] at q
 have E1:=eqInt64S_any v1 u1 h.words h.words _ (a1.later hb0) (b1.later hb0) (by omega) (by omega)
 rw [decide_eq_true rfl] at E1
 go_enter Tryz.func64,Tryz.ntmps64
 go_wp2_with fail
 refine E1.mono ?_
 rintro e w1 ⟨rfl,hb1⟩
 have hbw1:=bel_after hb0 hb1
 have X1:=X0.later hb1
 have Y1:=Y0.later hb1
 obtain ⟨x0,x1,x2,x3,x4,x5,x6,x7⟩:=id X1
 obtain ⟨y0,y1,y2,y3,y4,y5,y6,y7⟩:=id Y1
 have E2:=eqInt64S_any v2 u2 h.roots h.roots _ (a2.later hbw1) (b2.later hbw1) (by omega) (by omega)
 rw [decide_eq_true rfl] at E2
 clear E1 X0 Y0
 go_wp2_with fail
 refine E2.mono ?_
 rintro e w2 ⟨rfl,hb2⟩
 have hbw2:=bel_after hbw1 hb2
 have X2:=X1.later hb2
 have Y2:=Y1.later hb2
 clear x0 x1 x2 x3 x4 x5 x6 x7 y0 y1 y2 y3 y4 y5 y6 y7
 obtain ⟨x0,x1,x2,x3,x4,x5,x6,x7⟩:=id X2
 obtain ⟨y0,y1,y2,y3,y4,y5,y6,y7⟩:=id Y2
 have E3:=eqInt64S_any v3 u3 h.kept h.kept _ (a3.later hbw2) (b3.later hbw2) (by omega) (by omega)
 rw [decide_eq_true rfl] at E3
 clear E2 X1 Y1
 go_wp2_with fail
 refine E3.mono ?_
 rintro e w3 ⟨rfl,hb3⟩
 go_wp2
 go_ret
 exact ⟨rfl,bel_after hbw2 hb3⟩
end Go.Proofs.YtgnbibinclepcaaGreatDoor
/- markHeap, heldHeap and NewHeap. -/
namespace Go.Proofs.YtgnbibinclepcaaGreatDoor
open Go.RowKit
structure Thr (w w' : World) (r1 r2 r3:Option Nat):Prop where
 os:w'.os=w.os
 tape:w'.tape=w.tape
 output:w'.output=w.output
 size:w.heap.size<=w'.heap.size
 block:∀ k,k<w.heap.size->some k ≠ r1->some k ≠ r2->some k ≠ r3->w'.heap[k]?=w.heap[k]?
theorem Thr.mk' {w a b c d:World} {r1 r2 r3:Option Nat} (h0:Below w.heap.size w a) (h1:a.grownBy b r1) (h2:b.grownBy c r2) (h3:c.grownBy d r3):Thr w d r1 r2 r3:=by
 have s1:=h0.size
 have s2:=h1.size
 have s3:=h2.size
 exact ⟨h3.os.trans (h2.os.trans (h1.os.trans h0.os)),h3.tape.trans (h2.tape.trans (h1.tape.trans h0.tape)),h3.output.trans (h2.output.trans (h1.output.trans h0.output)),by have:=h3.size;omega,
  fun k hk e1 e2 e3=>(h3.block k (by omega) e3).trans ((h2.block k (by omega) e2).trans ((h1.block k (by omega) e1).trans (h0.block k hk)))⟩
theorem apart {w:World} {t s n m:Nat} {v u:Value} (d:∀ b,Disk.rowOf v n=some b->Disk.rowOf u m ≠ some b) (hu:Disk.OS w t s u m):m=0 ∨ u.ownBlock ≠ Disk.rowOf v n:=by
 by_cases hm:m=0
 ·exact .inl hm
 ·refine .inr fun e=>?_
  obtain ⟨ao,cap,rfl,h⟩:=hu
  obtain ⟨b,N,f,rfl,_,_⟩:=h.resolve_left hm
  have e1:Disk.rowOf v n=some b:=by rw [<- e];rfl
  exact d b e1 (by unfold Disk.rowOf;rw [if_neg hm];rfl)
theorem apart' {w:World} {t s n m:Nat} {v u:Value} (d:∀ b,Disk.rowOf v n=some b->Disk.rowOf u m ≠ some b) (hv:Disk.OS w t s v n):n=0 ∨ v.ownBlock ≠ Disk.rowOf u m:=apart (fun b e f=>d b f e) hv
theorem marks_nil {k:Int} {n m:Nat} {v u:Value} (h:n=0 ∨ v.ownBlock ≠ Disk.rowOf u m):imarks k n=[] ∨ v.ownBlock ≠ Disk.rowOf u m:=h.elim (fun e=>.inl (by rw [e];rfl)) .inr
set_option maxRecDepth 100000 in
set_option maxHeartbeats 1600000 in
theorem markHeap_any (v1 v2 v3:Value) (h:Hp) (k:Int) (w:World) (o1:Disk.OS w 2 1 v1 h.words.length) (o2:Disk.OS w 2 1 v2 h.roots.length) (o3:Disk.OS w 2 1 v3 h.kept.length)
  (i1:IR w v1 h.words) (i2:IR w v2 h.roots) (i3:IR w v3 h.kept)
  (d12:∀ b,Disk.rowOf v1 h.words.length=some b->Disk.rowOf v2 h.roots.length ≠ some b) (d13:∀ b,Disk.rowOf v1 h.words.length=some b->Disk.rowOf v3 h.kept.length ≠ some b) (d23:∀ b,Disk.rowOf v2 h.roots.length=some b->Disk.rowOf v3 h.kept.length ≠ some b)
  (k0:0<k) (k1:k<=10) (l1:h.words.length<=10000000000000) (l2:h.roots.length<=10000000000000) (l3:h.kept.length<=10000000000000) :
  Calls Tryz.prog 66 #[.agg #[v1,v2,.int .i64 h.old,.int .i64 h.eden,.int .i64 h.surv,.bool h.flip,.int .i64 h.hash,v3],.int .i64 k] w fun e w'=>e=.returned (.int .i64 (k+h.words.length+h.roots.length+h.kept.length))/\Thr w w' (Disk.rowOf v1 h.words.length) (Disk.rowOf v2 h.roots.length) (Disk.rowOf v3 h.kept.length)/\IR w' v1 (imarks k h.words.length)/\IR w' v2 (imarks (k+h.words.length) h.roots.length)/\IR w' v3 (imarks (k+h.words.length+h.roots.length) h.kept.length):=by
 have hb0:=bel_one w (.cells #[v1,v2,.int .i64 h.old,.int .i64 h.eden,.int .i64 h.surv,.bool h.flip,.int .i64 h.hash,v3] 26)
 have X0:=Bx.new w v1 v2 v3 h 26
 have q1:=o1.row
 have q2:=o2.row
 have q3:=o3.row
 have ap2:=apart d12 o2
 have ap3:=apart d13 o3
 have ap3':=apart d23 o3
 have am1:=marks_nil (k:=k) (apart' d12 o1)
 have am1':=marks_nil (k:=k) (apart' d13 o1)
 have am2:=marks_nil (k:=k+h.words.length) (apart' d23 o2)
 have M1:=markInt64S_any v1 h.words.length k _ (o1.later hb0) (by obtain ⟨a,c,e,f⟩:=IRs i1;exact ⟨a,c,e,f⟩) k0 (by omega)
 have z2:=IRs i2
 have z3:=IRs i3
 go_enter Tryz.func66,Tryz.ntmps66
 go_wp2_with fail
 refine M1.mono ?_
 rintro e w1 ⟨rfl,g1,m1⟩
 have e1:=g1.cell X0.c1 (fun e=>by have:=q1 _ e.symm;simp at this)
 have e7:=g1.cell X0.c7 (fun e=>by have:=q1 _ e.symm;simp at this)
 have p2:=(o2.later hb0).grown g1 ap2
 have p3:=(o3.later hb0).grown g1 ap3
 have M2:=markInt64S_any v2 h.roots.length (k+h.words.length) _ p2 (by obtain ⟨a,c,e,f⟩:=z2;exact ⟨a,c,e,f⟩) (by omega) (by omega)
 go_wp2_with fail
 refine M2.mono ?_
 rintro e w2 ⟨rfl,g2,m2⟩
 have f7:=g2.cell e7 (fun e=>by have:=q2 _ e.symm;simp at this)
 have r3:=p3.grown g2 ap3'
 have m1':=m1.grown g2 am1
 have M3:=markInt64S_any v3 h.kept.length (k+h.words.length+h.roots.length) _ r3 (by obtain ⟨a,c,e,f⟩:=z3;exact ⟨a,c,e,f⟩) (by omega) (by omega)
 clear M1 M2 X0 e7
 go_wp2_with fail
 refine M3.mono ?_
 rintro e w3 ⟨rfl,g3,m3⟩
 have T:=Thr.mk' hb0 g1 g2 g3
 have m1'':=m1'.grown g3 am1'
 have m2':=m2.grown g3 am2
 go_wp2
 go_ret
 exact ⟨rfl,T,m1'',m2',m3⟩
end Go.Proofs.YtgnbibinclepcaaGreatDoor
