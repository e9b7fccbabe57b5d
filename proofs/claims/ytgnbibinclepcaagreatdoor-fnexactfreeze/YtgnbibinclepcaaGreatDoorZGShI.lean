import Derived.Test.YtgnbibinclepcaaGreatDoorZP25
namespace Go.Proofs.YtgnbibinclepcaaGreatDoor
open Go.RowKit
theorem make_nodes (n B:Nat) (hn:n<=1000000) (w:World) (hB:B<=w.heap.size):∃ w',(Instr.makeSlice 39 (.int .i64 0) (.int .i64 (n:Int))).run Tryz.prog w=.ok (.slice (some ⟨w.heap.size,0,none⟩) 0 n) w' /\ w'.ownsRow B 73 3 (.slice (some ⟨w.heap.size,0,none⟩) 0 n) 0 []/\Below w.heap.size w w':=by
 obtain ⟨i,hi,hzz⟩:=Option.map_eq_some_iff.1 Tryz.infoN
 simp only [Prod.mk.injEq] at hzz
 obtain ⟨hz,hsz,hby⟩:=hzz
 obtain ⟨w',h1,h2,h3⟩:=run_make_own (P:=Tryz.prog) w B 39 73 i _ 3 Tryz.underlying39 hi hz hsz .i64 .i64 n (by rw [hby];omega) (by unfold maxLen;omega) hB
 exact ⟨w',h1,h2,⟨h3.os,h3.tape,h3.output,h3.size,fun k hk=>h3.block k hk (by simp)⟩⟩
theorem gn_zeroI (B:Nat) (w:World):GN B w (.agg #[.slice none 0 0,.slice none 0 0,.int .i64 0]) gr0 :=
 ⟨_,_,fun _=>.slice none 0 0,rfl,World.ownsRow_nil _ _ _ _,⟨[],World.ownsRow_nil _ _ _ _,Trip.nil _,fun i hi=>absurd hi (Nat.not_lt_zero i),fun i _ hi=>absurd hi (Nat.not_lt_zero i)⟩,fun i hi=>absurd hi (Nat.not_lt_zero i)⟩
theorem obj_need {h:Hp} {l:List Nat} (r:RightAt h l) {k:Nat} (hk:k<(ordF h.words h.roots).length) :
  ∃ m:Nat,m<=60/\gw h.words ((ordF h.words h.roots).getD k 0)=(m:Int)/\(ordF h.words h.roots).getD k 0+4+m<=3200/\nx h.words ((ordF h.words h.roots).getD k 0)<=3200 ∧
   (flds h.words ((ordF h.words h.roots).getD k 0)).map (rnM (numF (ordF h.words h.roots)))=(flds h.words ((ordF h.words h.roots).getD k 0)).map (ren (ordF h.words h.roots))/\(flds h.words ((ordF h.words h.roots).getD k 0)).length=m ∧
   ((ordF h.words h.roots).take (k+1)).map (ndOf h.words (ordF h.words h.roots))=((ordF h.words h.roots).take k).map (ndOf h.words (ordF h.words h.roots)) ++ [⟨gw h.words ((ordF h.words h.roots).getD k 0+1),gw h.words ((ordF h.words h.roots).getD k 0+2),(flds h.words ((ordF h.words h.roots).getD k 0)).map (ren (ordF h.words h.roots))⟩]:=by
 obtain ⟨m,m60,hm,hn,hx,_⟩:=reach_need r hk
 refine ⟨m,m60,hm,hn,by omega,List.map_congr_left fun x hx=>rn_num fun q=>ord_fields r (lget_mem _ _ hk) hx q,by rw [flds_length,hm];rfl,?_⟩
 rw [ltake_snoc _ _ hk,List.map_append]
 rfl
set_option maxRecDepth 100000 in
set_option maxHeartbeats 3200000 in
theorem implShape_c (v:Value) (h:Hp) (w:World) (hv:HR w v h) (hro:h.roots.length<=1000000000000) (hke:h.kept.length<=1000000000000) :
  Calls Tryz.prog 14 #[v] w fun x w'=>(∃ v',x=.returned v' /\ GN w.heap.size w' v' (shC h))/\Below w.heap.size w w':=by
 obtain ⟨v1,v2,v3,rfl,i1,i2,i3⟩:=id hv
 have X0:=(Bx.new w v1 v2 v3 h 26).later (bel_one _ (.cells #[.slice none 0 0,.slice none 0 0,.int .i64 0] 41))
 have RS0:=gres w #[v1,v2,.int .i64 h.old,.int .i64 h.eden,.int .i64 h.surv,.bool h.flip,.int .i64 h.hash,v3] 26
 generalize hW0:(w.alloc (.cells #[v1,v2,.int .i64 h.old,.int .i64 h.eden,.int .i64 h.surv,.bool h.flip,.int .i64 h.hash,v3] 26)).alloc (.cells #[.slice none 0 0,.slice none 0 0,.int .i64 0] 41)=W0 at X0 RS0
 have Z0:W0.heap.size=w.heap.size+2:=by rw [<- hW0];simp
 have B0:Below w.heap.size w W0:=by rw [<- hW0];exact bel_after (bel_one _ _) (bel_one _ _)
 have C:=implHeapOk_c _ h _ (hv.later B0) hro hke
 have E:=shape_c h
 obtain ⟨c0,c1,c2,c3,c4,c5,c6,c7⟩:=id X0
 cases hk:okC h
 ·rw [hk] at C E
  have E' : Hid (shC h=gr0):=E
  clear E i1 i2 i3
  go_enter Tryz.func14,Tryz.ntmps14
  go_wp2_with fail
  refine C.mono ?_
  rintro x w1 ⟨rfl,hb1⟩
  have RR:=RS0.of_block (hb1.block _ RS0.lt)
  have r0:w1.cell? ⟨w.heap.size+1,0,none⟩=some (.slice none 0 0):=RR.cell (i:=0) (by omega)
  have r1:w1.cell? ⟨w.heap.size+1,1,none⟩=some (.slice none 0 0):=RR.cell (i:=1) (by omega)
  have r2:w1.cell? ⟨w.heap.size+1,2,none⟩=some (.int .i64 0):=RR.cell (i:=2) (by omega)
  have f0:=RR.frozen 0
  have f1:=RR.frozen 1
  have f2:=RR.frozen 2
  have hbw1:=bel_after B0 hb1
  have G:=(gr_store (u0:=.slice none 0 0) (u1:=.slice none 0 0) (h2:=0) RR).2
  have bz:=hbw1.trans (G.below hbw1.size fun b _ e=>by omega)
  have FIN:Hid ((∃ v',Ending.returned (.agg #[.slice none 0 0,.slice none 0 0,.int .i64 0])=.returned v' /\ GN w.heap.size (((w1.setCell ⟨w.heap.size+1,0,none⟩ (.slice none 0 0)).setCell ⟨w.heap.size+1,1,none⟩ (.slice none 0 0)).setCell ⟨w.heap.size+1,2,none⟩ (.int .i64 0)) v' (shC h))/\Below w.heap.size w (((w1.setCell ⟨w.heap.size+1,0,none⟩ (.slice none 0 0)).setCell ⟨w.heap.size+1,1,none⟩ (.slice none 0 0)).setCell ⟨w.heap.size+1,2,none⟩ (.int .i64 0))):=⟨⟨_,rfl,by rw [E'.out];exact gn_zeroI _ _⟩,bz⟩
  clear c0 c1 c2 c3 c4 c5 c6 c7 G bz
  go_wp2
  exact bodyPost_ret (v:=.agg #[.slice none 0 0,.slice none 0 0,.int .i64 0]) (by simp [results,Tryz.results14,go_sem,r0,r1,r2]) rfl FIN.out
 ·rw [hk] at C E
  have E' : Hid (shC h=shP h):=E
  have r:=c_right hk
  have TF:=fun W (hb:Below w.heap.size w W)=>tourOf_any _ h (obC h) W (hv.later hb) r
  have hlen:=r.1.1
  have hrl:h.roots.length<=20:=r.2.2.2.2.2.1
  obtain ⟨b,o,cap,hv1,hcap,hW⟩:=i1.ws (by omega)
  subst hv1
  rw [hlen] at c0 X0 C hcap TF hW0 ⊢
  have HLN:Hid (h.words.length=3200):=hlen
  have h3:=ord_len r
  clear E hk i1 i3 hv hlen
  go_enter Tryz.func14,Tryz.ntmps14
  go_wp2_with fail
  refine C.mono ?_
  rintro x w1 ⟨rfl,hb1⟩
  have X1:=X0.later hb1
  have hbw1:=bel_after B0 hb1
  clear c0 c1 c2 c3 c4 c5 c6 c7
  obtain ⟨c0,c1,c2,c3,c4,c5,c6,c7⟩:=id X1
  go_wp2_with fail
  refine (TF w1 hbw1).mono ?_
  rintro x w2 ⟨ov,M,n,rfl,ho,hM,hMl,_,hb2⟩
  obtain ⟨oa,oc,hov⟩:=own_shape ho
  subst hov
  have T3:=tourC w2 (.slice oa (ordF h.words h.roots).length oc) M 76
  have al:=bel_one w2 (.cells #[.slice oa (ordF h.words h.roots).length oc,.map (some M)] 76)
  have B3:Below W0.heap.size W0 (w2.alloc (.cells #[.slice oa (ordF h.words h.roots).length oc,.map (some M)] 76)):=bel_after (bel_after hb1 hb2) al
  have O3:=own_later ho al
  have M3:=hM.later al
  obtain ⟨w4,mrun,mown,mb⟩:=make_nodes (ordF h.words h.roots).length (w2.heap.size+1) (by omega) (w2.alloc (.cells #[.slice oa (ordF h.words h.roots).length oc,.map (some M)] 76)) (by simp)
  generalize hw3:w2.alloc (.cells #[.slice oa (ordF h.words h.roots).length oc,.map (some M)] 76)=w3 at *
  have t0:w3.cell? ⟨w2.heap.size,0,none⟩=some (.slice oa (ordF h.words h.roots).length oc):=T3.cell (i:=0) (by omega)
  have t0':=cell_later mb t0
  have B4:=bel_after B3 mb
  have T4:=T3.of_block (mb.block _ T3.lt)
  have O4:=own_later O3 mb
  have M4:=M3.later mb
  have s3:w3.heap.size=w2.heap.size+1:=by rw [<- hw3];simp
  have s1:=hb1.size
  have s2:=hb2.size
  clear c0 c1 c2 c3 c4 c5 c6 c7 T3 O3 M3 C TF
  have BA:Hid (∀ W,Below (w2.heap.size+1) w4 W->Below w2.heap.size w2 W):=fun W q=>(bel_after al mb).trans (q.mono (by omega))
  have BX:Hid (∀ W,Below (w2.heap.size+1) w4 W->Bx W w.heap.size (.slice (some ⟨b,o,none⟩) 3200 cap) v2 v3 h/\Below w.heap.size w W/\W.rowIs (w.heap.size+1) 41 3 (grF (.slice none 0 0) (.slice none 0 0) 0)):=fun W q=>by
   have q2:Below W0.heap.size W0 W:=B4.trans (q.mono (by omega))
   exact ⟨X0.later q2,bel_after B0 q2,RS0.of_block (q2.block _ RS0.lt)⟩
  have TT:Hid (∀ W,Below (w2.heap.size+1) w4 W->W.rowIs w2.heap.size 76 2 (fun i=>if i=0 then .slice oa (ordF h.words h.roots).length oc else .map (some M))):=fun W q=>T4.of_block (q.block _ (by omega))
  have MM:Hid (∀ W,Below (w2.heap.size+1) w4 W->MP W M n (numF (ordF h.words h.roots))):=fun W q=>hM.later (BA.out W q)
  have OO:Hid (∀ W,Below (w2.heap.size+1) w4 W->IR W (.slice oa (ordF h.words h.roots).length oc) (ints (ordF h.words h.roots))):=fun W q=>(IR_of_owns' ho).later (BA.out W q)
  have szA:Hid (∀ W,Below (w2.heap.size+1) w4 W->w2.heap.size+1<=W.heap.size):=fun W q=>by have:=q.size;have:=mb.size;omega
  have N0:NOwn (w2.heap.size+1) w4 (.slice (some ⟨w2.heap.size+1,0,none⟩) 0 (ordF h.words h.roots).length) [] (fun _=>.slice none 0 0):=by
   rw [s3] at mown
   exact ⟨[],mown,Trip.nil _,fun i hi=>absurd hi (Nat.not_lt_zero i),fun i _ hi=>absurd hi (Nat.not_lt_zero i)⟩
  clear X1 T4 O4 M4 B4 B3 hM ho
  go_wp2
  clear mown mrun t0 t0' hw3
  go_loopw [4,22] (fun nvv iv wr=>∃ (k:Nat) (nv:Value) (fv:Nat->Value),k<=(ordF h.words h.roots).length/\iv=.int .i64 k/\nv=nvv/\NOwn (w2.heap.size+1) wr nv (((ordF h.words h.roots).take k).map (ndOf h.words (ordF h.words h.roots))) fv/\Below (w2.heap.size+1) w4 wr) (fun _ iv _=>(ordF h.words h.roots).length - (intOf iv).toNat)
  case atStart=>exact ⟨0,_,_,Nat.zero_le _,rfl,rfl,N0,Below.refl _ _⟩
  case round =>
   clear N0
   obtain ⟨k,nv,fv,hk,rfl,rfl,N,hb⟩:=hrel
   obtain ⟨⟨c0,c1,c2,c3,c4,c5,c6,c7⟩,hbw,RR⟩:=BX.out wr hb
   by_cases hkl:k<(ordF h.words h.roots).length
   ·obtain ⟨oa',oc',e',hoc⟩:=intsI (OO.out wr hb)
    simp only [Value.slice.injEq] at e'
    obtain ⟨rfl,_,rfl⟩:=e'
    obtain ⟨ob,oo,rfl,co⟩:=hoc k hkl
    obtain ⟨m,m60,hm,hn4,hnx,hfe,hfl,hts⟩:=obj_need r hkl
    have HA:=headerAt_any b o cap h.words ((ordF h.words h.roots).getD k 0) wr (hW.later hbw) HLN.out (by omega)
    have FA:=fun W (q:Below w.heap.size w W)=>fieldsAt_atT b o cap h.words ((ordF h.words h.roots).getD k 0) m W (hW.later q) HLN.out hcap (by omega) hm m60 hnx
    have HFE:Hid ((flds h.words ((ordF h.words h.roots).getD k 0)).map (rnM (numF (ordF h.words h.roots)))=(flds h.words ((ordF h.words h.roots).getD k 0)).map (ren (ordF h.words h.roots))/\(flds h.words ((ordF h.words h.roots).getD k 0)).length=m):=⟨hfe,hfl⟩
    have HTS:Hid (((ordF h.words h.roots).take (k+1)).map (ndOf h.words (ordF h.words h.roots))=((ordF h.words h.roots).take k).map (ndOf h.words (ordF h.words h.roots)) ++ [⟨gw h.words ((ordF h.words h.roots).getD k 0+1),gw h.words ((ordF h.words h.roots).getD k 0+2),(flds h.words ((ordF h.words h.roots).getD k 0)).map (ren (ordF h.words h.roots))⟩]):=hts
    have RE:=fun W u (q:MP W M n (numF (ordF h.words h.roots))) (hu:IR W u (flds h.words ((ordF h.words h.roots).getD k 0)))=>(renamed_any u _ M n (numF (ordF h.words h.roots)) W hu q (by rw [hfl];omega) (fun x _ kx=>rn_range h3 kx)).mono (R':=fun e w'=>(∃ v',e=.returned v' /\ w'.ownsRow W.heap.size 2 1 v' m (icells ((flds h.words ((ordF h.words h.roots).getD k 0)).map (ren (ordF h.words h.roots)))))/\Below W.heap.size W w') (fun e w' ⟨⟨v',a,b⟩,c⟩=>⟨⟨v',a,by rw [hfl,hfe] at b;exact b⟩,c⟩)
    have FLN:Hid (((flds h.words ((ordF h.words h.roots).getD k 0)).map (ren (ordF h.words h.roots))).length=m):=(by rw [List.length_map];exact hfl:((flds h.words ((ordF h.words h.roots).getD k 0)).map (ren (ordF h.words h.roots))).length=m)
    have LK:Hid ((((ordF h.words h.roots).take k).map (ndOf h.words (ordF h.words h.roots))).length=k):=(by rw [List.length_map,List.length_take];omega:(((ordF h.words h.roots).take k).map (ndOf h.words (ordF h.words h.roots))).length=k)
    clear hm hnx hfe hfl hts hoc
    generalize (ordF h.words h.roots).getD k 0=a at *
    generalize gw h.words a=x0 at *
    generalize gw h.words (a+1)=x1 at *
    generalize gw h.words (a+2)=x2 at *
    generalize gw h.words (a+3)=x3 at *
    have hki:(k:Int)<(ordF h.words h.roots).length:=by omega
    go_wp2_with fail
    refine HA.mono ?_
    rintro e w5 ⟨rfl,hb5⟩
    have al5:=bel_one w5 (.cells #[.int .i64 x0,.int .i64 x1,.int .i64 x2,.int .i64 x3] 79)
    have hd1:=cell_new w5 #[.int .i64 x0,.int .i64 x1,.int .i64 x2,.int .i64 x3] 79 _ rfl 1 _ rfl
    have hd2:=cell_new w5 #[.int .i64 x0,.int .i64 x1,.int .i64 x2,.int .i64 x3] 79 _ rfl 2 _ rfl
    have b6:=bel_after hb5 al5
    generalize hw6:w5.alloc (.cells #[.int .i64 x0,.int .i64 x1,.int .i64 x2,.int .i64 x3] 79)=w6 at *
    have hb6:Below (w2.heap.size+1) w4 w6.drew:=(hb.trans (b6.mono (szA.out wr hb))).drew
    have N6:NOwn (w2.heap.size+1) w6.drew nv (((ordF h.words h.roots).take k).map (ndOf h.words (ordF h.words h.roots))) fv:=(Grew.new b6 (fun _=>False)).drew.nown N (fun _ q=>q.elim)
    obtain ⟨⟨d0,d1,d2,d3,d4,d5,d6,d7⟩,hbw6,_⟩:=BX.out _ hb6
    have T6:=TT.out _ hb6
    have t1:w6.drew.cell? ⟨w2.heap.size,1,none⟩=some (.map (some M)):=T6.cell (i:=1) (by omega)
    have M6:=MM.out _ hb6
    have FA6:=FA _ hbw6
    have RE6:=fun u hu=>RE _ u M6 hu
    have s6:=szA.out _ hb6
    have hd1' : w6.drew.cell? ⟨w5.heap.size,1,none⟩=some (.int .i64 x1):=hd1
    have hd2' : w6.drew.cell? ⟨w5.heap.size,2,none⟩=some (.int .i64 x2):=hd2
    clear c0 c1 c2 c3 c4 c5 c6 c7 d1 d2 d3 d4 d5 d6 d7 N HA FA RE RR co T6 hd1 hd2
    go_wp2_with fail
    go_region_with (first
     | (go_at_call 49;refine FA6.mono ?_;rintro e w' ⟨⟨q,c,rfl,hir⟩,hw'⟩;obtain rfl:=hw'.symm)
     | (go_at_call 48;refine (RE6 _ hir).mono ?_;rintro e w7 ⟨⟨u7,rfl,ho7⟩,hb7⟩))
    all_goals
     obtain ⟨ua,uc,hu7⟩:=own_shape ho7
     subst hu7
     obtain ⟨xs,no,nt,nf,na⟩:=id N6
     rw [LK.out] at no
     have no7:=own_later no hb7
     have al7:=bel_one w7 (.cells #[.int .i64 x1,.int .i64 x2,.slice ua m uc] 73)
     have no8:=own_later no7 al7
     have hd17:=cell_later hb7 hd1'
     have hd27:=cell_later hb7 hd2'
     have hc:∀ W:World,(W.alloc (.cells #[.int .i64 x1,.int .i64 x2,.slice ua m uc] 73)).cell? ⟨W.heap.size,0,none⟩=some (.int .i64 x1)/\(W.alloc (.cells #[.int .i64 x1,.int .i64 x2,.slice ua m uc] 73)).cell? ⟨W.heap.size,1,none⟩=some (.int .i64 x2)/\(W.alloc (.cells #[.int .i64 x1,.int .i64 x2,.slice ua m uc] 73)).cell? ⟨W.heap.size,2,none⟩=some (.slice ua m uc):=fun W=>⟨by simp,by simp,by simp⟩
     have s7:=hb7.size
     have FIN:Hid (∀ w9 v9,w9.ownsRow (w2.heap.size+1) 73 3 v9 (k+1) (xs ++ [.int .i64 x1,.int .i64 x2,.slice ua m uc])->(w7.alloc (.cells #[.int .i64 x1,.int .i64 x2,.slice ua m uc] 73)).grownBy w9 nv.ownBlock →
      (∃ fv',NOwn (w2.heap.size+1) w9 v9 (((ordF h.words h.roots).take (k+1)).map (ndOf h.words (ordF h.words h.roots))) fv')/\Below (w2.heap.size+1) w4 w9):=fun w9 v9 q1 q2=>by
      have SN:=N6.snoc hb7 (by rw [FLN.out];exact ho7) s6 al7 nt (by rw [LK.out];exact q1) q2
      rw [<- HTS.out] at SN
      exact ⟨⟨_,SN⟩,((hb6.trans (hb7.mono s6)).trans (al7.mono (by omega))).trans ((Grew.grown q2).below (by simp;omega) fun b _ e=>(no.lt b e).1)⟩
     clear N6 no no7 nt nf na ho7 hd1' hd2'
     go_wp2_with (at_builtin;refine app_node _ rfl _ _ rfl (w2.heap.size+1) _ k xs rfl no8 _ 1 x1 x2 ua m uc rfl (hc _) (by omega) (by simp;omega) ?_;intro v9 w9 hown9 hg9 hloc;have SF:=FIN.out w9 v9 hown9 hg9)
     obtain ⟨⟨fv',sf1⟩,sf2⟩:=SF
     exact ⟨⟨k+1,v9,fv',by omega,by go_num,rfl,sf1,sf2⟩,by simp [intOf];omega⟩
   ·obtain rfl:k=(ordF h.words h.roots).length:=by omega
    rw [List.take_length] at N
    obtain ⟨ra,rc,hv2⟩:=IR.shape i2
    subst hv2
    have hbd:Below (w2.heap.size+1) w4 wr.drew:=hb.drew
    have Nd:NOwn (w2.heap.size+1) wr.drew nv ((ordF h.words h.roots).map (ndOf h.words (ordF h.words h.roots))) fv:=(Grew.refl wr (fun _=>False)).drew.nown N (fun _ q=>q.elim)
    obtain ⟨⟨d0,d1,d2,d3,d4,d5,d6,d7⟩,hbw6,R6⟩:=BX.out _ hbd
    have T6:=TT.out _ hbd
    have t1:wr.drew.cell? ⟨w2.heap.size,1,none⟩=some (.map (some M)):=T6.cell (i:=1) (by omega)
    have M6:=MM.out _ hbd
    have s6:=szA.out _ hbd
    have RE6:=(renamed_any _ h.roots M n (numF (ordF h.words h.roots)) wr.drew (i2.later hbw6) M6 (by omega) (fun x _ kx=>rn_range h3 kx)).mono (R':=fun e w'=>(∃ v',e=.returned v' /\ w'.ownsRow wr.drew.heap.size 2 1 v' h.roots.length (icells (h.roots.map (ren (ordF h.words h.roots)))))/\Below wr.drew.heap.size wr.drew w') (fun e w' ⟨⟨v',a,b⟩,c⟩=>⟨⟨v',a,by
     rw [List.map_congr_left (fun x hx=>rn_num fun q=>ord_roots hx q)] at b
     exact b⟩,c⟩)
    obtain ⟨na,nc,hnv⟩:∃ na nc,nv=.slice na ((ordF h.words h.roots).map (ndOf h.words (ordF h.words h.roots))).length nc:=by
     obtain ⟨xs,no,_⟩:=N
     exact own_shape no
    have LN:Hid (((ordF h.words h.roots).map (ndOf h.words (ordF h.words h.roots))).length=(ordF h.words h.roots).length):=List.length_map _
    rw [LN.out] at hnv
    subst hnv
    clear N c0 c1 c2 c3 c4 c5 c6 c7 RR
    have FIN:Hid (∀ w7 ua uc,w7.ownsRow wr.drew.heap.size 2 1 (.slice ua h.roots.length uc) h.roots.length (icells (h.roots.map (ren (ordF h.words h.roots))))->Below wr.drew.heap.size wr.drew w7->∀ W,Grew w7 W (fun q=>q=w.heap.size+1)->GN w.heap.size W (.agg #[.slice ua h.roots.length uc,.slice na (ordF h.words h.roots).length nc,.int .i64 h.hash]) (shC h)/\Below w.heap.size w W):=fun w7 ua uc q1 q2 W g=>by
     have n7:=(Grew.new q2 (fun _=>False)).nown Nd (fun _ q=>q.elim)
     have nW:=g.nown n7 (fun b e=>by omega)
     have rW:=g.own q1 (fun b e q=>by have:=(q1.lt b e).1;omega)
     have hl:(h.roots.map (ren (ordF h.words h.roots))).length=h.roots.length:=List.length_map _
     have GW:GN (w2.heap.size+1) W (.agg #[.slice ua h.roots.length uc,.slice na (ordF h.words h.roots).length nc,.int .i64 h.hash]) (shP h):=by
      refine ⟨_,_,fv,rfl,(by show W.ownsRow _ 2 1 _ (h.roots.map (ren (ordF h.words h.roots))).length (icells (h.roots.map (ren (ordF h.words h.roots))));rw [hl];exact own_mono rW s6),nW,fun i hi b e q=>?_⟩
      have h1:=(q1.lt b e).1
      obtain ⟨xs,no,nt,nf,na⟩:=Nd
      have h2:=((nf i hi).lt b q).2
      omega
     refine ⟨by rw [E'.out];exact GW.base (by omega),(hbw6.trans (q2.mono hbw6.size)).trans (g.below (by have:=q2.size;have:=hbw6.size;omega) fun b _ e=>by omega)⟩
    have RST:Hid (∀ w7,Below wr.drew.heap.size wr.drew w7->w7.rowIs (w.heap.size+1) 41 3 (grF (.slice none 0 0) (.slice none 0 0) 0)/\w7.cell? ⟨w.heap.size,6,none⟩=some (.int .i64 h.hash)):=fun w7 q=>⟨R6.of_block (q.block _ R6.lt),cell_later q d6⟩
    clear d0 d2 d3 d4 d5 d7 T6 M6
    go_wp2_with fail
    go_region_with (first
     | (go_at_call 48;refine RE6.mono ?_;rintro e w7 ⟨⟨u7,rfl,ho7⟩,hb7⟩;(obtain ⟨ua,uc,hu7⟩:=own_shape ho7);subst hu7;(obtain ⟨R7,c67⟩:=RST.out w7 hb7);have r0:w7.cell? ⟨w.heap.size+1,0,none⟩=some (.slice none 0 0):=R7.cell (i:=0) (by omega);have r1:w7.cell? ⟨w.heap.size+1,1,none⟩=some (.slice none 0 0):=R7.cell (i:=1) (by omega);have r2:w7.cell? ⟨w.heap.size+1,2,none⟩=some (.int .i64 0):=R7.cell (i:=2) (by omega);have f0:=R7.frozen 0;have f1:=R7.frozen 1;have f2:=R7.frozen 2))
    all_goals
     have RW:=gr_store (u0:=.slice ua h.roots.length uc) (u1:=.slice na (ordF h.words h.roots).length nc) (h2:=h.hash) R7
     obtain ⟨fin,bfin⟩:=FIN.out w7 ua uc ho7 hb7 _ RW.2
     have HF:Hid (GN w.heap.size (((w7.setCell ⟨w.heap.size+1,0,none⟩ (.slice ua h.roots.length uc)).setCell ⟨w.heap.size+1,1,none⟩ (.slice na (ordF h.words h.roots).length nc)).setCell ⟨w.heap.size+1,2,none⟩ (.int .i64 h.hash)) (.agg #[.slice ua h.roots.length uc,.slice na (ordF h.words h.roots).length nc,.int .i64 h.hash]) (shC h)/\Below w.heap.size w (((w7.setCell ⟨w.heap.size+1,0,none⟩ (.slice ua h.roots.length uc)).setCell ⟨w.heap.size+1,1,none⟩ (.slice na (ordF h.words h.roots).length nc)).setCell ⟨w.heap.size+1,2,none⟩ (.int .i64 h.hash))):=⟨fin,bfin⟩
     clear RW fin bfin R7 ho7
     go_wp2
     exact bodyPost_ret (v:=.agg #[.slice ua h.roots.length uc,.slice na (ordF h.words h.roots).length nc,.int .i64 h.hash]) (by simp [results,Tryz.results14,go_sem,r0,r1,r2]) rfl ⟨⟨_,rfl,HF.out.1⟩,HF.out.2⟩
end Go.Proofs.YtgnbibinclepcaaGreatDoor
