import Derived.Test.YtgnbibinclepcaaGreatDoorZP23
namespace Go.Proofs.YtgnbibinclepcaaGreatDoor
open Go.RowKit
set_option maxRecDepth 100000 in
set_option maxHeartbeats 3200000 in
theorem l6Shape_own (v:Value) (h:Hp) (l:List Nat) (w:World) (hv:HR w v h) (hr:RightAt h l) :
  Calls Tryz.prog 44 #[v] w fun x w'=>(∃ v',x=.returned v' /\ GN w.heap.size w' v' (shP h))/\Below w.heap.size w w':=by
 obtain ⟨v1,v2,v3,rfl,i1,i2,i3⟩:=hv
 have hlen:=hr.1.1
 obtain ⟨b,o,cap,rfl,_,hW⟩:=i1.ws (by omega)
 obtain ⟨ra,rc,rfl,_,hR⟩:=id i2
 have hrl:h.roots.length<=20:=hr.2.2.2.2.2.1
 have hlt:b<w.heap.size:=World.block_lt_of_cell? _ _ (hW 0 (by omega))
 rw [hlen]
 have HLN:Hid (h.words.length=3200):=hlen
 have X0:=(Bx.new w (.slice (some ⟨b,o,none⟩) 3200 cap) (.slice ra h.roots.length rc) v3 h 26).later (bel_one _ (.cells #[.slice none 0 0,.slice none 0 0,.int .i64 0] 41))
 generalize hW0:(w.alloc (.cells #[.slice (some ⟨b,o,none⟩) 3200 cap,.slice ra h.roots.length rc,.int .i64 h.old,.int .i64 h.eden,.int .i64 h.surv,.bool h.flip,.int .i64 h.hash,v3] 26)).alloc (.cells #[.slice none 0 0,.slice none 0 0,.int .i64 0] 41)=W0 at X0
 have Z0:W0.heap.size=w.heap.size+2:=by rw [<- hW0];simp
 have B0:Below w.heap.size w W0:=by rw [<- hW0];exact bel_after (bel_one _ _) (bel_one _ _)
 have mk:=gmakeW
 obtain ⟨c0,c1,c2,c3,c4,c5,c6,c7⟩:=id X0
 clear hlen i1 i2 i3
 have S0:Sh1 w.heap.size W0 (((W0.alloc (.cells (madeCells #[.int .i64 0] 3200) 2)).alloc (.cells #[] 2)).alloc (.cells #[.slice none 0 0,.slice none 0 0,.int .i64 h.hash] 41)) h.hash [] [] (.slice (some ⟨w.heap.size+2+1,0,none⟩) 0 0) (.slice none 0 0):=by
  have n0:(W0.alloc (.cells (madeCells #[.int .i64 0] 3200) 2)).rowIs (w.heap.size+2) 2 3200 (nmF []):=by
   have q:=World.rowIs_made W0 (.int .i64 0) 3200 2
   rw [Z0] at q
   exact q.congr fun i _=>by simp [nmF]
  have o0:((W0.alloc (.cells (madeCells #[.int .i64 0] 3200) 2)).alloc (.cells #[] 2)).ownsRow (w.heap.size+3) 2 1 (.slice (some ⟨w.heap.size+2+1,0,none⟩) 0 0) 0 []:=by
   have q:=own_none (W0.alloc (.cells (madeCells #[.int .i64 0] 3200) 2)) (w.heap.size+3) 2 1 (by simp;omega)
   rwa [World.size_alloc,Z0] at q
  have g0:=graphC ((W0.alloc (.cells (madeCells #[.int .i64 0] 3200) 2)).alloc (.cells #[] 2)) (.slice none 0 0) (.slice none 0 0) h.hash 41
  rw [World.size_alloc,World.size_alloc,Z0] at g0
  refine ⟨?_,by simp;omega,?_,own_later o0 (bel_one _ _),by simp [Value.ownBlock],g0,World.ownsRow_nil _ _ _ _,fun b e=>by simp [Value.ownBlock] at e⟩
  ·have q:=bel_after (bel_after (bel_one W0 (.cells (madeCells #[.int .i64 0] 3200) 2)) (bel_one _ (.cells #[] 2))) (bel_one _ (.cells #[.slice none 0 0,.slice none 0 0,.int .i64 h.hash] 41))
   rwa [Z0] at q
  ·exact (Grew.new (bel_after (bel_one _ _) (bel_one _ _)) (fun _=>False)).row n0 (fun q=>q)
 have RS:Hid (∀ W,Below (w.heap.size+2) W0 W->W.rowIs (w.heap.size+1) 41 3 (grF (.slice none 0 0) (.slice none 0 0) 0)):=fun W q=>by
  have g0:=graphC (w.alloc (.cells #[.slice (some ⟨b,o,none⟩) 3200 cap,.slice ra h.roots.length rc,.int .i64 h.old,.int .i64 h.eden,.int .i64 h.surv,.bool h.flip,.int .i64 h.hash,v3] 26)) (.slice none 0 0) (.slice none 0 0) 0 41
  rw [hW0,World.size_alloc] at g0
  exact g0.of_block (q.block _ (by omega))
 have BX:Hid (∀ W,Below (w.heap.size+2) W0 W->Bx W w.heap.size (.slice (some ⟨b,o,none⟩) 3200 cap) (.slice ra h.roots.length rc) v3 h):=fun W q=>X0.below (q.mono (by omega))
 have BW:Hid (∀ W,Below (w.heap.size+2) W0 W->Below w.heap.size w W):=fun W q=>B0.trans (q.mono (by omega))
 have HRS:Hid (∀ k,k<h.roots.length->(h.roots.getD k 0 % 2=0 ∨ isK 2 (h.roots.getD k 0)=true)/\(fol [] (h.roots.take k)).length<=3200/\fol1 (fol [] (h.roots.take k)) (h.roots.getD k 0)=fol [] (h.roots.take (k+1)) ∧
  ren (fol1 (fol [] (h.roots.take k)) (h.roots.getD k 0)) (h.roots.getD k 0)=ren (ordF h.words h.roots) (h.roots.getD k 0)):=fun k hk=>root_step hr hk
 go_enter Tryz.func44,Tryz.ntmps44
 go_wp2
 clear c0 c1 c2 c3 c4 c5 c6 c7
 go_loopw [4,6] (fun ovv iv wr=>∃ (k:Nat) (ov rv:Value),k<=h.roots.length/\iv=.int .i64 k/\ov=ovv/\Sh1 w.heap.size W0 wr h.hash (fol [] (h.roots.take k)) ((h.roots.take k).map (ren (ordF h.words h.roots))) ov rv) (fun _ iv _=>h.roots.length - (intOf iv).toNat)
 case atStart=>exact ⟨0,_,_,Nat.zero_le _,rfl,rfl,S0⟩
 case round =>
  obtain ⟨k,ov,rv,hk,rfl,rfl,S⟩:=hrel
  obtain ⟨c0,c1,c2,c3,c4,c5,c6,c7⟩:=BX.out wr S.bel
  by_cases hkl:k<h.roots.length
  ·obtain ⟨rb,ro,rfl,hcw⟩:=hR k hkl
   have hcr:=cell_later (BW.out wr S.bel) hcw
   obtain ⟨t1,t2,t3,t4⟩:=HRS.out k hkl
   have TS:Hid ((h.roots.take (k+1)).map (ren (ordF h.words h.roots))=(h.roots.take k).map (ren (ordF h.words h.roots)) ++ [ren (ordF h.words h.roots) (h.roots.getD k 0)]):=(by rw [itake_snoc _ _ hkl];simp:(h.roots.take (k+1)).map (ren (ordF h.words h.roots))=(h.roots.take k).map (ren (ordF h.words h.roots)) ++ [ren (ordF h.words h.roots) (h.roots.getD k 0)])
   have T3:Hid (fol1 (fol [] (h.roots.take k)) (h.roots.getD k 0)=fol [] (h.roots.take (k+1))/\ren (fol1 (fol [] (h.roots.take k)) (h.roots.getD k 0)) (h.roots.getD k 0)=ren (ordF h.words h.roots) (h.roots.getD k 0)):=⟨t3,t4⟩
   have TO:=l6Told_any (w.heap.size+2) 3200 (w.heap.size+3) ov (fol [] (h.roots.take k)) (h.roots.getD k 0) wr S.num S.ord (fun e=>by have:=(S.ord.lt _ e).1;omega) (by have:=S.sz;omega) t1 t2
   clear t1 t2 t3 t4 hcw
   generalize ren (ordF h.words h.roots) (h.roots.getD k 0)=y at *
   generalize h.roots.getD k 0=x at *
   have hkn:(k:Int)<h.roots.length:=by omega
   go_wp2_with fail
   refine TO.mono ?_
   rintro e w1 ⟨ov1,rfl,r1,o1,n1,l1,g1⟩
   rw [T3.out.1] at r1 o1
   rw [T3.out.2]
   have S1:=S.told r1 o1 l1 g1
   have cg:w1.cell? ⟨w.heap.size+2+1+1,0,none⟩=some rv:=S1.g.cell (i:=0) (by omega)
   have al:=bel_one w1 (.cells #[.int .i64 y] 2)
   have rt2:=own_later S1.rt al
   have cg2:=cell_later al cg
   have hc:∀ W:World,(W.alloc (.cells #[.int .i64 y] 2)).cell? ⟨W.heap.size,0,none⟩=some (.int .i64 y):=fun W=>by simp
   have s1:=S1.sz
   have rl20:((h.roots.take k).map (ren (ordF h.words h.roots))).length=k:=by simp;omega
   rw [rl20] at rt2
   have RT:Hid (∀ w4 fo fc,w4.ownsRow (w.heap.size+5) 2 1 (.slice fo (k+1) fc) (k+1) (icells ((h.roots.take k).map (ren (ordF h.words h.roots))) ++ [.int .i64 y])->(w1.alloc (.cells #[.int .i64 y] 2)).grownBy w4 rv.ownBlock →
    (Value.ownBlock (.slice fo (k+1) fc)=rv.ownBlock ∨ Value.ownBlock (.slice fo (k+1) fc)=some (w1.alloc (.cells #[.int .i64 y] 2)).heap.size)->Sh1 w.heap.size W0 (w4.setCell ⟨w.heap.size+2+1+1,0,none⟩ (.slice fo (k+1) fc)) h.hash (fol [] (h.roots.take (k+1))) ((h.roots.take (k+1)).map (ren (ordF h.words h.roots))) ov1 (.slice fo (k+1) fc)):=fun w4 fo fc q1 q2 q3=>by
    rw [TS.out]
    exact S1.root al (by rw [rl20];exact q1) q2 q3
   have GF:Hid (∀ w4,(w1.alloc (.cells #[.int .i64 y] 2)).grownBy w4 rv.ownBlock->w4.frozen? ⟨w.heap.size+2+1+1,0,none⟩=false/\w4.cell? ⟨w.heap.size+2+1+1,0,none⟩=some rv):=fun w4 q=>by
    have R:=(Grew.grown q).row ((Grew.new al (fun _=>False)).row S1.g (fun q=>q)) (fun e=>by have:=(S1.rt.lt _ e).1;omega)
    exact ⟨R.frozen 0,R.cell (i:=0) (by omega)⟩
   clear r1 o1 n1 l1 g1 S rl20 TO
   go_wp2_with (at_builtin;refine app_at _ rfl _ _ rfl (w.heap.size+5) _ k (icells ((h.roots.take k).map (ren (ordF h.words h.roots)))) rfl rt2 _ 1 y rfl (hc _) (by omega) (Nat.le_trans s1 (by simp)) ?_;intro v4 w4 hown4 hg4 hloc;(obtain ⟨fo,fc,hv4⟩:=own_shape hown4);subst hv4;have hg5:(w1.alloc (.cells #[.int .i64 y] 2)).grownBy w4 rv.ownBlock:=hg4;have SF:=RT.out w4 fo fc hown4 hg5 hloc;(obtain ⟨fz,cz⟩:=GF.out w4 hg5))
   exact ⟨⟨k+1,ov1,_,by omega,by go_num,rfl,SF⟩,by simp [intOf];omega⟩
  ·obtain rfl:k=h.roots.length:=by omega
   rw [List.take_length] at S
   have S2:=S.two
   have E2:=S.ex2
   clear hkl HRS hR S S0 mk X0
   go_wp2
   clear c0 c1 c2 c3 c4 c5 c6 c7 hk
   go_loopw [4,8] (fun ovv iv wr=>∃ (k:Nat) (ov nv:Value) (K:Nat->Prop),k<=(tr h.words h.roots k).length/\k<=3200/\iv=.int .i64 k/\ov=ovv/\Sh2 w.heap.size W0 wr h.hash (tr h.words h.roots k) (h.roots.map (ren (ordF h.words h.roots))) (((ordF h.words h.roots).take k).map (ndOf h.words (ordF h.words h.roots))) ov rv nv K/\Ex2 w.heap.size wr (h.roots.map (ren (ordF h.words h.roots))) (((ordF h.words h.roots).take k).map (ndOf h.words (ordF h.words h.roots))) rv nv K) (fun _ iv _=>3200 - (intOf iv).toNat)
   case atStart=>exact ⟨0,_,_,_,Nat.zero_le _,Nat.zero_le _,rfl,rfl,S2,E2⟩
   case round =>
    clear S2 E2
    obtain ⟨k,ov,nv,K,hk1,hk2,rfl,rfl,S,EX⟩:=hrel
    obtain ⟨c0,c1,c2,c3,c4,c5,c6,c7⟩:=BX.out wr S.bel
    have BWr:=BW.out wr S.bel
    have hWr:=hW.later BWr
    obtain ⟨oa,oc,hov,hoc⟩:=intsI (IR_of_owns' S.ord)
    subst hov
    have h3:=tr_len hr k
    by_cases hkl:k<(tr h.words h.roots k).length
    ·obtain ⟨ob,oo,rfl,co⟩:=hoc k hkl
     have haL:(tr h.words h.roots k).getD k 0 ∈ l:=tr_sub hr k (lget_mem _ _ hkl)
     obtain ⟨q1,q2,q3⟩:=hr.1.obj haL
     have q4:=size_of q3
     obtain ⟨m,hme⟩:=Int.eq_ofNat_of_zero_le q4.1
     have hnx:nx h.words ((tr h.words h.roots k).getD k 0)=(tr h.words h.roots k).getD k 0+4+m:=by unfold nx;rw [hme];rfl
     rw [hnx] at q2
     have ca0:=hWr ((tr h.words h.roots k).getD k 0) (by rw [HLN.out];omega)
     have ca1:=hWr ((tr h.words h.roots k).getD k 0+1) (by rw [HLN.out];omega)
     have ca2:=hWr ((tr h.words h.roots k).getD k 0+2) (by rw [HLN.out];omega)
     have m60:m<=60:=by omega
     rw [hme] at ca0
     have FS:Hid (∀ j,j<m->_):=fun j hj=>field_need hr hkl (by omega) hme hj
     have FA:Hid ((flds h.words ((tr h.words h.roots k).getD k 0)).length=m):=(by rw [flds_length,hme];rfl:(flds h.words ((tr h.words h.roots k).getD k 0)).length=m)
     have CW:Hid (∀ (W:World) j,Below (w.heap.size+2) W0 W->j<m->W.cell? ⟨b,o+((tr h.words h.roots k).getD k 0+4+j),none⟩=some (.int .i64 (gw h.words ((tr h.words h.roots k).getD k 0+4+j)))):=fun W j q hj=>(hW.later (BW.out W q)) _ (by rw [HLN.out];omega)
     have CA:Hid (∀ (W:World),Below (w.heap.size+2) W0 W->W.cell? ⟨b,o+(tr h.words h.roots k).getD k 0,none⟩=some (.int .i64 (m:Int))):=fun W q=>by rw [<- hme];exact (hW.later (BW.out W q)) _ (by rw [HLN.out];omega)
     have ND:Hid (ndOf h.words (ordF h.words h.roots) ((tr h.words h.roots k).getD k 0)=⟨gw h.words ((tr h.words h.roots k).getD k 0+1),gw h.words ((tr h.words h.roots k).getD k 0+2),(flds h.words ((tr h.words h.roots k).getD k 0)).map (ren (ordF h.words h.roots))⟩/\tr h.words h.roots (k+1)=fol (tr h.words h.roots k) (flds h.words ((tr h.words h.roots k).getD k 0)) ∧
      ((ordF h.words h.roots).take (k+1)).map (ndOf h.words (ordF h.words h.roots))=((ordF h.words h.roots).take k).map (ndOf h.words (ordF h.words h.roots)) ++ [ndOf h.words (ordF h.words h.roots) ((tr h.words h.roots k).getD k 0)]):=by
      refine ⟨rfl,tr_next _ _ _ hkl,?_⟩
      have e:=pre_get (tr_ord (W:=h.words) (R:=h.roots) (k:=k) (by omega)) hkl
      have hlo:k<(ordF h.words h.roots).length:=Nat.lt_of_lt_of_le hkl (tr_ord (W:=h.words) (R:=h.roots) (k:=k) (by omega)).length_le
      rw [ltake_snoc _ _ hlo,e]
      simp
     have HK1:Hid (k+1<=(tr h.words h.roots (k+1)).length/\k+1<=3200):=⟨Nat.le_trans hkl (tr_pre1 h.words h.roots k).length_le,by omega⟩
     clear q3 q4 hme hnx haL hoc
     generalize (tr h.words h.roots k).getD k 0=a at *
     generalize gw h.words (a+1)=x1 at *
     generalize gw h.words (a+2)=x2 at *
     have hki:(k:Int)<(tr h.words h.roots k).length:=by omega
     have l0:=World.block_lt_of_cell? _ _ c0
     have lb:=World.block_lt_of_cell? _ _ ca0
     have ai0:(a:Int)<3200:=by omega
     have ai1:(a:Int)+1<3200:=by omega
     have ai2:(a:Int)+2<3200:=by omega
     go_wp2
     go_region
     go_wp2
     have S3:=S.node x1 x2
     have E3:=EX.keep (S:=fun _=>False) (Grew.new (bel_one _ (.cells #[.int .i64 x1,.int .i64 x2,.slice none 0 0] 73)) _).drew (fun b q=>q.elim) (fun b q=>q.elim)
     clear EX
     clear S c0 c1 c2 c3 c4 c5 c6 c7 ca0 ca1 ca2 co BWr hWr
     generalize wr.heap.size=bn at *
     go_loopw [4,11] (fun ovv kv wr2=>∃ (j:Nat) (ov fv:Value),j<=m/\kv=.int .i64 ((a+4+j:Nat):Int)/\ov=ovv/\Sh3 w.heap.size W0 wr2 h.hash (fol (tr h.words h.roots k) ((flds h.words a).take j)) (h.roots.map (ren (ordF h.words h.roots))) (((ordF h.words h.roots).take k).map (ndOf h.words (ordF h.words h.roots))) ov rv nv K bn x1 x2 (((flds h.words a).take j).map (ren (ordF h.words h.roots))) fv/\Ex2 w.heap.size wr2 (h.roots.map (ren (ordF h.words h.roots))) (((ordF h.words h.roots).take k).map (ndOf h.words (ordF h.words h.roots))) rv nv K) (fun _ kv _=>a+4+m - (intOf kv).toNat)
     case atStart=>exact ⟨0,_,_,Nat.zero_le _,by go_num,rfl,S3,E3⟩
     case round =>
      clear S3 E3
      obtain ⟨j,ov,fv,hj,rfl,rfl,S,EX⟩:=hrel
      obtain ⟨c0,c1,c2,c3,c4,c5,c6,c7⟩:=BX.out wr S.s.bel
      have ca0:=CA.out wr S.s.bel
      by_cases hjm:j<m
      ·have cj:=CW.out wr j S.s.bel hjm
       obtain ⟨t1,t2,t3,t4,t5⟩:=FS.out j hjm
       have TO:=l6Told_any (w.heap.size+2) 3200 (w.heap.size+3) ov _ (gw h.words (a+4+j)) wr S.s.num S.s.ord (fun e=>by have:=(S.s.ord.lt _ e).1;omega) (by have:=S.s.sz;omega) t1 t2
       have T3:Hid (_/\_/\_):=⟨t3,t4,t5⟩
       clear t1 t2 t3 t4 t5
       generalize ren (ordF h.words h.roots) (gw h.words (a+4+j))=y at *
       generalize gw h.words (a+4+j)=x at *
       have aj:(a:Int)+4+j<3200:=by omega
       go_wp2_with fail
       refine TO.mono ?_
       rintro e w1 ⟨ov1,rfl,r1,o1,n1,l1,g1⟩
       rw [T3.out.1] at r1 o1
       rw [T3.out.2.1]
       have S1:=S.told r1 o1 l1 g1
       have E1:=S.s.exTold EX g1
       have cg:w1.cell? ⟨bn,2,none⟩=some fv:=S1.nb.cell (i:=2) (by omega)
       have al:=bel_one w1 (.cells #[.int .i64 y] 2)
       have rt2:=own_later S1.fo al
       have cg2:=cell_later al cg
       have hc:∀ W:World,(W.alloc (.cells #[.int .i64 y] 2)).cell? ⟨W.heap.size,0,none⟩=some (.int .i64 y):=fun W=>by simp
       have s1:=S1.s.sz
       have LEN:(((flds h.words a).take j).map (ren (ordF h.words h.roots))).length=j:=by rw [List.length_map,List.length_take,FA.out];omega
       rw [LEN] at rt2
       have RT:Hid (∀ w4 fo fc,w4.ownsRow (w.heap.size+5) 2 1 (.slice fo (j+1) fc) (j+1) (icells (((flds h.words a).take j).map (ren (ordF h.words h.roots))) ++ [.int .i64 y])->(w1.alloc (.cells #[.int .i64 y] 2)).grownBy w4 fv.ownBlock →
        (Value.ownBlock (.slice fo (j+1) fc)=fv.ownBlock ∨ Value.ownBlock (.slice fo (j+1) fc)=some (w1.alloc (.cells #[.int .i64 y] 2)).heap.size)->Sh3 w.heap.size W0 (w4.setCell ⟨bn,2,none⟩ (.slice fo (j+1) fc)) h.hash (fol (tr h.words h.roots k) ((flds h.words a).take (j+1))) (h.roots.map (ren (ordF h.words h.roots))) (((ordF h.words h.roots).take k).map (ndOf h.words (ordF h.words h.roots))) ov1 rv nv K bn x1 x2 (((flds h.words a).take (j+1)).map (ren (ordF h.words h.roots))) (.slice fo (j+1) fc)/\Ex2 w.heap.size (w4.setCell ⟨bn,2,none⟩ (.slice fo (j+1) fc)) (h.roots.map (ren (ordF h.words h.roots))) (((ordF h.words h.roots).take k).map (ndOf h.words (ordF h.words h.roots))) rv nv K):=fun w4 fo fc q1 q2 q3=>by
        rw [T3.out.2.2]
        exact ⟨S1.field al (by rw [LEN];exact q1) q2 q3,S1.exField E1 al q2 _⟩
       have GF:Hid (∀ w4,(w1.alloc (.cells #[.int .i64 y] 2)).grownBy w4 fv.ownBlock->w4.frozen? ⟨bn,2,none⟩=false/\w4.cell? ⟨bn,2,none⟩=some fv):=fun w4 q=>by
        have R:=(Grew.grown q).row ((Grew.new al (fun _=>False)).row S1.nb (fun q=>q)) S1.bnk.2.2.2
        exact ⟨R.frozen 2,R.cell (i:=2) (by omega)⟩
       clear r1 o1 n1 l1 g1 S LEN TO EX E1
       go_wp2_with (at_builtin;refine app_at _ rfl _ _ rfl (w.heap.size+5) _ j (icells (((flds h.words a).take j).map (ren (ordF h.words h.roots)))) rfl rt2 _ 1 y rfl (hc _) (by omega) (Nat.le_trans s1 (by simp)) ?_;intro v4 w4 hown4 hg4 hloc;(obtain ⟨fo,fc,hv4⟩:=own_shape hown4);subst hv4;have hg5:(w1.alloc (.cells #[.int .i64 y] 2)).grownBy w4 fv.ownBlock:=hg4;have SF:=RT.out w4 fo fc hown4 hg5 hloc;(obtain ⟨fz,cz⟩:=GF.out w4 hg5))
       exact ⟨⟨j+1,ov1,_,by omega,by go_num,rfl,SF.1,SF.2⟩,by simp [intOf];omega⟩
      ·obtain rfl:j=m:=by omega
       have TA:(flds h.words a).take j=flds h.words a:=List.take_of_length_le (by rw [FA.out];exact Nat.le_refl _)
       rw [TA,← ND.out.2.1] at S
       obtain ⟨fa,fc,hfv⟩:=own_shape S.fo
       obtain ⟨xs,fw,no,nt,nf⟩:=S.s.nd
       have NO:Hid (wr.ownsRow (w.heap.size+5) 73 3 nv (((ordF h.words h.roots).take k).map (ndOf h.words (ordF h.words h.roots))).length xs):=no
       have fl20:(((ordF h.words h.roots).take k).map (ndOf h.words (ordF h.words h.roots))).length<=3200:=by simp;omega
       generalize hnl:(((ordF h.words h.roots).take k).map (ndOf h.words (ordF h.words h.roots))).length=nl at no fl20
       obtain ⟨na,nc,hnv⟩:=own_shape no
       subst hfv hnv
       generalize ((flds h.words a).map (ren (ordF h.words h.roots))).length=fn at *
       have n0:wr.cell? ⟨bn,0,none⟩=some (.int .i64 x1):=S.nb.cell (i:=0) (by omega)
       have n1:wr.cell? ⟨bn,1,none⟩=some (.int .i64 x2):=S.nb.cell (i:=1) (by omega)
       have n2:wr.cell? ⟨bn,2,none⟩=some (.slice fa fn fc):=S.nb.cell (i:=2) (by omega)
       have cg:wr.cell? ⟨w.heap.size+2+1+1,1,none⟩=some (.slice na nl nc):=S.s.g.cell (i:=1) (by omega)
       have al:=bel_one wr (.cells #[.int .i64 x1,.int .i64 x2,.slice fa fn fc] 73)
       have no2:=own_later no al
       have cg2:=cell_later al cg
       have hc:∀ W:World,(W.alloc (.cells #[.int .i64 x1,.int .i64 x2,.slice fa fn fc] 73)).cell? ⟨W.heap.size,0,none⟩=some (.int .i64 x1)/\(W.alloc (.cells #[.int .i64 x1,.int .i64 x2,.slice fa fn fc] 73)).cell? ⟨W.heap.size,1,none⟩=some (.int .i64 x2)/\(W.alloc (.cells #[.int .i64 x1,.int .i64 x2,.slice fa fn fc] 73)).cell? ⟨W.heap.size,2,none⟩=some (.slice fa fn fc):=fun W=>⟨by simp,by simp,by simp⟩
       have s1:=S.s.sz
       have RT:Hid (∀ w4 fo fc',w4.ownsRow (w.heap.size+5) 73 3 (.slice fo (nl+1) fc') (nl+1) (xs ++ [.int .i64 x1,.int .i64 x2,.slice fa fn fc])->(wr.alloc (.cells #[.int .i64 x1,.int .i64 x2,.slice fa fn fc] 73)).grownBy w4 (Value.ownBlock (.slice na nl nc)) →
        (Value.ownBlock (.slice fo (nl+1) fc')=Value.ownBlock (.slice na nl nc) ∨ Value.ownBlock (.slice fo (nl+1) fc')=some (wr.alloc (.cells #[.int .i64 x1,.int .i64 x2,.slice fa fn fc] 73)).heap.size)->Sh2 w.heap.size W0 (w4.setCell ⟨w.heap.size+2+1+1,1,none⟩ (.slice fo (nl+1) fc')) h.hash (tr h.words h.roots (k+1)) (h.roots.map (ren (ordF h.words h.roots))) (((ordF h.words h.roots).take (k+1)).map (ndOf h.words (ordF h.words h.roots))) ov rv (.slice fo (nl+1) fc') (fun b=>K b ∨ Value.ownBlock (.slice fa fn fc)=some b)/\Ex2 w.heap.size (w4.setCell ⟨w.heap.size+2+1+1,1,none⟩ (.slice fo (nl+1) fc')) (h.roots.map (ren (ordF h.words h.roots))) (((ordF h.words h.roots).take (k+1)).map (ndOf h.words (ordF h.words h.roots))) rv (.slice fo (nl+1) fc') (fun b=>K b ∨ Value.ownBlock (.slice fa fn fc)=some b)):=fun w4 fo fc' q1 q2 q3=>by
        rw [ND.out.2.2,ND.out.1]
        exact ⟨S.done al nt nf (by rw [hnl];exact q1) q2 q3,S.exDone EX al nt NO.out (by rw [hnl];exact q1) q2⟩
       have GF:Hid (∀ w4,(wr.alloc (.cells #[.int .i64 x1,.int .i64 x2,.slice fa fn fc] 73)).grownBy w4 (Value.ownBlock (.slice na nl nc))->w4.frozen? ⟨w.heap.size+2+1+1,1,none⟩=false/\w4.cell? ⟨w.heap.size+2+1+1,1,none⟩=some (.slice na nl nc)):=fun w4 q=>by
        have R:=(Grew.grown q).row ((Grew.new al (fun _=>False)).row S.s.g (fun q=>q)) (fun e=>by have:=(S.s.ndb _ e).1;omega)
        exact ⟨R.frozen 1,R.cell (i:=1) (by omega)⟩
       have HNL:Hid ((((ordF h.words h.roots).take k).map (ndOf h.words (ordF h.words h.roots))).length=nl):=hnl
       have HK:=HK1.out
       clear hnl TA FS EX
       go_wp2_with (at_builtin;refine app_node _ rfl _ _ rfl (w.heap.size+5) _ nl xs rfl no2 _ 1 x1 x2 fa fn fc rfl (hc _) (by omega) (Nat.le_trans s1 (by simp)) ?_;intro v4 w4 hown4 hg4 hloc;(obtain ⟨fo,fc',hv4⟩:=own_shape hown4);subst hv4;have hg5:(wr.alloc (.cells #[.int .i64 x1,.int .i64 x2,.slice fa fn fc] 73)).grownBy w4 (Value.ownBlock (.slice na nl nc)):=hg4;have SF:=RT.out w4 fo fc' hown4 hg5 hloc;(obtain ⟨fz,cz⟩:=GF.out w4 hg5))
       exact ⟨⟨k+1,ov,_,_,HK.1,HK.2,by go_num,rfl,SF.1,SF.2⟩,by simp [intOf];omega⟩
    ·have hke:(tr h.words h.roots k).length=k:=by omega
     have FE:Hid (ordF h.words h.roots=tr h.words h.roots k):=tr_end hk2 (by omega)
     have RR:=RS.out wr S.bel
     obtain ⟨na,nc,hnv⟩:=NR.shape S.nd.nr
     obtain ⟨ra2,rc2,hrv⟩:=IR.shape S.rt.1
     subst hnv hrv
     have g0:wr.cell? ⟨w.heap.size+2+1+1,0,none⟩=some (.slice ra2 (h.roots.map (ren (ordF h.words h.roots))).length rc2):=S.g.cell (i:=0) (by omega)
     have g1:wr.cell? ⟨w.heap.size+2+1+1,1,none⟩=some (.slice na (((ordF h.words h.roots).take k).map (ndOf h.words (ordF h.words h.roots))).length nc):=S.g.cell (i:=1) (by omega)
     have TK:Hid ((ordF h.words h.roots).take k=ordF h.words h.roots):=List.take_of_length_le (by rw [FE.out];omega)
     rw [TK.out] at S g1 EX
     have RD:Hid (∀ W,Grew wr W (fun q=>q=w.heap.size+1)->GN w.heap.size W (.agg #[.slice ra2 (h.roots.map (ren (ordF h.words h.roots))).length rc2,.slice na ((ordF h.words h.roots).map (ndOf h.words (ordF h.words h.roots))).length nc,.int .i64 h.hash]) (shP h)/\Below w.heap.size w W):=fun W q=>by
      have hs:=S.sz
      have e1:=EX.keep q (fun b e k=>by have:=(S.kk b k).1;omega) (fun b e k=>by have:=(S.ndb b k).1;omega)
      exact ⟨e1.gn (by omega) h.hash,(BW.out wr S.bel).trans (q.below (by omega) fun b _ e=>by omega)⟩
     have RO:Hid (∀ u0 u1,GN w.heap.size (((wr.setCell ⟨w.heap.size+1,0,none⟩ u0).setCell ⟨w.heap.size+1,1,none⟩ u1).setCell ⟨w.heap.size+1,2,none⟩ (.int .i64 h.hash)) (.agg #[.slice ra2 (h.roots.map (ren (ordF h.words h.roots))).length rc2,.slice na ((ordF h.words h.roots).map (ndOf h.words (ordF h.words h.roots))).length nc,.int .i64 h.hash]) (shP h)/\Below w.heap.size w (((wr.setCell ⟨w.heap.size+1,0,none⟩ u0).setCell ⟨w.heap.size+1,1,none⟩ u1).setCell ⟨w.heap.size+1,2,none⟩ (.int .i64 h.hash))):=fun u0 u1=>RD.out _ (gr_store RR).2
     generalize (h.roots.map (ren (ordF h.words h.roots))).length=n1 at *
     generalize ((ordF h.words h.roots).map (ndOf h.words (ordF h.words h.roots))).length=n2 at *
     have RW:=(gr_store (u0:=.slice ra2 n1 rc2) (u1:=.slice na n2 nc) (h2:=h.hash) RR).1
     have e0:=RW.cell (i:=0) (by omega)
     have e1:=RW.cell (i:=1) (by omega)
     have e2:=RW.cell (i:=2) (by omega)
     have g2:wr.cell? ⟨w.heap.size+2+1+1,2,none⟩=some (.int .i64 h.hash):=S.g.cell (i:=2) (by omega)
     have r0:wr.cell? ⟨w.heap.size+1,0,none⟩=some (.slice none 0 0):=RR.cell (i:=0) (by omega)
     have r1:wr.cell? ⟨w.heap.size+1,1,none⟩=some (.slice none 0 0):=RR.cell (i:=1) (by omega)
     have r2:wr.cell? ⟨w.heap.size+1,2,none⟩=some (.int .i64 0):=RR.cell (i:=2) (by omega)
     have f0:=RR.frozen 0
     have f1:=RR.frozen 1
     have f2:=RR.frozen 2
     obtain ⟨fin,bfin⟩:=RO.out (.slice ra2 n1 rc2) (.slice na n2 nc)
     clear hkl RD RO S EX
     go_wp2
     exact bodyPost_ret (v:=.agg #[.slice ra2 n1 rc2,.slice na n2 nc,.int .i64 h.hash]) (by simp [results,Tryz.results44,go_sem,r0,r1,r2]) rfl ⟨⟨_,rfl,fin⟩,bfin⟩
theorem l6Shape_any (v:Value) (h:Hp) (l:List Nat) (w:World) (hv:HR w v h) (hr:RightAt h l) :
  Calls Tryz.prog 44 #[v] w fun x w'=>(∃ v',x=.returned v' /\ GRn w.heap.size w' v' (shP h))/\Below w.heap.size w w' :=
 (l6Shape_own v h l w hv hr).mono fun _ _ ⟨⟨v',e,g⟩,b⟩=>⟨⟨v',e,g.grn⟩,b⟩
end Go.Proofs.YtgnbibinclepcaaGreatDoor
