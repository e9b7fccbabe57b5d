import Derived.Test.YtgnbibinclepcaaGreatDoorZP24
import Derived.Test.YtgnbibinclepcaaGreatDoorZP8
namespace Go.Proofs.YtgnbibinclepcaaGreatDoor
open Go.RowKit
theorem fieldsAt_atT (b o cap:Nat) (W:List Int) (a m:Nat) (w:World) (hW:WS w b o W) (hl:W.length=3200) (hc:3200<=cap) (ha:a+4<=3200) (hm:gw W a=(m:Int)) (m60:m<=60) (hn:nx W a<=3200) :
  Calls Tryz.prog 49 #[.slice (some ⟨b,o,none⟩) 3200 cap,.int .i64 a] w fun e w'=>(∃ q c,e=.returned (.slice (some ⟨b,q,none⟩) m c)/\IR w (.slice (some ⟨b,q,none⟩) m c) (flds W a))/\w' = w:=by
 have B:=behind_any b o cap W a w hW hl ha (by omega)
 have hn' : nx W a=a+4+m:=by unfold nx;rw [hm];rfl
 rw [hn'] at B hn
 have F:Hid (∀ c q,m<=c->(m=0 ∨ q=o+(a+4))->IR w (.slice (some ⟨b,q,none⟩) m c) (flds W a)):=fun c q hc hq=>by
  have e:(flds W a).length=m:=by rw [flds_length,hm];rfl
  refine ⟨_,c,by rw [e],by rw [e];exact hc,fun i hi=>⟨b,q,rfl,?_⟩⟩
  rw [e] at hi
  obtain rfl:=hq.resolve_left (by omega)
  have:=hW (a+4+i) (by omega)
  rw [show o+(a+4)+i=o+(a+4+i) from by omega,this]
  simp [flds,hm,hi]
 clear hm hW hl hn'
 go_enter Tryz.func49,Tryz.ntmps49
 go_wp2_with fail
 refine B.mono ?_
 rintro x w1 ⟨rfl,rfl⟩
 go_wp2
 ·have h0:m=0:=by omega
  go_ret
  exact ⟨⟨_,_,rfl,F.out _ _ (by omega) (.inl h0)⟩,rfl⟩
 ·go_ret
  exact ⟨⟨_,_,rfl,F.out _ _ (by omega) (.inr rfl)⟩,rfl⟩
def TourOut (h:Hp) (w:World) (e:Ending) (w' : World):Prop :=
 ∃ ov M n,e=.returned (.agg #[ov,.map (some M)])/\w'.ownsRow w.heap.size 2 1 ov (ordF h.words h.roots).length (icells (ints (ordF h.words h.roots)))/\MP w' M n (numF (ordF h.words h.roots))/\w.heap.size<=M/\ov.ownBlock ≠ some M/\Below w.heap.size w w'
theorem tourC (w:World) (ov:Value) (M:Nat) (t:TypeId):(w.alloc (.cells #[ov,.map (some M)] t)).rowIs w.heap.size t 2 (fun i=>if i=0 then ov else .map (some M)) :=
 World.rowIs_alloc w #[ov,.map (some M)] t _ (fun i hi=>by
  match i,hi with
  | 0,_=>rfl
  | 1,_=>rfl)
theorem tour_need {h:Hp} {l:List Nat} (r:RightAt h l) {k:Nat} (hk:k<(tr h.words h.roots k).length) (hk3:k<3200) (j:Nat):(fol (tr h.words h.roots k) ((flds h.words ((tr h.words h.roots k).getD k 0)).take j)).length<=100000:=by
 have h1:=fol_take_pre (tr h.words h.roots k) (flds h.words ((tr h.words h.roots k).getD k 0)) j
 rw [<- tr_next _ _ _ hk] at h1
 have:=(h1.trans (tr_ord (k:=k+1) (by omega))).length_le
 have:=ord_len r
 omega
set_option maxRecDepth 100000 in
set_option maxHeartbeats 3200000 in
theorem tourOf_any (v:Value) (h:Hp) (l:List Nat) (w:World) (hv:HR w v h) (hr:RightAt h l) :
  Calls Tryz.prog 46 #[v] w fun e w'=>TourOut h w e w':=by
 obtain ⟨v1,v2,v3,rfl,i1,i2,i3⟩:=hv
 have hlen:=hr.1.1
 obtain ⟨b,o,cap,rfl,hcap,hW⟩:=i1.ws (by omega)
 obtain ⟨ra,rc,rfl⟩:=IR.shape i2
 have hrl:h.roots.length<=20:=hr.2.2.2.2.2.1
 rw [hlen] at hcap ⊢
 have hlt:b<w.heap.size:=World.block_lt_of_cell? _ _ (hW 0 (by omega))
 have HLN:Hid (h.words.length=3200):=hlen
 have X0:=(Bx.new w (.slice (some ⟨b,o,none⟩) 3200 cap) (.slice ra h.roots.length rc) v3 h 26).later (bel_one _ (.cells #[.slice none 0 0,.map none] 76))
 have RS0:=row_any (w.alloc (.cells #[.slice (some ⟨b,o,none⟩) 3200 cap,.slice ra h.roots.length rc,.int .i64 h.old,.int .i64 h.eden,.int .i64 h.surv,.bool h.flip,.int .i64 h.hash,v3] 26)) #[.slice none 0 0,.map none] 76
 rw [World.size_alloc] at RS0
 generalize hW0:(w.alloc (.cells #[.slice (some ⟨b,o,none⟩) 3200 cap,.slice ra h.roots.length rc,.int .i64 h.old,.int .i64 h.eden,.int .i64 h.surv,.bool h.flip,.int .i64 h.hash,v3] 26)).alloc (.cells #[.slice none 0 0,.map none] 76)=W0 at X0 RS0
 have Z0:W0.heap.size=w.heap.size+2:=by rw [<- hW0];simp
 have B0:Below w.heap.size w W0:=by rw [<- hW0];exact bel_after (bel_one _ _) (bel_one _ _)
 have hmm:=@run_makeMap Tryz.prog
 have BX:Hid (∀ W,Below (w.heap.size+2) W0 W->Bx W w.heap.size (.slice (some ⟨b,o,none⟩) 3200 cap) (.slice ra h.roots.length rc) v3 h):=fun W q=>X0.below (q.mono (by omega))
 have BW:Hid (∀ W,Below (w.heap.size+2) W0 W->Below w.heap.size w W):=fun W q=>B0.trans (q.mono (by omega))
 have T0:Tour (w.heap.size+2) ((W0.alloc (.map #[] 0)).alloc (.cells #[.slice none 0 0,.map (some (w.heap.size+2))] 76)) (w.heap.size+2+1) (w.heap.size+2) 0 [] (.slice none 0 0):=by
  have t:=tourC (W0.alloc (.map #[] 0)) (.slice none 0 0) (w.heap.size+2) 76
  rw [World.size_alloc,Z0] at t
  have m:=MP.made W0
  rw [Z0] at m
  refine ⟨t,World.ownsRow_nil _ _ _ _,?_,⟨by omega,by omega,by omega⟩,by simp [Value.ownBlock],by simp [Value.ownBlock]⟩
  rw [numF_nil]
  exact m.later (bel_one _ _)
 have B2:Below (w.heap.size+2) W0 ((W0.alloc (.map #[] 0)).alloc (.cells #[.slice none 0 0,.map (some (w.heap.size+2))] 76)):=by
  have q:=bel_after (bel_one W0 (.map #[] 0)) (bel_one (W0.alloc (.map #[] 0)) (.cells #[.slice none 0 0,.map (some (w.heap.size+2))] 76))
  rwa [Z0] at q
 have vlt:Hid (∀ q,inB (.slice ra h.roots.length rc) q->q<w.heap.size):=fun q k=>i2.inlt k
 have s2:w.heap.size+2<=((W0.alloc (.map #[] 0)).alloc (.cells #[.slice none 0 0,.map (some (w.heap.size+2))] 76)).heap.size:=by simp;omega
 have FO:=follow_any (w.heap.size+2) (w.heap.size+2+1) (w.heap.size+2) 0 [] (.slice none 0 0) (.slice ra h.roots.length rc) h.roots _ T0 (i2.later (BW.out _ B2)) (fun q k=>by have:=vlt.out q k;exact ⟨by omega,by omega,by simp [Value.ownBlock]⟩) s2 (by omega)
  (fun j=>by have:=((fol_take_pre [] h.roots j).trans (tr_ord (W:=h.words) (R:=h.roots) (k:=0) (by omega))).length_le;have:=ord_len hr;omega) (by omega)
 obtain ⟨c0,c1,c2,c3,c4,c5,c6,c7⟩:=BX.out _ B2
 clear i1 i2 i3 hlen
 go_enter Tryz.func46,Tryz.ntmps46
 go_wp2_with fail
 refine FO.mono ?_
 rintro e w1 ⟨rfl,ov1,n1,t1,hn1,l1,g1⟩
 have B3:Below (w.heap.size+2) W0 w1:=B2.trans (g1.below s2 fun q _ k=>by
  rcases k with k|k|k
  ·omega
  ·omega
  ·simp [Value.ownBlock] at k)
 clear c0 c1 c2 c3 c4 c5 c6 c7 FO T0 hmm
 go_wp2
 go_loopw [4] (fun iv wr=>∃ (k n:Nat) (ov:Value),k<=(tr h.words h.roots k).length/\k<=3200/\iv=.int .i64 k/\Tour (w.heap.size+2) wr (w.heap.size+2+1) (w.heap.size+2) n (tr h.words h.roots k) ov/\n<=20+60 * k/\Below (w.heap.size+2) W0 wr) (fun iv _=>3200 - (intOf iv).toNat)
 case atStart=>exact ⟨0,n1,ov1,Nat.zero_le _,Nat.zero_le _,rfl,t1,by omega,B3⟩
 case round =>
  obtain ⟨k,n,ov,hk1,hk2,rfl,ht,hn,hb⟩:=hrel
  obtain ⟨c0,c1,c2,c3,c4,c5,c6,c7⟩:=BX.out wr hb
  have hWr:=hW.later (BW.out wr hb)
  obtain ⟨oa,oc,hov,hoc⟩:=intsI (IR_of_owns' ht.ob)
  subst hov
  have h3:=tr_len hr k
  have t0:wr.cell? ⟨w.heap.size+2+1,0,none⟩=some (.slice oa (tr h.words h.roots k).length oc):=ht.bx.cell (i:=0) (by omega)
  by_cases hkl:k<(tr h.words h.roots k).length
  ·obtain ⟨ob,oo,rfl,co⟩:=hoc k hkl
   have haL:(tr h.words h.roots k).getD k 0 ∈ l:=tr_sub hr k (lget_mem _ _ hkl)
   obtain ⟨q1,q2,q3⟩:=hr.1.obj haL
   have q4:=size_of q3
   obtain ⟨m,hme⟩:=Int.eq_ofNat_of_zero_le q4.1
   have NX:Hid (tr h.words h.roots (k+1)=fol (tr h.words h.roots k) (flds h.words ((tr h.words h.roots k).getD k 0))/\k+1<=(tr h.words h.roots (k+1)).length):=⟨tr_next _ _ _ hkl,Nat.le_trans hkl (tr_pre1 h.words h.roots k).length_le⟩
   have TN:Hid (∀ j,_):=tour_need hr hkl (by omega)
   have FA:=fun W (q:Below (w.heap.size+2) W0 W)=>fieldsAt_atT b o cap h.words ((tr h.words h.roots k).getD k 0) m W (hW.later (BW.out W q)) HLN.out hcap q1 hme (by omega) q2
   have FL:Hid ((flds h.words ((tr h.words h.roots k).getD k 0)).length=m):=(by rw [flds_length,hme];rfl:(flds h.words ((tr h.words h.roots k).getD k 0)).length=m)
   have m60:m<=60:=by omega
   clear q3 q4 hme haL hoc hWr q2
   generalize (tr h.words h.roots k).getD k 0=a at *
   have hki:(k:Int)<(tr h.words h.roots k).length:=by omega
   have hbs:=Nat.le_trans (by omega:w.heap.size+2<=W0.heap.size) hb.size
   have hbd:Below (w.heap.size+2) W0 wr.drew:=hb.drew
   have htd:Tour (w.heap.size+2) wr.drew (w.heap.size+2+1) (w.heap.size+2) n (tr h.words h.roots k) (.slice (some ⟨ob,oo,none⟩) (tr h.words h.roots k).length oc):=ht.grew (S:=fun _=>False) (Grew.refl wr _).drew (fun _ q=>q.elim)
   have olo:∀ q,Value.ownBlock (.slice (some ⟨ob,oo,none⟩) (tr h.words h.roots k).length oc)=some q->w.heap.size+2<=q:=fun q e=>(ht.ob.lt q e).1
   have FO:=fun q c (hi:IR wr.drew (.slice (some ⟨b,q,none⟩) m c) (flds h.words a))=>follow_any (w.heap.size+2) (w.heap.size+2+1) (w.heap.size+2) n (tr h.words h.roots k) _ _ (flds h.words a) wr.drew htd hi (fun b' e=>by
    obtain ⟨_,_,_,e,_⟩:=e
    injection e with e1
    injection e1 with e1
    injection e1 with e1
    subst e1
    exact ⟨by omega,by omega,fun k=>by have:=olo _ k;omega⟩) hbs (by rw [FL.out];omega) TN.out (by omega)
   have FAd:=FA _ hbd
   clear FA htd
   go_wp2_with fail
   go_region_with (first
    | (go_at_call 49;refine FAd.mono ?_;rintro e w' ⟨⟨q,c,rfl,hir⟩,hw'⟩;obtain rfl:=hw'.symm)
    | (go_at_call 95;refine (FO _ _ hir).mono ?_;rintro e w2 ⟨rfl,ov2,n2,t2,hn2,l2,g2⟩))
   all_goals go_wp2
   all_goals
    have g2b:Below (w.heap.size+2) wr.drew w2:=g2.below hbs fun q _ e=>by
     rcases e with e|e|e
     ·omega
     ·omega
     ·exact olo q e
    rw [FL.out] at hn2
    exact ⟨⟨k+1,n2,ov2,NX.out.2,by omega,by go_num,by rw [NX.out.1];exact t2,by omega,hbd.trans g2b⟩,by simp [intOf];omega⟩
  ·have FE:Hid (ordF h.words h.roots=tr h.words h.roots k):=tr_end hk2 (by omega)
   have t1:wr.cell? ⟨w.heap.size+2+1,1,none⟩=some (.map (some (w.heap.size+2))):=ht.bx.cell (i:=1) (by omega)
   have RR:wr.rowIs (w.heap.size+1) 76 2 (fun i=>#[.slice none 0 0,.map none][i]?.getD undef):=RS0.of_block (hb.block _ (by omega))
   have r0:wr.cell? ⟨w.heap.size+1,0,none⟩=some (.slice none 0 0):=RR.cell (i:=0) (by omega)
   have r1:wr.cell? ⟨w.heap.size+1,1,none⟩=some (.map none):=RR.cell (i:=1) (by omega)
   have f0:=RR.frozen 0
   have f1:=RR.frozen 1
   have G:Grew wr ((wr.setCell ⟨w.heap.size+1,0,none⟩ (.slice oa (tr h.words h.roots k).length oc)).setCell ⟨w.heap.size+1,1,none⟩ (.map (some (w.heap.size+2)))) (fun q=>q=w.heap.size+1):=(Grew.set _ _ _ _).trans (Grew.set _ _ _ _)
   have hbs:=Nat.le_trans (by omega:w.heap.size+2<=W0.heap.size) hb.size
   have FIN:Hid (TourOut h w (.returned (.agg #[.slice oa (tr h.words h.roots k).length oc,.map (some (w.heap.size+2))])) ((wr.setCell ⟨w.heap.size+1,0,none⟩ (.slice oa (tr h.words h.roots k).length oc)).setCell ⟨w.heap.size+1,1,none⟩ (.map (some (w.heap.size+2))))):=by
    refine ⟨_,_,n,rfl,?_,?_,by omega,ht.ap.2,(BW.out wr hb).trans (G.below (by omega) fun q _ e=>by omega)⟩
    ·rw [FE.out]
     exact own_mono (G.own ht.ob (fun q e k=>by have:=(ht.ob.lt q e).1;omega)) (by omega)
    ·rw [FE.out]
     exact G.mp ht.mp (by omega)
   clear G ht hb
   go_wp2
   exact bodyPost_ret (v:=.agg #[.slice oa (tr h.words h.roots k).length oc,.map (some (w.heap.size+2))]) (by simp [results,Tryz.results46,go_sem,r0,r1]) rfl FIN.out
end Go.Proofs.YtgnbibinclepcaaGreatDoor
