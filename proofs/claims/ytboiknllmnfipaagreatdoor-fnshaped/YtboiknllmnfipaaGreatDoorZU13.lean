
import Derived.Test.YtboiknllmnfipaaGreatDoorZGShS
import Derived.Test.YtboiknllmnfipaaGreatDoorZU12
import Derived.Test.YtboiknllmnfipaaGreatDoorZU8
/- Reached of the model and of the program. -/
namespace Go.Proofs.YtboiknllmnfipaaGreatDoor
open Go.RowKit
def rsum (W:List Int) (l:List Nat):Int:=(l.map fun a=>(nx W a:Int) - a).sum
theorem Zd (W:List Int) (l:List Nat) (k:Nat) (h:k<l.length):rsum W (l.take (k+1))=rsum W (l.take k)+((nx W (l.getD k 0):Int) - (l.getD k 0:Nat)):=by
 unfold rsum
 rw [Q6 l k h,List.map_append,List.sum_append]
 simp
theorem Wu {W:List Int} {l:List Nat} (h:∀ a,a ∈ l->nx W a<=a+64):0<=rsum W l/\rsum W l<=64 * l.length:=by
 induction l with
 | nil=>simp [rsum]
 | cons a l ih =>
  obtain ⟨h1,h2⟩:=ih fun b hb=>h b (by simp [hb])
  have h3:=h a (by simp)
  have h4:a<=nx W a:=by unfold nx;omega
  have e:rsum W (a::l)=((nx W a:Int) - a)+rsum W l:=by simp [rsum]
  rw [e,List.length_cons]
  omega
theorem Jeg (h:Hp):reC h=if okC h=true then rsum h.words (C8 h.words h.roots) else -1:=rfl
theorem Xe {h:Hp} {l:List Nat} (r:RightAt h l) {k:Nat} (hk:k<(C8 h.words h.roots).length) :
  ∃ m:Nat,m<=60/\gw h.words ((C8 h.words h.roots).getD k 0)=(m:Int)/\(C8 h.words h.roots).getD k 0+4+m<=3200/\nx h.words ((C8 h.words h.roots).getD k 0)=(C8 h.words h.roots).getD k 0+4+m ∧
   rsum h.words ((C8 h.words h.roots).take (k+1))=rsum h.words ((C8 h.words h.roots).take k)+(4+m):=by
 obtain ⟨q1,q2,q3⟩:=r.1.obj (Sb r (Pj _ _ hk))
 have q4:=L6 q3
 obtain ⟨m,hm⟩:=Int.eq_ofNat_of_zero_le q4.1
 have hn:nx h.words ((C8 h.words h.roots).getD k 0)=(C8 h.words h.roots).getD k 0+4+m:=by unfold nx;rw [hm];rfl
 rw [hn] at q2
 refine ⟨m,by omega,hm,q2,hn,?_⟩
 rw [Zd _ _ _ hk,hn]
 omega
theorem Jbx {h:Hp} {l:List Nat} (r:RightAt h l) (k:Nat):0<=rsum h.words ((C8 h.words h.roots).take k)/\rsum h.words ((C8 h.words h.roots).take k)<=204800:=by
 have h3:=O7 r
 obtain ⟨h1,h2⟩:=Wu (W:=h.words) (l:=(C8 h.words h.roots).take k) fun a ha=>by
  obtain ⟨q1,q2,q3⟩:=r.1.obj (Sb r (List.mem_of_mem_take ha))
  have q4:=L6 q3
  unfold nx
  omega
 rw [List.length_take] at h2
 omega
set_option maxRecDepth 100000 in
set_option maxHeartbeats 1600000 in
theorem Wb (b o cap:Nat) (W:List Int) (lv:Value) (l:List Nat) (w:World) (hW:WS w b o W) (hl:W.length=3200) (il:IR w lv (ints l)) (ls:l.length<=3200) (hob:∀ a,a ∈ l->a+4<=3200/\0<=gw W a/\gw W a<=60) :
  Calls Tryz.prog 30 #[.slice (some ⟨b,o,none⟩) 3200 cap,lv] w fun x w'=>x=.returned (.int .i64 (rsum W l))/\w' = w:=by
 obtain ⟨oa,oc,rfl,hoc⟩:=Si il
 have HLN:Hid (W.length=3200):=hl
 clear hl il
 go_enter Tryz.func30,Tryz.ntmps30
 go_wp2
 go_loopw [5,10] (fun yv kv wr=>∃ k:Nat,k<=l.length/\kv=.int .i64 k/\yv=.int .i64 (rsum W (l.take k))/\wr=w) (fun _ kv _=>l.length - (intOf kv).toNat)
 case atStart=>exact ⟨0,Nat.zero_le _,rfl,rfl,rfl⟩
 case round =>
  obtain ⟨k,hk,rfl,rfl,hwr⟩:=hrel
  obtain rfl:=hwr.symm
  clear hwr
  by_cases hkl:k<l.length
  ·obtain ⟨ob,oo,rfl,ci⟩:=hoc k hkl
   obtain ⟨q1,q2⟩:=hob _ (Pj _ _ hkl)
   obtain ⟨m,hm⟩:=Int.eq_ofNat_of_zero_le q2.1
   have m60:m<=60:=by omega
   have hx:nx W (l.getD k 0)=l.getD k 0+4+m:=by unfold nx;rw [hm];rfl
   have HS:Hid (rsum W (l.take (k+1))=rsum W (l.take k)+(4+m)):=(by rw [Zd _ _ _ hkl,hx];omega:rsum W (l.take (k+1))=rsum W (l.take k)+(4+m))
   obtain ⟨r1,r2⟩:=Wu (W:=W) (l:=l.take k) fun a ha=>by have:=(hob a (List.mem_of_mem_take ha)).2;unfold nx;omega
   rw [List.length_take] at r2
   have r3:rsum W (l.take k)<=204800:=by omega
   have BH:=Pf b o cap W (l.getD k 0) w hW HLN.out q1 q2
   rw [hx] at BH
   clear hm hx hoc q2 r2
   generalize l.getD k 0=a at *
   generalize rsum W (l.take k)=s at *
   have hki:(k:Int)<l.length:=by omega
   go_wp2_with (go_at_call 51;refine BH.mono ?_;rintro e wq ⟨rfl,hq⟩;obtain rfl:=hq.symm)
   exact ⟨⟨k+1,by omega,by go_num,by rw [HS.out];congr 1;omega,trivial⟩,by simp [intOf];omega⟩
  ·obtain rfl:k=l.length:=by omega
   rw [List.take_length]
   go_wp2
   go_ret
   exact ⟨rfl,rfl⟩
set_option maxRecDepth 100000 in
set_option maxHeartbeats 1600000 in
theorem Tz (v:Value) (h:Hp) (w:World) (hv:HR w v h) (hro:h.roots.length<=1000000000000) (hke:h.kept.length<=1000000000000) :
  Calls Tryz.prog 14 #[v] w fun x w'=>x=.returned (.int .i64 (reC h))/\Below w.heap.size w w':=by
 obtain ⟨v1,v2,v3,rfl,i1,i2,i3⟩:=id hv
 have hb0:=C5 w (.cells #[v1,v2,.int .i64 h.old,.int .i64 h.eden,.int .i64 h.surv,.bool h.flip,.int .i64 h.hash,v3] 30)
 have X0:=Bx.new w v1 v2 v3 h 30
 have C:=Rz _ h _ (hv.later hb0) hro hke
 have E:=Jeg h
 obtain ⟨c0,c1,c2,c3,c4,c5,c6,c7⟩:=id X0
 cases hk:okC h
 ·rw [hk] at C E
  have E' : Hid (reC h = -1):=E
  clear E i1 i2 i3
  go_enter Tryz.func14,Tryz.ntmps14
  go_wp2_with fail
  refine C.mono ?_
  rintro x w1 ⟨rfl,hb1⟩
  go_wp2
  go_ret
  exact ⟨Oj E'.out.symm,C3 hb0 hb1⟩
 ·rw [hk] at C E
  have E' : Hid (reC h=rsum h.words (C8 h.words h.roots)):=E
  have r:=Oa hk
  have TF:=fun W (hb:Below w.heap.size w W)=>Yk _ h (obC h) W (hv.later hb) r
  have hlen:=r.1.1
  obtain ⟨b,o,cap,hv1,hcap,hW⟩:=i1.ws (by omega)
  subst hv1
  rw [hlen] at c0 X0 C hcap TF hb0 c1 c2 c3 c4 c5 c6 c7 ⊢
  have HLN:Hid (h.words.length=3200):=hlen
  have hmx:Tryz.prog.follows .mixedOrders=true:=by kernel_rfl
  have h3:=O7 r
  have OO:∀ a,a ∈ C8 h.words h.roots->a+4<=3200/\0<=gw h.words a/\gw h.words a<=60:=fun a ha=>by have q:=r.1.obj (Sb r ha);exact ⟨q.1,L6 q.2.2⟩
  clear E hk i1 i2 i3 hv hlen
  go_enter Tryz.func14,Tryz.ntmps14
  go_wp2_with fail
  refine C.mono ?_
  rintro x w1 ⟨rfl,hb1⟩
  have X1:=X0.later hb1
  have hbw1:=C3 hb0 hb1
  clear c0 c1 c2 c3 c4 c5 c6 c7
  have hs0:Below w1.heap.size w1 w1.drew:=(Below.refl _ _).drew
  go_wp2_with fail
  refine Disk.z_plain 99 (fun W'=>Below w1.heap.size w1 W') hmx hs0 (fun hs=>?_)
  clear hs0
  generalize w1.drew=wd at hs ⊢
  refine Disk.zt 0 6 (v:=.pointer (some ⟨w.heap.size,0,none⟩)) rfl rfl hs (fun W' hSw=>(by
   obtain ⟨s0,s1,s2,s3,s4,s5,s6,s7⟩:=X1.later hSw
   go_simp;first|done|with_reducible rfl)) ?_
  simp only [zA,zB,zC]
  refine Disk.zt 1 7 (v:=.slice (some ⟨b,o,none⟩) 3200 cap) rfl rfl hs (fun W' hSw=>(by
   obtain ⟨s0,s1,s2,s3,s4,s5,s6,s7⟩:=X1.later hSw
   go_simp;first|done|with_reducible rfl)) ?_
  simp only [zA,zB,zC]
  refine Disk.zt 2 8 (v:=.agg #[.slice (some ⟨b,o,none⟩) 3200 cap,v2,.int .i64 h.old,.int .i64 h.eden,.int .i64 h.surv,.bool h.flip,.int .i64 h.hash,v3]) rfl rfl hs (fun W' hSw=>(by
   obtain ⟨s0,s1,s2,s3,s4,s5,s6,s7⟩:=X1.later hSw
   go_simp;first|done|with_reducible rfl)) ?_
  simp only [zA,zB,zC]
  refine Disk.zc 3 9 rfl rfl (f:=24) (args:=#[.agg #[.slice (some ⟨b,o,none⟩) 3200 cap,v2,.int .i64 h.old,.int .i64 h.eden,.int .i64 h.surv,.bool h.flip,.int .i64 h.hash,v3]]) (w0:=wd) ?_
  refine (TF wd (C3 hbw1 hs)).mono ?_
  rintro e wt ⟨ov,M,n,rfl,hot,-,-,-,hbt⟩
  have hst:=C3 hs hbt
  refine ⟨_,rfl,.inr hst,?_⟩
  simp only [zA,zB,zC]
  have IT:=J2 hot
  obtain ⟨ta,tc,rfl⟩:=H7 hot
  clear hot
  refine Disk.z_run 4 10 (v:=.slice ta (C8 h.words h.roots).length tc) rfl rfl (by kernel_rfl) (by rfl) (w':=wt) (by kernel_rfl) (.inr hst) ?_
  simp only [zA,zB,zC]
  refine Disk.zc 5 11 rfl rfl (f:=30) (args:=#[.slice (some ⟨b,o,none⟩) 3200 cap,.slice ta (C8 h.words h.roots).length tc]) (w0:=wt) ?_
  refine (Wb b o cap h.words _ _ wt ((hW.later hbw1).later hst) HLN.out IT h3 OO).mono ?_
  rintro e wq ⟨rfl,eq⟩
  obtain rfl:=eq.symm
  clear eq
  refine ⟨_,rfl,.inr hst,?_⟩
  simp only [zA,zB,zC]
  have hbe:=C3 hbw1 hst
  clear IT hbt hs
  generalize rsum h.words (C8 h.words h.roots)=s at *
  refine Disk.zr 6 2 (v:=.int .i64 s) rfl rfl (w':=wt) (.inr hst) ?_
  simp only [zA,zB,zC]
  refine Disk.z_done (by kernel_rfl) ?_ _
  clear hst
  go_wp2
  go_ret
  exact ⟨Oj E'.out.symm,hbe⟩
end Go.Proofs.YtboiknllmnfipaaGreatDoor
/- Shape and Reached of the model. -/
namespace Go.Proofs.YtboiknllmnfipaaGreatDoor
open Go.RowKit
theorem Jed (h:Hp):shC h=if okC h=true then shP h else gr0:=rfl
theorem Jke (w:World):GR w (.agg #[.slice none 0 0,.slice none 0 0,.int .i64 0]) gr0 :=
 ⟨_,_,rfl,⟨none,0,rfl,Nat.le_refl _,fun i hi=>absurd hi (Nat.not_lt_zero i)⟩,⟨none,0,rfl,Nat.le_refl _,fun i hi=>absurd hi (Nat.not_lt_zero i)⟩⟩
theorem gres (w:World) (C:Array Value) (t:TypeId):((w.alloc (.cells C t)).alloc (.cells #[.slice none 0 0,.slice none 0 0,.int .i64 0] 27)).rowIs (w.heap.size+1) 27 3 (grF (.slice none 0 0) (.slice none 0 0) 0):=by
 have q:=Qw (w.alloc (.cells C t)) (.slice none 0 0) (.slice none 0 0) 0 27
 rwa [World.size_alloc] at q
theorem Jfy {h:Hp} {l:List Nat} (r:RightAt h l):(shP h).nodes.length=(C8 h.words h.roots).length/\∀ k,k<(shP h).nodes.length->∃ m:Nat,m<=60/\((shP h).nodes.getD k nd0).fl.length=m/\rsum h.words ((C8 h.words h.roots).take (k+1))=rsum h.words ((C8 h.words h.roots).take k)+(4+m):=by
 have e:(shP h).nodes=(C8 h.words h.roots).map (J3 h.words (C8 h.words h.roots)):=rfl
 have e1:(shP h).nodes.length=(C8 h.words h.roots).length:=by rw [e,List.length_map]
 refine ⟨e1,fun k hk=>?_⟩
 rw [e1] at hk
 obtain ⟨m,m60,hm,_,_,hs⟩:=Xe r hk
 refine ⟨m,m60,?_,hs⟩
 have e2:(shP h).nodes.getD k nd0=J3 h.words (C8 h.words h.roots) ((C8 h.words h.roots).getD k 0):=by rw [e];simp [hk]
 rw [e2]
 show ((flds h.words ((C8 h.words h.roots).getD k 0)).map (ren (C8 h.words h.roots))).length=m
 rw [List.length_map,N5,hm]
 rfl
set_option maxRecDepth 100000 in
set_option maxHeartbeats 1600000 in
theorem Y9 (v:Value) (h:Hp) (w:World) (hv:HR w v h) (hro:h.roots.length<=1000000000000) (hke:h.kept.length<=1000000000000) :
  Calls Tryz.prog 15 #[v] w fun x w'=>x=.returned (.int .i64 (reC h))/\Below w.heap.size w w':=by
 obtain ⟨v1,v2,v3,rfl,i1,i2,i3⟩:=id hv
 have hb0:=C5 w (.cells #[v1,v2,.int .i64 h.old,.int .i64 h.eden,.int .i64 h.surv,.bool h.flip,.int .i64 h.hash,v3] 30)
 have X0:=Bx.new w v1 v2 v3 h 30
 have C:=N4 _ h _ (hv.later hb0) hro hke
 have E:=Jeg h
 obtain ⟨c0,c1,c2,c3,c4,c5,c6,c7⟩:=id X0
 cases hk:okC h
 ·rw [hk] at C E
  have E' : Hid (reC h = -1):=E
  clear E i1 i2 i3
  go_enter Tryz.func15,Tryz.ntmps15
  go_wp2_with fail
  refine C.mono ?_
  rintro x w1 ⟨rfl,hb1⟩
  go_wp2
  go_ret
  exact ⟨Oj E'.out.symm,C3 hb0 hb1⟩
 ·rw [hk] at C E
  have E' : Hid (reC h=rsum h.words (C8 h.words h.roots)):=E
  have r:=Oa hk
  have SF:=fun W (hb:Below w.heap.size w W)=>V5 _ h (obC h) W (hv.later hb) r
  clear E hk i1 i2 i3 hv
  go_enter Tryz.func15,Tryz.ntmps15
  go_wp2_with fail
  refine C.mono ?_
  rintro x w1 ⟨rfl,hb1⟩
  have X1:=X0.later hb1
  have hbw1:=C3 hb0 hb1
  clear c0 c1 c2 c3 c4 c5 c6 c7
  obtain ⟨c0,c1,c2,c3,c4,c5,c6,c7⟩:=id X1
  go_wp2_with fail
  refine (SF w1 hbw1).mono ?_
  rintro x w2 ⟨⟨gv,rfl,hg⟩,hb2⟩
  have hbw2:=C3 hbw1 hb2
  obtain ⟨ra,rc,na,nc,hgv,hgr,hgn⟩:=hg.gr.out
  subst hgv
  obtain ⟨LN',ND'⟩:=Jfy r
  have LN:Hid ((shP h).nodes.length=(C8 h.words h.roots).length):=LN'
  have ND:Hid (∀ k,k<(shP h).nodes.length->∃ m:Nat,m<=60/\((shP h).nodes.getD k nd0).fl.length=m/\rsum h.words ((C8 h.words h.roots).take (k+1))=rsum h.words ((C8 h.words h.roots).take k)+(4+m)):=ND'
  have h3:=O7 r
  rw [<- LN'] at h3
  clear LN' ND' hg hgr SF
  generalize shP h=g at *
  have al:=C5 w2 (.cells #[.slice ra g.roots.length rc,.slice na g.nodes.length nc,.int .i64 g.hash] 27)
  have hn3:=hgn.later al
  have hbw3:=C3 hbw2 al
  have G:=Qw w2 (.slice ra g.roots.length rc) (.slice na g.nodes.length nc) g.hash 27
  have g1:(w2.alloc (.cells #[.slice ra g.roots.length rc,.slice na g.nodes.length nc,.int .i64 g.hash] 27)).cell? ⟨w2.heap.size,1,none⟩=some (.slice na g.nodes.length nc):=G.cell (i:=1) (by omega)
  obtain ⟨na',nc',e',_,hnc⟩:=hn3
  simp only [Value.slice.injEq] at e'
  obtain ⟨rfl,_,rfl⟩:=e'
  clear c0 c1 c2 c3 c4 c5 c6 c7 hgn G
  go_wp2
  generalize w2.alloc (.cells #[.slice ra g.roots.length rc,.slice na g.nodes.length nc,.int .i64 g.hash] 27)=w3 at *
  go_loopw [4,5] (fun yv kv wr=>∃ k:Nat,k<=g.nodes.length/\kv=.int .i64 k/\yv=.int .i64 (rsum h.words ((C8 h.words h.roots).take k))/\wr=w3) (fun _ kv _=>g.nodes.length - (intOf kv).toNat)
  case atStart=>exact ⟨0,Nat.zero_le _,rfl,rfl,rfl⟩
  case round =>
   obtain ⟨k,hk,rfl,rfl,hwr⟩:=hrel
   obtain rfl:=hwr.symm
   clear hwr
   by_cases hkl:k<g.nodes.length
   ·obtain ⟨nb,no,fa,fn,fc,rfl,k0,k1,k2,kr⟩:=hnc k hkl
    obtain ⟨m,m60,hm,hs⟩:=ND.out k hkl
    obtain ⟨r1,r2⟩:=Jbx r k
    obtain ⟨_,_,ef,_⟩:=kr
    simp only [Value.slice.injEq] at ef
    obtain ⟨_,ef2,_⟩:=ef
    rw [ef2,hm] at k2
    have HS:Hid (rsum h.words ((C8 h.words h.roots).take (k+1))=rsum h.words ((C8 h.words h.roots).take k)+(4+m)):=hs
    clear hm hs hnc ef2 k0 k1
    generalize rsum h.words ((C8 h.words h.roots).take k)=s at *
    have hki:(k:Int)<g.nodes.length:=by omega
    go_wp2
    exact ⟨⟨k+1,by omega,by go_num,by rw [HS.out];congr 1;omega,trivial⟩,by simp [intOf];omega⟩
   ·obtain rfl:k=g.nodes.length:=by omega
    have TA:Hid ((C8 h.words h.roots).take g.nodes.length=C8 h.words h.roots):=List.take_of_length_le (by rw [LN.out];exact Nat.le_refl _)
    go_wp2
    go_ret
    exact ⟨Oj (by rw [TA.out];exact E'.out.symm),hbw3⟩
end Go.Proofs.YtboiknllmnfipaaGreatDoor
