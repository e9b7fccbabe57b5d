
import Derived.Test.YtboiknllmnfipaaGreatDoorZVScav
import Derived.Test.YtboiknllmnfipaaGreatDoorZU11
import Derived.Test.YtboiknllmnfipaaGreatDoorZU6
import Derived.Test.YtboiknllmnfipaaGreatDoorZU14
/- The model's public Scavenge. -/
namespace Go.Proofs.YtboiknllmnfipaaGreatDoor
open Go.RowKit
set_option maxRecDepth 100000 in
set_option maxHeartbeats 3200000 in
theorem Vi (v:Value) (h:Hp) (l:List Nat) (R:RightAt h l) (hk:okC h=true) (w:World) (hv:HR w v h) :
  Calls Tryz.prog 71 #[v] w fun e w'=>((∃ u,e=.returned (.tuple #[u,.bool false])/\HM w.heap.size w' u Pz/\∃ i,i=(quS h i).q.length/\(quS h i).full=true) ∨ (∃ u fs l2,e=.returned (.tuple #[u,.bool true])/\HM w.heap.size w' u (Sl h fs (rtL h h.roots.length) (ints (J8 (Pb h fs.W) l2)))/\SI h l fs/\fs.full=false/\PartsAt (Sl h fs (rtL h h.roots.length) h.kept) l2/\∃ i,i=fs.q.length/\quS h i=fs))/\Below w.heap.size w w':=by
 obtain ⟨v1,v2,v3,rfl,i1,i2,i3⟩:=id hv
 obtain ⟨a1,c1,rfl,-⟩:=IRs i1
 obtain ⟨a2,c2,rfl,-⟩:=IRs i2
 obtain ⟨a3,c3,rfl,-⟩:=IRs i3
 have S0:=CS.new w (.slice a1 h.words.length c1) (.slice a2 h.roots.length c2) (.int .i64 h.old) (.int .i64 h.eden) (.int .i64 h.surv) (.bool h.flip) (.int .i64 h.hash) (.slice a3 h.kept.length c3)
 have hro:h.roots.length<=1000000000000:=by have:=R.2.2.2.2.2.1;omega
 have hke:h.kept.length<=1000000000000:=by have:=Ue R;omega
 have C:=N4 _ h _ (hv.later S0.bel) hro hke
 have SC:=fun W (hb:Below w.heap.size w W)=>Xt _ h l R W (hv.later hb)
 rw [hk] at C
 clear i1 i2 i3
 go_enter Tryz.func71,Tryz.ntmps71
 go_wp2_with fail
 refine C.mono ?_
 rintro e w1 ⟨rfl,hb1⟩
 have S1:=S0.later hb1
 obtain ⟨k0,k1,k2,k3,k4,k5,k6,k7⟩:_/\_/\_/\_/\_/\_/\_/\_:=⟨S1.c0,S1.c1,S1.c2,S1.c3,S1.c4,S1.c5,S1.c6,S1.c7⟩
 clear C S0 hb1
 go_wp2_with fail
 refine (SC w1 S1.bel).mono ?_
 rintro e w2 ⟨hr,hb2⟩
 have S2:=S1.later hb2
 have lt1:=S1.lt
 clear SC S1 k0 k1 k2 k3 k4 k5 k6 k7
 obtain ⟨u,q0,b,t,rfl,HU,Z⟩:∃ u q0 b t,e=.returned (.tuple #[u,q0,.bool b])/\HM w1.heap.size w2 u t/\((b=false/\t=Pz/\∃ i,i=(quS h i).q.length/\(quS h i).full=true) ∨ (b=true/\∃ fs l2,t=Sl h fs (rtL h h.roots.length) (ints (J8 (Pb h fs.W) l2))/\SI h l fs/\fs.full=false/\PartsAt (Sl h fs (rtL h h.roots.length) h.kept) l2/\∃ i,i=fs.q.length/\quS h i=fs)):=by
  rcases hr with ⟨u,q0,rfl,HU,fu⟩|⟨u,qv,fs,l2,rfl,HU,Sf,ff,P,iq,ix⟩
  ·exact ⟨u,q0,false,_,rfl,HU,.inl ⟨rfl,rfl,fu⟩⟩
  ·exact ⟨u,qv,true,_,rfl,HU,.inr ⟨rfl,fs,l2,rfl,Sf,ff,P,ix⟩⟩
 clear hr
 obtain ⟨u1,u2,u3,rfl,-,⟨j1,j2,j3⟩,-⟩:=HU.hn.ex
 obtain ⟨p1,e1,rfl,-⟩:=IRs j1
 obtain ⟨p2,e2,rfl,-⟩:=IRs j2
 obtain ⟨p3,e3,rfl,-⟩:=IRs j3
 have al:=C5 w2 (.cells #[.slice none 0 0,.slice none 0 0,.int .i64 0,.int .i64 0,.int .i64 0,.bool false,.int .i64 0,.slice none 0 0] 30)
 have F0:=I0 w2 #[.slice none 0 0,.slice none 0 0,.int .i64 0,.int .i64 0,.int .i64 0,.bool false,.int .i64 0,.slice none 0 0] 30
 have S3:=S2.later al
 have sz1:=S2.bel.size
 have sw1:w.heap.size+1<w1.heap.size:=lt1
 have lt2:=S2.lt
 have OKC:(#[(.slice p1 t.words.length e1),(.slice p2 t.roots.length e2),(.int .i64 t.old),(.int .i64 t.eden),(.int .i64 t.surv),(.bool t.flip),(.int .i64 t.hash),(.slice p3 t.kept.length e3)]:Array Value).all (·.oneCell')=true:=by simp [Value.oneCell']
 have CSx:∀ w3,(w2.alloc (.cells #[.slice none 0 0,.slice none 0 0,.int .i64 0,.int .i64 0,.int .i64 0,.bool false,.int .i64 0,.slice none 0 0] 30)).grownBy w3 (some w2.heap.size)->CS w w3 (.slice a1 h.words.length c1) (.slice a2 h.roots.length c2) (.int .i64 h.old) (.int .i64 h.eden) (.int .i64 h.surv) (.bool h.flip) (.int .i64 h.hash) (.slice a3 h.kept.length c3):=fun w3 G=>S3.grew (Grew.grown G) (fun q hq=>by cases hq;omega)
 clear S3 S2 j1 j2 j3
 go_wp2_with (first
  | ((with_reducible refine C9 _ ?_ (.tmp 4) (.tmp 14) 30 ?_ 30 w2.heap.size 8 #[(.slice p1 t.words.length e1),(.slice p2 t.roots.length e2),(.int .i64 t.old),(.int .i64 t.eden),(.int .i64 t.surv),(.bool t.flip),(.int .i64 t.hash),(.slice p3 t.kept.length e3)] _ ?_ ?_ F0 ?_ ?_ OKC ?_);rfl;rfl;rfl;rfl;rfl;kernel_rfl;intro w3 F3 G3;have k0:w3.cell? ⟨w2.heap.size,0,none⟩=some (.slice p1 t.words.length e1):=F3.cell (i:=0) (by omega);have k1:w3.cell? ⟨w2.heap.size,1,none⟩=some (.slice p2 t.roots.length e2):=F3.cell (i:=1) (by omega);have k2:w3.cell? ⟨w2.heap.size,2,none⟩=some (.int .i64 t.old):=F3.cell (i:=2) (by omega);have k3:w3.cell? ⟨w2.heap.size,3,none⟩=some (.int .i64 t.eden):=F3.cell (i:=3) (by omega);have k4:w3.cell? ⟨w2.heap.size,4,none⟩=some (.int .i64 t.surv):=F3.cell (i:=4) (by omega);have k5:w3.cell? ⟨w2.heap.size,5,none⟩=some (.bool t.flip):=F3.cell (i:=5) (by omega);have k6:w3.cell? ⟨w2.heap.size,6,none⟩=some (.int .i64 t.hash):=F3.cell (i:=6) (by omega);have k7:w3.cell? ⟨w2.heap.size,7,none⟩=some (.slice p3 t.kept.length e3):=F3.cell (i:=7) (by omega);obtain ⟨fr,FR⟩:=(CSx w3 G3).res)
  | ((with_reducible refine C9 _ ?_ (.tmp 2) (.tmp 17) 30 ?_ 30 (w.heap.size+1) 8 #[(.slice p1 t.words.length e1),(.slice p2 t.roots.length e2),(.int .i64 t.old),(.int .i64 t.eden),(.int .i64 t.surv),(.bool t.flip),(.int .i64 t.hash),(.slice p3 t.kept.length e3)] fr ?_ ?_ FR ?_ ?_ OKC ?_);rfl;rfl;rfl;rfl;rfl;kernel_rfl;intro w4 F4 G4;have r0:w4.cell? ⟨w.heap.size+1,0,none⟩=some (.slice p1 t.words.length e1):=F4.cell (i:=0) (by omega);have r1:w4.cell? ⟨w.heap.size+1,1,none⟩=some (.slice p2 t.roots.length e2):=F4.cell (i:=1) (by omega);have r2:w4.cell? ⟨w.heap.size+1,2,none⟩=some (.int .i64 t.old):=F4.cell (i:=2) (by omega);have r3:w4.cell? ⟨w.heap.size+1,3,none⟩=some (.int .i64 t.eden):=F4.cell (i:=3) (by omega);have r4:w4.cell? ⟨w.heap.size+1,4,none⟩=some (.int .i64 t.surv):=F4.cell (i:=4) (by omega);have r5:w4.cell? ⟨w.heap.size+1,5,none⟩=some (.bool t.flip):=F4.cell (i:=5) (by omega);have r6:w4.cell? ⟨w.heap.size+1,6,none⟩=some (.int .i64 t.hash):=F4.cell (i:=6) (by omega);have r7:w4.cell? ⟨w.heap.size+1,7,none⟩=some (.slice p3 t.kept.length e3):=F4.cell (i:=7) (by omega)))
 have S3:=CSx w3 G3
 have l3:=S3.bel.size
 have b3:Below w2.heap.size w2 w3:=Below.grown al G3 al.size (fun q hq=>by cases hq;exact Nat.le_refl _)
 have H3:=HU.later b3
 have H4:HM w1.heap.size w4 (.agg #[(.slice p1 t.words.length e1),(.slice p2 t.roots.length e2),(.int .i64 t.old),(.int .i64 t.eden),(.int .i64 t.surv),(.bool t.flip),(.int .i64 t.hash),(.slice p3 t.kept.length e3)]) t:=H3.keep (fun q q1 q2=>G4.block q q2 (by intro e;cases e;omega))
 have B4:Below w.heap.size w w4:=Below.grown S3.bel G4 S3.bel.size (fun q hq=>by cases hq;omega)
 refine bodyPost_ret (v:=.tuple #[.agg #[(.slice p1 t.words.length e1),(.slice p2 t.roots.length e2),(.int .i64 t.old),(.int .i64 t.eden),(.int .i64 t.surv),(.bool t.flip),(.int .i64 t.hash),(.slice p3 t.kept.length e3)],.bool b]) (by simp [results,Tryz.results71,go_sem,r0,r1,r2,r3,r4,r5,r6,r7]) rfl ⟨?_,B4⟩
 rcases Z with ⟨rfl,rfl,z⟩|⟨rfl,fs,l2,rfl,z1,z2,z3,z4⟩
 ·exact .inl ⟨_,rfl,H4.low (by omega),z⟩
 ·exact .inr ⟨_,fs,l2,rfl,H4.low (by omega),z1,z2,z3,z4⟩
end Go.Proofs.YtboiknllmnfipaaGreatDoor
/- What the model's operations answer for a heap with short lists. -/
namespace Go.Proofs.YtboiknllmnfipaaGreatDoor
open Go.RowKit
def Jav (B:Nat) (e:Ending) (w' : World):Prop:=∃ u b t,e=.returned (.tuple #[u,.bool b])/\HM B w' u t/\Sm t/\(b=true->t.words.length=3200)
theorem Rh:Sm Pz:=⟨Nat.zero_le _,Nat.zero_le _,Nat.zero_le _⟩
theorem Sm.big {t:Hp} (h:Sm t):t.words.length<=1000000000000/\t.roots.length<=1000000000000/\t.kept.length<=1000000000000:=by
 obtain ⟨a,b,c⟩:=h
 omega
theorem Jkl {w:World} {v:Value} {t:Hp} (hv:HR w v t) (s:Sm t) (x:Int) (hx:N8 x) :
  Calls Tryz.prog 69 #[v,.int .i64 x] w fun e w'=>Jav w.heap.size e w' /\ Below w.heap.size w w':=by
 obtain ⟨b1,b2,b3⟩:=s.big
 refine (Ua v t x w hv b1 b2 b3 hx).mono fun e w' ⟨⟨u,e1,k⟩,b⟩=>⟨⟨u,_,_,e1,k,?_,fun q=>by unfold Y8;rw [if_pos q];unfold Pu at q;rw [Bool.and_eq_true] at q;exact (Py q.1).1⟩,b⟩
 unfold Y8
 split
 ·rename_i q
  unfold Pu at q
  rw [Bool.and_eq_true,Bool.and_eq_true] at q
  have:=(Py q.1).2.2.2.2.2
  have n20:¬ t.roots.length=20:=by simpa using q.2.2
  refine ⟨s.1,?_,s.2.2⟩
  show (t.roots ++ [x]).length<=20
  rw [List.length_append,List.length_singleton]
  omega
 ·exact Rh
theorem Jhw {w:World} {v:Value} {t:Hp} (hv:HR w v t) (s:Sm t) (i x:Int) (hx:N8 x) :
  Calls Tryz.prog 73 #[v,.int .i64 i,.int .i64 x] w fun e w'=>Jav w.heap.size e w' /\ Below w.heap.size w w':=by
 obtain ⟨b1,b2,b3⟩:=s.big
 refine (Y4 v t i x w hv b1 b2 b3 hx).mono fun e w' ⟨⟨u,e1,k⟩,b⟩=>⟨⟨u,_,_,e1,k,?_,fun q=>by unfold Jbd;rw [if_pos q];unfold Vr at q;rw [Bool.and_eq_true] at q;exact (Py q.1).1⟩,b⟩
 unfold Jbd
 split
 ·refine ⟨s.1,?_,s.2.2⟩
  show (t.roots.set i.toNat x).length<=20
  rw [List.length_set]
  exact s.2.1
 ·exact Rh
theorem Jmo {w:World} {v:Value} {t:Hp} (hv:HR w v t) (s:Sm t) (x i y:Int) (hx:N8 x) (hy:N8 y) :
  Calls Tryz.prog 70 #[v,.int .i64 x,.int .i64 i,.int .i64 y] w fun e w'=>Jav w.heap.size e w' /\ Below w.heap.size w w':=by
 obtain ⟨b1,b2,b3⟩:=s.big
 refine (Jfd v t x i y w hv b1 b2 b3 hx hy).mono fun e w' ⟨⟨u,e1,k⟩,b⟩=>⟨⟨u,_,_,e1,k,?_,fun q=>by unfold Jbc;rw [if_pos q];unfold Tw at q;rw [Bool.and_eq_true] at q;show (t.words.set _ _).length=3200;rw [List.length_set];exact (Py q.1).1⟩,b⟩
 unfold Jbc
 split
 ·refine ⟨?_,s.2.1,?_⟩
  ·show (t.words.set _ _).length<=3200
   rw [List.length_set]
   exact s.1
  ·show (N9 _ (obC t)).length<=3200
   unfold N9
   rw [J0]
   exact Nat.le_trans (List.length_filter_le _ _) (Jaj t)
 ·exact Rh
def Jlz (B:Nat) (t:Hp) (n:Int) (e:Ending) (w' : World):Prop:=∃ u r b t',e=.returned (.tuple #[u,.int .i64 r,.bool b])/\HM B w' u t' /\ Sm t' /\ N8 r/\(b=true->2000<=t.eden/\t'.eden=t.eden+4+n/\t'.eden<=2600)/\(b=true->t'.words.length=3200)/\(b=true->t.roots.length<20->Pu t' r=true)
theorem Jcc {w:World} {v:Value} {t:Hp} (hv:HR w v t) (s:Sm t) (c n:Int) :
  Calls Tryz.prog 68 #[v,.int .i64 c,.int .i64 n] w fun e w'=>Jlz w.heap.size t n e w' /\ Below w.heap.size w w':=by
 obtain ⟨b1,b2,b3⟩:=s.big
 refine (Jff v t c n w hv b1 b2 b3).mono fun e w' ⟨⟨u,e1,k⟩,b⟩=>⟨⟨u,_,_,_,e1,k,?_,?_,?_,fun q=>by rw [Jev q];unfold Qi at q;rw [Bool.and_eq_true] at q;show (((t.words.set _ _).set _ _).set _ _).length=3200;rw [List.length_set,List.length_set,List.length_set];exact (Py q.1).1,fun q hr=>Jkh q hr⟩,b⟩
 ·unfold Xx
  split
  ·refine ⟨?_,s.2.1,s.2.2⟩
   show (((t.words.set _ _).set _ _).set _ _).length<=3200
   rw [List.length_set,List.length_set,List.length_set]
   exact s.1
  ·exact Rh
 ·unfold T5 N8
  split
  ·rename_i q
   unfold Qi at q
   rw [Bool.and_eq_true] at q
   have:=Py q.1
   omega
  ·omega
 ·intro q
  have q':=q
  unfold Qi at q
  rw [Bool.and_eq_true,Bool.and_eq_true,Bool.and_eq_true,Bool.and_eq_true] at q
  have o:=Py q.1
  have e5:=of_decide_eq_true q.2.2.2.2
  unfold Xx
  rw [if_pos q']
  refine ⟨o.2.1,rfl,?_⟩
  show t.eden+4+n<=2600
  exact e5
set_option maxRecDepth 100000 in
set_option maxHeartbeats 1600000 in
theorem Wa (v:Value) (h:Hp) (w:World) (hv:HR w v h) (hro:h.roots.length<=1000000000000) (hke:h.kept.length<=1000000000000) (hk:okC h=false) :
  Calls Tryz.prog 71 #[v] w fun e w'=>e=.returned (.tuple #[.agg #[.slice none 0 0,.slice none 0 0,.int .i64 0,.int .i64 0,.int .i64 0,.bool false,.int .i64 0,.slice none 0 0],.bool false])/\Below w.heap.size w w':=by
 obtain ⟨v1,v2,v3,rfl,i1,i2,i3⟩:=id hv
 obtain ⟨a1,c1,rfl,-⟩:=IRs i1
 obtain ⟨a2,c2,rfl,-⟩:=IRs i2
 obtain ⟨a3,c3,rfl,-⟩:=IRs i3
 have S0:=CS.new w (.slice a1 h.words.length c1) (.slice a2 h.roots.length c2) (.int .i64 h.old) (.int .i64 h.eden) (.int .i64 h.surv) (.bool h.flip) (.int .i64 h.hash) (.slice a3 h.kept.length c3)
 have C:=N4 _ h _ (hv.later S0.bel) hro hke
 rw [hk] at C
 clear i1 i2 i3
 go_enter Tryz.func71,Tryz.ntmps71
 go_wp2_with fail
 refine C.mono ?_
 rintro e w1 ⟨rfl,hb1⟩
 have S1:=S0.later hb1
 clear C S0 hb1
 obtain ⟨fk,K⟩:=S1.res
 have fR:=fun i=>K.frozen i
 obtain ⟨r0,r1,r2,r3,r4,r5,r6,r7⟩:=Po K
 have ltR:=K.lt
 have B9:=Qa (N:=w.heap.size+1) (S1.bel) (Nat.le_succ _)
 clear K S1
 go_wp2
 exact bodyPost_ret (v:=.tuple #[.agg #[.slice none 0 0,.slice none 0 0,.int .i64 0,.int .i64 0,.int .i64 0,.bool false,.int .i64 0,.slice none 0 0],.bool false]) (by simp [results,Tryz.results71,go_sem,r0,r1,r2,r3,r4,r5,r6,r7]) rfl ⟨rfl,B9⟩
set_option maxRecDepth 100000 in
set_option maxHeartbeats 1600000 in
theorem Wv (v:Value) (h:Hp) (w:World) (hv:HR w v h) (hro:h.roots.length<=1000000000000) (hke:h.kept.length<=1000000000000) (hk:okC h=false) :
  Calls Tryz.prog 72 #[v] w fun e w'=>e=.returned (.tuple #[.agg #[.slice none 0 0,.slice none 0 0,.int .i64 0,.int .i64 0,.int .i64 0,.bool false,.int .i64 0,.slice none 0 0],.bool false])/\Below w.heap.size w w':=by
 obtain ⟨v1,v2,v3,rfl,i1,i2,i3⟩:=id hv
 obtain ⟨a1,c1,rfl,-⟩:=IRs i1
 obtain ⟨a2,c2,rfl,-⟩:=IRs i2
 obtain ⟨a3,c3,rfl,-⟩:=IRs i3
 have S0:=CS.new w (.slice a1 h.words.length c1) (.slice a2 h.roots.length c2) (.int .i64 h.old) (.int .i64 h.eden) (.int .i64 h.surv) (.bool h.flip) (.int .i64 h.hash) (.slice a3 h.kept.length c3)
 have C:=N4 _ h _ (hv.later S0.bel) hro hke
 rw [hk] at C
 clear i1 i2 i3
 go_enter Tryz.func72,Tryz.ntmps72
 go_wp2_with fail
 refine C.mono ?_
 rintro e w1 ⟨rfl,hb1⟩
 have S1:=S0.later hb1
 clear C S0 hb1
 obtain ⟨fk,K⟩:=S1.res
 have fR:=fun i=>K.frozen i
 obtain ⟨r0,r1,r2,r3,r4,r5,r6,r7⟩:=Po K
 have ltR:=K.lt
 have B9:=Qa (N:=w.heap.size+1) (S1.bel) (Nat.le_succ _)
 clear K S1
 go_wp2
 exact bodyPost_ret (v:=.tuple #[.agg #[.slice none 0 0,.slice none 0 0,.int .i64 0,.int .i64 0,.int .i64 0,.bool false,.int .i64 0,.slice none 0 0],.bool false]) (by simp [results,Tryz.results72,go_sem,r0,r1,r2,r3,r4,r5,r6,r7]) rfl ⟨rfl,B9⟩
theorem Jlf {w:World} {v:Value} {t:Hp} (hv:HR w v t) (s:Sm t) (x:Int) (hx:N8 x) (ha:Pu t x=true) :
  Calls Tryz.prog 69 #[v,.int .i64 x] w fun e w'=>(∃ u t',e=.returned (.tuple #[u,.bool true])/\HM w.heap.size w' u t' /\ Sm t' /\ t'.words.length=3200)/\Below w.heap.size w w':=by
 obtain ⟨b1,b2,b3⟩:=s.big
 refine (Ua v t x w hv b1 b2 b3 hx).mono fun e w' ⟨⟨u,e1,k⟩,b⟩=>⟨⟨u,_,by rw [<- ha];exact e1,k,?_,?_⟩,b⟩
 ·unfold Y8
  rw [if_pos ha]
  have q:=ha
  unfold Pu at q
  rw [Bool.and_eq_true,Bool.and_eq_true] at q
  have:=(Py q.1).2.2.2.2.2
  have n20:¬ t.roots.length=20:=by simpa using q.2.2
  refine ⟨s.1,?_,s.2.2⟩
  show (t.roots ++ [x]).length<=20
  rw [List.length_append,List.length_singleton]
  omega
 ·unfold Y8
  rw [if_pos ha]
  have q:=ha
  unfold Pu at q
  rw [Bool.and_eq_true] at q
  exact (Py q.1).1
theorem Jng {w:World} {v:Value} {t:Hp} (hv:HR w v t) (s:Sm t) :
  Calls Tryz.prog 71 #[v] w fun e w'=>Jav w.heap.size e w' /\ Below w.heap.size w w':=by
 obtain ⟨b1,b2,b3⟩:=s.big
 cases hk:okC t
 ·refine (Wa v t w hv b2 b3 hk).mono fun e w' ⟨e1,b⟩=>⟨⟨_,_,_,e1,Tt _ _,Rh,fun q=>by cases q⟩,b⟩
 ·refine (Vi v t _ (Oa hk) hk w hv).mono fun e w' ⟨q,b⟩=>⟨?_,b⟩
  rcases q with ⟨u,e1,k,_⟩|⟨u,fs,l2,e1,k,S,_,P,_⟩
  ·exact ⟨u,_,_,e1,k,Rh,fun q=>by cases q⟩
  ·refine ⟨u,_,_,e1,k,⟨?_,?_,?_⟩,fun _=>by show (Pb t fs.W).length=3200;unfold Pb;rw [Oo,Oo,S.len]⟩
   ·show (Pb t fs.W).length<=3200
    unfold Pb
    rw [Oo,Oo,S.len]
    exact Nat.le_refl _
   ·show (rtL t t.roots.length).length<=20
    rw [Z2 t (Nat.le_refl _)]
    exact s.2.1
   ·show (ints (J8 (Pb t fs.W) l2)).length<=3200
    rw [J0]
    exact Nat.le_trans (List.length_filter_le _ _) P.short
theorem Jne {w:World} {v:Value} {t:Hp} (hv:HR w v t) (s:Sm t) :
  Calls Tryz.prog 72 #[v] w fun e w'=>Jav w.heap.size e w' /\ Below w.heap.size w w':=by
 obtain ⟨b1,b2,b3⟩:=s.big
 cases hk:okC t
 ·refine (Wv v t w hv b2 b3 hk).mono fun e w' ⟨e1,b⟩=>⟨⟨_,_,_,e1,Tt _ _,Rh,fun q=>by cases q⟩,b⟩
 ·refine (V8 v t _ (Oa hk) w hv).mono fun e w' ⟨⟨i,_,q⟩,b⟩=>⟨?_,b⟩
  rcases q with ⟨u,e1,k,_⟩|⟨u,e1,k,_⟩
  ·exact ⟨u,_,_,e1,k,Rh,fun q=>by cases q⟩
  ·refine ⟨u,_,_,e1,k,⟨?_,?_,Nat.zero_le _⟩,fun _=>Ti _ _ _ _⟩
   ·show (cfS _ _ _ _).length<=3200
    rw [Ti]
    exact Nat.le_refl _
   ·show (t.roots.map _).length<=20
    rw [List.length_map]
    exact s.2.1
end Go.Proofs.YtboiknllmnfipaaGreatDoor
/- The draw of a heap: what its regions are taken by. -/
namespace Go.Proofs.YtboiknllmnfipaaGreatDoor
open Go.RowKit
def Sq (n:Nat):Code->Option Code
 | .region i ops d=>if i=n then some (.region i ops d) else none
 | .seq a b=>match Sq n a with
  | some c=>some c
  | none=>Sq n b
 | .block _ c=>Sq n c
 | .scope c=>Sq n c
 | .loop c=>Sq n c
 | .cond _ a b=>match Sq n a with
  | some c=>some c
  | none=>Sq n b
 | _=>none
def Vt (n:Nat):Code->Option Code
 | .block i c=>if i=n then some (.block i c) else Vt n c
 | .seq a b=>match Vt n a with
  | some c=>some c
  | none=>Vt n b
 | .scope c=>Vt n c
 | .loop c=>Vt n c
 | .cond _ a b=>match Vt n a with
  | some c=>some c
  | none=>Vt n b
 | _=>none
noncomputable def Jaa:Code:=((Tryz.f57.body.bind (Vt 4)).getD .skip)
theorem Pi {W cur:World} {N:Nat} {cv:Value} {cs:List UInt8} (hs:Sx W N cv cs cur) (hN:N<W.heap.size):∃ wa SB,wa=cur.alloc (.cells #[.slice none 0 0,.slice none 0 0,.int .i64 0,.int .i64 0,.int .i64 0,.bool false,.int .i64 0,.slice none 0 0] 30)/\SB=cur.heap.size/\Sx W N cv cs wa/\(∃ f,wa.rowIs SB 30 8 f)/\W.heap.size<=SB/\Below cur.heap.size cur wa :=
 ⟨_,_,rfl,rfl,hs.more (C5 _ _) hN,⟨_,I0 cur #[.slice none 0 0,.slice none 0 0,.int .i64 0,.int .i64 0,.int .i64 0,.bool false,.int .i64 0,.slice none 0 0] 30⟩,hs.1.size,C5 _ _⟩
theorem Jkm (x:Int):N8 (wrap64 x):=by
 unfold N8 wrap64
 omega
end Go.Proofs.YtboiknllmnfipaaGreatDoor
