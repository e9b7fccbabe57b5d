
import Derived.Test.YtboiknllmnfipaaGreatDoorZU10
import Derived.Test.YtboiknllmnfipaaGreatDoorZU7
import Derived.Test.YtboiknllmnfipaaGreatDoorZCSpec
import Derived.Test.YtboiknllmnfipaaGreatDoorZMSNew
import Derived.Deep.DeepCutAuto
import Derived.Test.YtboiknllmnfipaaGreatDoorZU6
import Derived.Test.YtboiknllmnfipaaGreatDoorZU5
/- SetRoot of the model. -/
namespace Go.Proofs.YtboiknllmnfipaaGreatDoor
open Go.RowKit
set_option maxRecDepth 100000 in
set_option maxHeartbeats 3200000 in
theorem Y4 (v:Value) (h:Hp) (i x:Int) (w:World) (hv:HR w v h) (hwo:h.words.length<=1000000000000) (hro:h.roots.length<=1000000000000) (hke:h.kept.length<=1000000000000) (hx:N8 x) :
  Calls Tryz.prog 73 #[v,.int .i64 i,.int .i64 x] w fun e w'=>(∃ u,e=.returned (.tuple #[u,.bool (Vr h i x)])/\HM w.heap.size w' u (Jbd h i x))/\Below w.heap.size w w':=by
 obtain ⟨v1,v2,v3,rfl,i1,i2,i3⟩:=id hv
 obtain ⟨a1,c1,rfl,-⟩:=IRs i1
 obtain ⟨a2,c2,rfl,-⟩:=IRs i2
 obtain ⟨a3,c3,rfl,-⟩:=IRs i3
 have S0:=CS.new w (.slice a1 h.words.length c1) (.slice a2 h.roots.length c2) (.int .i64 h.old) (.int .i64 h.eden) (.int .i64 h.surv) (.bool h.flip) (.int .i64 h.hash) (.slice a3 h.kept.length c3)
 have C:=N4 _ h _ (hv.later S0.bel) hro hke
 clear i1 i2 i3
 go_enter Tryz.func73,Tryz.ntmps73
 go_wp2_with fail
 refine C.mono ?_
 rintro e w1 ⟨rfl,hb1⟩
 have S1:=S0.later hb1
 clear C S0 hb1
 cases hk:okC h
 ·have AB:Vr h i x=false:=by unfold Vr;rw [hk];rfl
  obtain ⟨fk,K⟩:=S1.res
  have fR:=fun i=>K.frozen i
  obtain ⟨r0,r1,r2,r3,r4,r5,r6,r7⟩:=Po K
  have ltR:=K.lt
  have B9:=Qa (N:=w.heap.size+1) (S1.bel) (Nat.le_succ _)
  obtain ⟨o0,o1,o2,o3,o4,o5,o6,o7⟩:_/\_/\_/\_/\_/\_/\_/\_:=⟨S1.c0,S1.c1,S1.c2,S1.c3,S1.c4,S1.c5,S1.c6,S1.c7⟩
  clear K S1
  go_wp2
  exact bodyPost_ret (v:=.tuple #[.agg #[.slice none 0 0,.slice none 0 0,.int .i64 0,.int .i64 0,.int .i64 0,.bool false,.int .i64 0,.slice none 0 0],.bool false]) (by simp [results,Tryz.results73,go_sem,r0,r1,r2,r3,r4,r5,r6,r7]) rfl ⟨⟨_,Oz AB (Jdq AB)⟩,B9⟩
 have LW:=W8 _ h x _ (hv.later S1.bel) hk hx
 obtain ⟨o0,o1,o2,o3,o4,o5,o6,o7⟩:_/\_/\_/\_/\_/\_/\_/\_:=⟨S1.c0,S1.c1,S1.c2,S1.c3,S1.c4,S1.c5,S1.c6,S1.c7⟩
 go_wp2_with fail
 refine LW.mono ?_
 rintro e w2 ⟨rfl,hb2⟩
 have S2:=S1.later hb2
 clear S1 LW hb2 o0 o1 o2 o3 o4 o5 o6 o7
 have LI:=fun W=>I9 i 0 ((h.roots.length:Int) - 1) W
 cases hft:I8 (obC h) x
 ·have AB:Vr h i x=false:=by unfold Vr;rw [hk,hft];rfl
  obtain ⟨fk,K⟩:=S2.res
  have fR:=fun i=>K.frozen i
  obtain ⟨r0,r1,r2,r3,r4,r5,r6,r7⟩:=Po K
  have ltR:=K.lt
  have B9:=Qa (N:=w.heap.size+1) (S2.bel) (Nat.le_succ _)
  obtain ⟨o0,o1,o2,o3,o4,o5,o6,o7⟩:_/\_/\_/\_/\_/\_/\_/\_:=⟨S2.c0,S2.c1,S2.c2,S2.c3,S2.c4,S2.c5,S2.c6,S2.c7⟩
  clear K S2
  go_wp2
  exact bodyPost_ret (v:=.tuple #[.agg #[.slice none 0 0,.slice none 0 0,.int .i64 0,.int .i64 0,.int .i64 0,.bool false,.int .i64 0,.slice none 0 0],.bool false]) (by simp [results,Tryz.results73,go_sem,r0,r1,r2,r3,r4,r5,r6,r7]) rfl ⟨⟨_,Oz AB (Jdq AB)⟩,B9⟩
 by_cases hi:0<=i/\i<=(h.roots.length:Int) - 1
 case neg =>
  have AB:Vr h i x=false:=by unfold Vr;rw [hk,hft,decide_eq_false (by omega)];rfl
  rw [decide_eq_false hi] at LI
  obtain ⟨fk,K⟩:=S2.res
  have fR:=fun i=>K.frozen i
  obtain ⟨r0,r1,r2,r3,r4,r5,r6,r7⟩:=Po K
  have ltR:=K.lt
  have B9:=Qa (N:=w.heap.size+1) (S2.bel) (Nat.le_succ _)
  obtain ⟨o0,o1,o2,o3,o4,o5,o6,o7⟩:_/\_/\_/\_/\_/\_/\_/\_:=⟨S2.c0,S2.c1,S2.c2,S2.c3,S2.c4,S2.c5,S2.c6,S2.c7⟩
  clear K S2
  go_wp2_with (go_at_call 32;refine (LI _).mono ?_;rintro e wq ⟨rfl,hq⟩;obtain rfl:=hq.symm)
  exact bodyPost_ret (v:=.tuple #[.agg #[.slice none 0 0,.slice none 0 0,.int .i64 0,.int .i64 0,.int .i64 0,.bool false,.int .i64 0,.slice none 0 0],.bool false]) (by simp [results,Tryz.results73,go_sem,r0,r1,r2,r3,r4,r5,r6,r7]) rfl ⟨⟨_,Oz AB (Jdq AB)⟩,B9⟩
 have AB:Vr h i x=true:=by unfold Vr;rw [hk,hft,decide_eq_true ⟨by omega,by omega⟩];rfl
 rw [decide_eq_true hi] at LI
 obtain ⟨k,rfl⟩:∃ k:Nat,i=k:=⟨i.toNat,by omega⟩
 have hkl:k<h.roots.length:=by omega
 have CP:=Qx _ h _ (hv.later S2.bel) hwo hro hke
 obtain ⟨o0,o1,o2,o3,o4,o5,o6,o7⟩:_/\_/\_/\_/\_/\_/\_/\_:=⟨S2.c0,S2.c1,S2.c2,S2.c3,S2.c4,S2.c5,S2.c6,S2.c7⟩
 clear hft hi
 go_wp2_with (go_at_call 32;refine (LI _).mono ?_;rintro e wq ⟨rfl,hq⟩;obtain rfl:=hq.symm)
 refine CP.mono ?_
 rintro e w3 ⟨⟨g1,d1,g2,d2,g3,d3,rfl,⟨q1,q2,q3⟩,⟨l0,l1,l2⟩,⟨m1,m2,m3⟩⟩,hb3⟩
 have al:=C5 w3 (.cells #[.slice (some ⟨g1,0,none⟩) h.words.length d1,.slice (some ⟨g2,0,none⟩) h.roots.length d2,.int .i64 h.old,.int .i64 h.eden,.int .i64 h.surv,.bool h.flip,.int .i64 h.hash,.slice (some ⟨g3,0,none⟩) h.kept.length d3] 30)
 have S3:=S2.later hb3
 have lt2:=S2.lt
 have ltg1:=q1.lt
 have ltg2:=q2.lt
 have ltg3:=q3.lt
 have pc:=q2.cell hkl
 have pf:=fun j=>q2.frozen j
 generalize h.roots.getD k 0=y at *
 clear CP S2 hb3 o0 o1 o2 o3 o4 o5 o6 o7 hv LI
 have al2:=C5 (w3.setCell ⟨g2,k,none⟩ (.int .i64 x)) (.cells #[.slice (some ⟨g1,0,none⟩) h.words.length d1,.slice (some ⟨g2,0,none⟩) h.roots.length d2,.int .i64 h.old,.int .i64 h.eden,.int .i64 h.surv,.bool h.flip,.int .i64 h.hash,.slice (some ⟨g3,0,none⟩) h.kept.length d3] 30)
 obtain ⟨fk,K4⟩:=S3.res
 have K5:=K4.setOther (a:=⟨g2,k,none⟩) (by show w.heap.size+1 ≠ g2;omega) (.int .i64 x)
 have KX:((w3.setCell ⟨g2,k,none⟩ (.int .i64 x)).alloc (.cells #[.slice (some ⟨g1,0,none⟩) h.words.length d1,.slice (some ⟨g2,0,none⟩) h.roots.length d2,.int .i64 h.old,.int .i64 h.eden,.int .i64 h.surv,.bool h.flip,.int .i64 h.hash,.slice (some ⟨g3,0,none⟩) h.kept.length d3] 30)).rowIs (w.heap.size+1) 30 8 fk:=K5.of_block (al2.block _ K5.lt)
 have bel4:Below w.heap.size w ((w3.setCell ⟨g2,k,none⟩ (.int .i64 x)).alloc (.cells #[.slice (some ⟨g1,0,none⟩) h.words.length d1,.slice (some ⟨g2,0,none⟩) h.roots.length d2,.int .i64 h.old,.int .i64 h.eden,.int .i64 h.surv,.bool h.flip,.int .i64 h.hash,.slice (some ⟨g3,0,none⟩) h.kept.length d3] 30)):=(S3.bel.setCell (p:=⟨g2,k,none⟩) (by show w.heap.size<=g2;omega) (.int .i64 x)).trans (al2.mono (by have:=S3.bel.size;simp;omega))
 have sz4:((w3.setCell ⟨g2,k,none⟩ (.int .i64 x)).alloc (.cells #[.slice (some ⟨g1,0,none⟩) h.words.length d1,.slice (some ⟨g2,0,none⟩) h.roots.length d2,.int .i64 h.old,.int .i64 h.eden,.int .i64 h.surv,.bool h.flip,.int .i64 h.hash,.slice (some ⟨g3,0,none⟩) h.kept.length d3] 30)).heap.size=w3.heap.size+1:=by simp
 have M1:=(q1.setOther (b:=g2) (i:=k) (by omega) (.int .i64 x)).later al2
 have M2:=(q2.set k x).later al2
 have M3:=(q3.setOther (b:=g2) (i:=k) (by omega) (.int .i64 x)).later al2
 have lw:w.heap.size+1<w3.heap.size:=by omega
 have n1:¬ g2=w3.heap.size:=by omega
 have n1' : ¬ w3.heap.size=g2:=by omega
 have OKC:(#[.slice (some ⟨g1,0,none⟩) h.words.length d1,.slice (some ⟨g2,0,none⟩) h.roots.length d2,.int .i64 h.old,.int .i64 h.eden,.int .i64 h.surv,.bool h.flip,.int .i64 h.hash,.slice (some ⟨g3,0,none⟩) h.kept.length d3]:Array Value).all (·.oneCell')=true:=by simp [Value.oneCell']
 clear al al2 K4 K5 S3 q1 q2 q3
 go_wp2_with (refine C9 _ rfl (.tmp 6) (.tmp 35) 30 rfl 30 (w.heap.size+1) 8 #[.slice (some ⟨g1,0,none⟩) h.words.length d1,.slice (some ⟨g2,0,none⟩) h.roots.length d2,.int .i64 h.old,.int .i64 h.eden,.int .i64 h.surv,.bool h.flip,.int .i64 h.hash,.slice (some ⟨g3,0,none⟩) h.kept.length d3] fk rfl rfl KX rfl (by kernel_rfl) OKC ?_;intro w9 K9 G9;have r0:w9.cell? ⟨w.heap.size+1,0,none⟩=some (.slice (some ⟨g1,0,none⟩) h.words.length d1):=K9.cell (i:=0) (by omega);have r1:w9.cell? ⟨w.heap.size+1,1,none⟩=some (.slice (some ⟨g2,0,none⟩) h.roots.length d2):=K9.cell (i:=1) (by omega);have r2:w9.cell? ⟨w.heap.size+1,2,none⟩=some (.int .i64 h.old):=K9.cell (i:=2) (by omega);have r3:w9.cell? ⟨w.heap.size+1,3,none⟩=some (.int .i64 h.eden):=K9.cell (i:=3) (by omega);have r4:w9.cell? ⟨w.heap.size+1,4,none⟩=some (.int .i64 h.surv):=K9.cell (i:=4) (by omega);have r5:w9.cell? ⟨w.heap.size+1,5,none⟩=some (.bool h.flip):=K9.cell (i:=5) (by omega);have r6:w9.cell? ⟨w.heap.size+1,6,none⟩=some (.int .i64 h.hash):=K9.cell (i:=6) (by omega);have r7:w9.cell? ⟨w.heap.size+1,7,none⟩=some (.slice (some ⟨g3,0,none⟩) h.kept.length d3):=K9.cell (i:=7) (by omega))
 have B9:Below w.heap.size w w9:=Below.grown bel4 G9 (by rw [sz4];omega) (fun k hk=>by cases hk;omega)
 have HF:HM w.heap.size w9 (.agg #[.slice (some ⟨g1,0,none⟩) h.words.length d1,.slice (some ⟨g2,0,none⟩) h.roots.length d2,.int .i64 h.old,.int .i64 h.eden,.int .i64 h.surv,.bool h.flip,.int .i64 h.hash,.slice (some ⟨g3,0,none⟩) h.kept.length d3]) (Jbd h k x):=by
  rw [Jjm AB]
  have q:=HM.of_rows (h:={ h with roots:=h.roots.set (k:Int).toNat x }) (B:=w.heap.size) (M1.grown G9 (by simp <;> omega)) (M2.grown G9 (by simp <;> omega)) (M3.grown G9 (by simp <;> omega)) m1 m2 m3 (by omega) (by omega) (by omega) (by omega) (by omega) (by omega)
  rw [show ({ h with roots:=h.roots.set (k:Int).toNat x }:Hp).roots.length=h.roots.length from by simp] at q
  exact q
 exact bodyPost_ret (v:=.tuple #[.agg #[.slice (some ⟨g1,0,none⟩) h.words.length d1,.slice (some ⟨g2,0,none⟩) h.roots.length d2,.int .i64 h.old,.int .i64 h.eden,.int .i64 h.surv,.bool h.flip,.int .i64 h.hash,.slice (some ⟨g3,0,none⟩) h.kept.length d3],.bool true]) (by simp [results,Tryz.results73,go_sem,r0,r1,r2,r3,r4,r5,r6,r7]) rfl ⟨⟨_,by rw [AB],HF⟩,B9⟩
end Go.Proofs.YtboiknllmnfipaaGreatDoor
/- A heap being drawn: what is known on the way. -/
namespace Go.Proofs.YtboiknllmnfipaaGreatDoor
open Go.RowKit
def Sm (t:Hp):Prop:=t.words.length<=3200/\t.roots.length<=20/\t.kept.length<=3200
theorem HM.off {B N:Nat} {w w' : World} {v:Value} {h:Hp} (k:HM B w v h) (hg:w.grownBy w' (some N)) (hN:N<B):HM B w' v h :=
 k.keep (fun b hb hl=>hg.block b hl (fun e=>by injection e;omega))
theorem Va {w:World} {B e size n b m:Nat} {t:TypeId} {v:Value} {xs:List Value} {f:Nat->Value} (h:w.ownsRow B e size v n xs) (ht:e ≠ t) (hr:w.rowIs b t m f):v.ownBlock ≠ some b:=by
 intro q
 rcases h.2 with ⟨rfl,_⟩|⟨g,cap,cur,rfl,_,hh,_⟩
 ·cases q
 ·obtain rfl:g=b:=Option.some.inj q
  obtain ⟨c,hc,_⟩:=hr
  rw [hh] at hc
  simp at hc
  exact ht hc.2
theorem Ut {w w' : World} {B n b m:Nat} {v:Value} {xs:List Value} {f:Nat->Value} (h:w.ownsRow B 2 1 v n xs) (hr:w.rowIs b 30 m f) (hg:w.grownBy w' (some b)):w'.ownsRow B 2 1 v n xs:=by
 have ne:=Va h (by decide) hr
 have hlt:=h.lt
 obtain ⟨hl,h⟩:=h
 refine ⟨hl,?_⟩
 rcases h with h|⟨g,cap,cur,rfl,hB,hh,h1⟩
 ·exact .inl h
 ·exact .inr ⟨g,cap,cur,rfl,hB,(hg.block g (hlt g rfl).2 (fun e=>ne e)).trans hh,h1⟩
theorem HM.box {B b m:Nat} {w w' : World} {v:Value} {h:Hp} {f:Nat->Value} (k:HM B w v h) (hr:w.rowIs b 30 m f) (hg:w.grownBy w' (some b)):HM B w' v h:=by
 obtain ⟨v1,v2,v3,e,⟨o1,o2,o3⟩,d1,d2⟩:=k.ex
 exact ⟨v1,v2,v3,e,⟨Ut o1 hr hg,Ut o2 hr hg,Ut o3 hr hg⟩,d1,d2⟩
theorem HM.shape {B:Nat} {w:World} {v:Value} {h:Hp} (k:HM B w v h):∃ p1 p2 p3 e1 e2 e3,v=.agg #[.slice p1 h.words.length e1,.slice p2 h.roots.length e2,.int .i64 h.old,.int .i64 h.eden,.int .i64 h.surv,.bool h.flip,.int .i64 h.hash,.slice p3 h.kept.length e3]:=by
 obtain ⟨v1,v2,v3,rfl,⟨o1,o2,o3⟩,-,-⟩:=k.ex
 obtain ⟨p1,e1,rfl,-⟩:=IRs (E9 o1)
 obtain ⟨p2,e2,rfl,-⟩:=IRs (E9 o2)
 obtain ⟨p3,e3,rfl,-⟩:=IRs (E9 o3)
 exact ⟨p1,p2,p3,e1,e2,e3,rfl⟩
theorem Dw.drew {N:Nat} {cv:Value} {cs:List UInt8} {w:World} (h:Dw N cv cs w):Dw N cv cs w.drew:=⟨h.br.later (Below.refl _ _).drew,h.len,h.dr.drew,h.off⟩
theorem Dw.more {N:Nat} {cv:Value} {cs:List UInt8} {w w' : World} (h:Dw N cv cs w) (hb:Below w.heap.size w w') (hN:N<w.heap.size):Dw N cv cs w' :=
 ⟨h.br.later hb,h.len,h.dr.grown (row:=none) ⟨hb.os,hb.tape,hb.output,hb.size,fun k hk _=>hb.block k hk⟩ (by simp) hN,h.off⟩
end Go.Proofs.YtboiknllmnfipaaGreatDoor
/- The draw of a heap, under way: its state. -/
namespace Go.Proofs.YtboiknllmnfipaaGreatDoor
open Go.RowKit
def hv8 (t:Hp) (p1 p2 p3:Option Addr) (e1 e2 e3:Nat):Array Value:=#[.slice p1 t.words.length e1,.slice p2 t.roots.length e2,.int .i64 t.old,.int .i64 t.eden,.int .i64 t.surv,.bool t.flip,.int .i64 t.hash,.slice p3 t.kept.length e3]
theorem C6 {W:World} {b:Nat} {t:Hp} {p1 p2 p3:Option Addr} {e1 e2 e3:Nat} (k:W.rowIs b 30 8 (fun i=>(hv8 t p1 p2 p3 e1 e2 e3)[i]?.getD undef)) :
  W.cell? ⟨b,0,none⟩=some (.slice p1 t.words.length e1)/\W.cell? ⟨b,1,none⟩=some (.slice p2 t.roots.length e2)/\W.cell? ⟨b,2,none⟩=some (.int .i64 t.old)/\W.cell? ⟨b,3,none⟩=some (.int .i64 t.eden)/\W.cell? ⟨b,4,none⟩=some (.int .i64 t.surv)/\W.cell? ⟨b,5,none⟩=some (.bool t.flip)/\W.cell? ⟨b,6,none⟩=some (.int .i64 t.hash)/\W.cell? ⟨b,7,none⟩=some (.slice p3 t.kept.length e3) :=
 ⟨k.cell (i:=0) (by omega),k.cell (i:=1) (by omega),k.cell (i:=2) (by omega),k.cell (i:=3) (by omega),k.cell (i:=4) (by omega),k.cell (i:=5) (by omega),k.cell (i:=6) (by omega),k.cell (i:=7) (by omega)⟩
def Sx (W:World) (N:Nat) (cv:Value) (cs:List UInt8) (w' : World):Prop:=W.grownBy w' (some N)/\Dw N cv cs w'
theorem Sx.refl {W:World} {N:Nat} {cv:Value} {cs:List UInt8} (d:Dw N cv cs W):Sx W N cv cs W:=⟨World.grownBy.refl _ _,d⟩
theorem Sx.drew {W W' : World} {N:Nat} {cv:Value} {cs:List UInt8} (s:Sx W N cv cs W'):Sx W N cv cs W'.drew:=⟨gdrew s.1,s.2.drew⟩
theorem Sx.trans {W W1 W2:World} {N:Nat} {cv:Value} {cs:List UInt8} (s:Sx W N cv cs W1) (k:Sx W1 N cv cs W2):Sx W N cv cs W2:=⟨gtrans s.1 k.1,k.2⟩
theorem Sx.more {W W1 W2:World} {N:Nat} {cv:Value} {cs:List UInt8} (s:Sx W N cv cs W1) (hb:Below W1.heap.size W1 W2) (hN:N<W.heap.size):Sx W N cv cs W2 :=
 ⟨gtrans s.1 ⟨hb.os,hb.tape,hb.output,hb.size,fun b hl _=>hb.block b hl⟩,s.2.more hb (Nat.lt_of_lt_of_le hN s.1.size)⟩
theorem Sx.put {W W1 W2:World} {N b:Nat} {cv:Value} {cs:List UInt8} (d:Dw N cv cs W) (s:Sx W N cv cs W1) (g:W1.grownBy W2 (some b)) (hb:W.heap.size<=b) (hN:N<W.heap.size):Sx W N cv cs W2:=by
 have q:W.grownBy W2 (some N):=gmix s.1 g (fun k e=>by injection e;omega)
 exact ⟨q,Dw.grown d q s.2 g (fun e=>by injection e;omega) (Nat.lt_of_lt_of_le hN s.1.size)⟩
structure LD (w:World) (N:Nat) (cv:Value) (cs:List UInt8) (H gQ:Nat) (W:World) (t:Hp) (p1 p2 p3:Option Addr) (e1 e2 e3:Nat):Prop where
 dw:Dw N cv cs W
 d0:Dw N cv cs w
 gr:w.grownBy W (some N)
 row:W.rowIs H 30 8 (fun i=>(hv8 t p1 p2 p3 e1 e2 e3)[i]?.getD undef)
 hm:HM w.heap.size W (.agg (hv8 t p1 p2 p3 e1 e2 e3)) t
 res:∃ f,W.rowIs w.heap.size 30 8 f
 wd:RI W gQ [0,8,-6] 3
 hN:N<w.heap.size
 hH:w.heap.size<H
 hQ:w.heap.size<=gQ
 sm:Sm t
 wl:t.words.length=3200
theorem LD.step {w:World} {N:Nat} {cv:Value} {cs:List UInt8} {H gQ:Nat} {W W' : World} {t:Hp} {p1 p2 p3:Option Addr} {e1 e2 e3:Nat} (k:LD w N cv cs H gQ W t p1 p2 p3 e1 e2 e3) (s:Sx W N cv cs W'):LD w N cv cs H gQ W' t p1 p2 p3 e1 e2 e3:=by
 obtain ⟨f,F⟩:=k.res
 have hN:=k.hN
 have hH:=k.hH
 have hQ:=k.hQ
 have n1:some H ≠ some N:=fun e=>by injection e;omega
 have n2:some w.heap.size ≠ some N:=fun e=>by injection e;omega
 have n3:some gQ ≠ some N:=fun e=>by injection e;omega
 exact ⟨s.2,k.d0,gtrans k.gr s.1,k.row.of_block (s.1.block _ k.row.lt n1),k.hm.off s.1 hN,⟨f,F.of_block (s.1.block _ F.lt n2)⟩,k.wd.grown s.1 n3,hN,hH,hQ,k.sm,k.wl⟩
theorem LD.later {w:World} {N:Nat} {cv:Value} {cs:List UInt8} {H gQ:Nat} {W W' : World} {t:Hp} {p1 p2 p3:Option Addr} {e1 e2 e3:Nat} (k:LD w N cv cs H gQ W t p1 p2 p3 e1 e2 e3) (hb:Below W.heap.size W W'):LD w N cv cs H gQ W' t p1 p2 p3 e1 e2 e3 :=
 k.step ((Sx.refl k.dw).more hb (Nat.lt_of_lt_of_le k.hN k.gr.size))
structure XB (w W:World) (b:Nat) (t:Hp) (p1 p2 p3:Option Addr) (e1 e2 e3:Nat):Prop where
 row:W.rowIs b 30 8 (fun i=>(hv8 t p1 p2 p3 e1 e2 e3)[i]?.getD undef)
 hm:HM w.heap.size W (.agg (hv8 t p1 p2 p3 e1 e2 e3)) t
 sm:Sm t
 lt:w.heap.size<b
theorem LD.take {w:World} {N:Nat} {cv:Value} {cs:List UInt8} {H gQ:Nat} {W W' : World} {t t' : Hp} {p1 p2 p3:Option Addr} {e1 e2 e3:Nat} {q1 q2 q3:Option Addr} {f1 f2 f3:Nat} (k:LD w N cv cs H gQ W t p1 p2 p3 e1 e2 e3) (hx:HM w.heap.size W (.agg (hv8 t' q1 q2 q3 f1 f2 f3)) t') (sx:Sm t') (wx:t'.words.length=3200) (g:W.grownBy W' (some H)) (r:W'.rowIs H 30 8 (fun i=>(hv8 t' q1 q2 q3 f1 f2 f3)[i]?.getD undef)):LD w N cv cs H gQ W' t' q1 q2 q3 f1 f2 f3:=by
 obtain ⟨f,F⟩:=k.res
 have hN:=k.hN
 have hH:=k.hH
 have n2:some w.heap.size ≠ some H:=fun e=>by injection e;omega
 have nQ:some gQ ≠ some H:=fun e=>by
  injection e with e
  subst e
  obtain ⟨ff,⟨c,hc,_⟩,_⟩:=k.wd
  obtain ⟨c',hc',_⟩:=k.row
  rw [hc] at hc'
  simp at hc'
 have G:w.grownBy W' (some N):=gmix k.gr g (fun b e=>by injection e;omega)
 exact ⟨Dw.grown k.d0 G k.dw g (fun e=>by injection e;omega) (Nat.lt_of_lt_of_le hN k.gr.size),k.d0,G,r,hx.box k.row g,⟨f,F.of_block (g.block _ F.lt n2)⟩,k.wd.grown g nQ,hN,hH,k.hQ,sx,wx⟩
def Jmb (H:Nat) (w:World):Nat:=match w.cell? ⟨H,3,none⟩ with
 | some (.int _ e)=>e.toNat
 | _=>0
theorem Jdx {H:Nat} {w:World} {e:Int} (h:w.cell? ⟨H,3,none⟩=some (.int .i64 e)):Jmb H w=e.toNat:=by
 unfold Jmb
 rw [h]
def Jcz (w:World) (N:Nat) (cv:Value) (cs:List UInt8) (x:Ending) (w' : World):Prop:=(∃ u t,x=.returned u/\HM w.heap.size w' u t/\Sm t/\t.words.length=3200)/\w.grownBy w' (some N)/\Dw N cv cs w'
theorem LD.done {w:World} {N:Nat} {cv:Value} {cs:List UInt8} {H gQ:Nat} {W W' : World} {t:Hp} {p1 p2 p3:Option Addr} {e1 e2 e3:Nat} (k:LD w N cv cs H gQ W t p1 p2 p3 e1 e2 e3) (g:W.grownBy W' (some w.heap.size)):Jcz w N cv cs (.returned (.agg (hv8 t p1 p2 p3 e1 e2 e3))) W':=by
 obtain ⟨f,F⟩:=k.res
 have hN:=k.hN
 have G:w.grownBy W' (some N):=gmix k.gr g (fun b e=>by injection e;omega)
 exact ⟨⟨_,t,rfl,k.hm.box F g,k.sm,k.wl⟩,G,Dw.grown k.d0 G k.dw g (fun e=>by injection e;omega) (Nat.lt_of_lt_of_le hN k.gr.size)⟩
end Go.Proofs.YtboiknllmnfipaaGreatDoor
/- A graph being drawn: its state, and what it is behind one change. -/
namespace Go.Proofs.YtboiknllmnfipaaGreatDoor
open Go.RowKit
def LowG (B:Nat) (v:Value):Prop:=∀ a n c,v=.slice (some a) n c->0<n->B<=a.block
theorem N3 {w:World} {B e size m:Nat} {v:Value} {xs:List Value} (h:w.ownsRow B e size v m xs):LowG B v:=by
 intro a n c e _
 rcases h.2 with ⟨rfl,_⟩|⟨g,cap,cur,rfl,hB,_⟩
 ·cases e
 ·simp only [Value.slice.injEq,Option.some.injEq] at e
  obtain ⟨rfl,_⟩:=e
  exact hB
theorem IR.keepG {w w' : World} {B:Nat} {v:Value} {l:List Int} (h:IR w v l) (hl:LowG B v) (q:∀ b,B<=b->b<w.heap.size->w'.heap[b]?=w.heap[b]?):IR w' v l:=by
 obtain ⟨ao,cap,rfl,hle,h⟩:=h
 refine ⟨ao,cap,rfl,hle,fun i hi=>?_⟩
 obtain ⟨b,o,rfl,hc⟩:=h i hi
 have q':=q b (hl _ _ _ rfl (by omega)) (World.block_lt_of_cell? _ _ hc)
 exact ⟨b,o,rfl,(World.cell?_of_block (w:=w) (a:=⟨b,o+i,none⟩) q').trans hc⟩
theorem LowG.down {B C:Nat} {v:Value} (h:LowG B v) (hC:C<=B):LowG C v:=fun a n c e q=>Nat.le_trans hC (h a n c e q)
def GAt (B:Nat) (w:World) (v:Value) (g:Gr):Prop:=∃ rv nv,v=.agg #[rv,nv,.int .i64 g.hash]/\IR w rv g.roots/\LowG B rv ∧
 ((g.nodes=[]/\∃ a c,nv=.slice a 0 c) ∨ ∃ nb nc fv,nv=.slice (some ⟨nb,0,none⟩) g.nodes.length nc/\NB w nb g.nodes fv/\B<=nb/\(∀ i,i<g.nodes.length->LowG B (fv i))/\g.nodes.length<=nc)
theorem GAt.gr {B:Nat} {w:World} {v:Value} {g:Gr} (h:GAt B w v g):GR w v g:=by
 obtain ⟨rv,nv,e,ir,_,⟨e0,a,c,rfl⟩|⟨nb,nc,fv,rfl,hb,_,_,hc⟩⟩:=h
 ·refine ⟨rv,_,e,ir,?_⟩
  rw [e0]
  exact ⟨a,c,rfl,Nat.zero_le _,fun i hi=>by simp at hi⟩
 ·exact ⟨rv,_,e,ir,hb.nr hc⟩
theorem GAt.keep {B:Nat} {w w1:World} {v:Value} {g:Gr} (h:GAt B w v g) (k:∀ b,B<=b->b<w.heap.size->w1.heap[b]?=w.heap[b]?):GAt B w1 v g:=by
 obtain ⟨rv,nv,e,ir,lr,h⟩:=h
 refine ⟨rv,nv,e,ir.keepG lr k,lr,?_⟩
 rcases h with h|⟨nb,nc,fv,e1,hb,hB,lf,hc⟩
 ·exact .inl h
 ·obtain ⟨M,f,R,r⟩:=hb.row
  exact .inr ⟨nb,nc,fv,e1,⟨⟨M,f,R.of_block (k nb hB R.lt),r⟩,fun i hi=>(hb.fl i hi).keepG (lf i hi) k⟩,hB,lf,hc⟩
theorem GAt.down {B C:Nat} {w:World} {v:Value} {g:Gr} (h:GAt B w v g) (hC:C<=B):GAt C w v g:=by
 obtain ⟨rv,nv,e,ir,lr,h⟩:=h
 refine ⟨rv,nv,e,ir,lr.down hC,?_⟩
 rcases h with h|⟨nb,nc,fv,e1,hb,hB,lf,hc⟩
 ·exact .inl h
 ·exact .inr ⟨nb,nc,fv,e1,hb,Nat.le_trans hC hB,fun i hi=>(lf i hi).down hC,hc⟩
theorem GAt.off {B N:Nat} {w w1:World} {v:Value} {g:Gr} (h:GAt B w v g) (hg:w.grownBy w1 (some N)) (hN:N<B):GAt B w1 v g:=h.keep (fun b h1 h2=>hg.block b h2 (fun e=>by have:=Option.some.inj e;omega))
theorem GAt.of {B nb nc:Nat} {w:World} {rv:Value} {hh:Int} {rl:List Int} {ns:List Nd} {fv:Nat->Value} (hr:IR w rv rl) (lr:LowG B rv) (hn:NB w nb ns fv) (hB:B<=nb) (lf:∀ i,i<ns.length->LowG B (fv i)) (hc:ns.length<=nc):GAt B w (.agg #[rv,.slice (some ⟨nb,0,none⟩) ns.length nc,.int .i64 hh]) ⟨rl,ns,hh⟩ :=
 ⟨_,_,rfl,hr,lr,.inr ⟨nb,nc,fv,rfl,hn,hB,lf,hc⟩⟩
theorem GAt.of0 {B nc:Nat} {w:World} {rv:Value} {a:Option Addr} {hh:Int} {rl:List Int} (hr:IR w rv rl) (lr:LowG B rv):GAt B w (.agg #[rv,.slice a 0 nc,.int .i64 hh]) ⟨rl,[],hh⟩ :=
 ⟨_,_,rfl,hr,lr,.inl ⟨rfl,_,_,rfl⟩⟩
def R64 (l:List Int):Prop:=∀ x,x ∈ l->g64 x
def Gsm (g:Gr):Prop:=g.roots.length<=1000/\g.nodes.length<=10000/\U6 g.nodes
def Jdm (w:World) (N:Nat) (cv:Value) (cs:List UInt8) (x:Ending) (w' : World):Prop:=(∃ v g,x=.returned v/\GAt w.heap.size w' v g/\Gsm g/\R64 g.roots)/\w.grownBy w' (some N)/\Dw N cv cs w'
structure GF (w:World) (N:Nat) (cv:Value) (cs:List UInt8) (H:Nat) (W:World) (rv nv:Value) (hh:Int):Prop where
 dw:Dw N cv cs W
 d0:Dw N cv cs w
 gr:w.grownBy W (some N)
 box:W.rowIs H 27 3 (grF rv nv hh)
 res:∃ f,W.rowIs w.heap.size 27 3 f
 hN:N<w.heap.size
 hH:w.heap.size<H
 ex:∃ g,GAt (w.heap.size+1) W (.agg #[rv,nv,.int .i64 hh]) g/\Gsm g/\R64 g.roots
theorem GF.done {w:World} {N:Nat} {cv:Value} {cs:List UInt8} {H:Nat} {W W' : World} {rv nv:Value} {hh:Int} (k:GF w N cv cs H W rv nv hh) (g:W.grownBy W' (some w.heap.size)):Jdm w N cv cs (.returned (.agg #[rv,nv,.int .i64 hh])) W':=by
 have hN:=k.hN
 obtain ⟨gg,ga,sm⟩:=k.ex
 have G:w.grownBy W' (some N):=gmix k.gr g (fun b e=>by injection e;omega)
 exact ⟨⟨_,gg,rfl,(ga.off g (Nat.lt_succ_self _)).down (Nat.le_succ _),sm⟩,G,Dw.grown k.d0 G k.dw g (fun e=>by injection e;omega) (Nat.lt_of_lt_of_le hN k.gr.size)⟩
structure GP (w:World) (N:Nat) (cv:Value) (cs:List UInt8) (H:Nat) (W:World) (rv nv:Value) (g:Gr) (fv:Nat->Value):Prop where
 dw:Dw N cv cs W
 d0:Dw N cv cs w
 gr:w.grownBy W (some N)
 box:W.rowIs H 27 3 (grF rv nv g.hash)
 res:∃ f,W.rowIs w.heap.size 27 3 f
 hN:N<w.heap.size
 hH:w.heap.size<H
 rt:W.ownsRow (w.heap.size+1) 2 1 rv g.roots.length (icells g.roots)
 nd:NOwn (w.heap.size+1) W nv g.nodes fv
 ap:∀ i,i<g.nodes.length->∀ b,rv.ownBlock=some b->(fv i).ownBlock ≠ some b
 sm:g.roots.length<=20/\g.nodes.length<=3200/\U6 g.nodes/\(∀ n,n ∈ g.nodes->n.fl.length<=1000)
 r6:R64 g.roots
theorem GP.mv {w:World} {N:Nat} {cv:Value} {cs:List UInt8} {H:Nat} {W W' : World} {rv nv:Value} {g:Gr} {fv:Nat->Value} (k:GP w N cv cs H W rv nv g fv) (d:Dw N cv cs W') (gw' : w.grownBy W' (some N)) {S:Nat->Prop} (q:Grew W W' S) (hS:∀ b,S b->b<w.heap.size):GP w N cv cs H W' rv nv g fv:=by
 obtain ⟨f,R⟩:=k.res
 have hH:=k.hH
 exact ⟨d,k.d0,gw',q.row k.box (fun e=>by have:=hS _ e;omega),⟨f,q.row R (fun e=>by have:=hS _ e;omega)⟩,k.hN,hH,q.own k.rt (fun b e s=>by have:=(k.rt.lt b e).1;have:=hS b s;omega),q.nown k.nd (fun b s=>by have:=hS b s;omega),k.ap,k.sm,k.r6⟩
theorem GP.step {w:World} {N:Nat} {cv:Value} {cs:List UInt8} {H:Nat} {W W' : World} {rv nv:Value} {g:Gr} {fv:Nat->Value} (k:GP w N cv cs H W rv nv g fv) (s:Sx W N cv cs W'):GP w N cv cs H W' rv nv g fv :=
 k.mv s.2 (gtrans k.gr s.1) (Grew.grown s.1) (fun b e=>by have:=Option.some.inj e;have:=k.hN;omega)
theorem GP.later {w:World} {N:Nat} {cv:Value} {cs:List UInt8} {H:Nat} {W W' : World} {rv nv:Value} {g:Gr} {fv:Nat->Value} (k:GP w N cv cs H W rv nv g fv) (hb:Below W.heap.size W W'):GP w N cv cs H W' rv nv g fv:=by
 have hN:=k.hN
 have hs:=k.gr.size
 exact k.mv (k.dw.more hb (by omega)) (gtrans k.gr ⟨hb.os,hb.tape,hb.output,hb.size,fun b h1 _=>hb.block b h1⟩) (Grew.new hb (fun _=>False)) (fun b q=>q.elim)
theorem GP.gat {w:World} {N:Nat} {cv:Value} {cs:List UInt8} {H:Nat} {W:World} {rv nv:Value} {g:Gr} {fv:Nat->Value} (k:GP w N cv cs H W rv nv g fv) (hh:Int):GAt (w.heap.size+1) W (.agg #[rv,nv,.int .i64 hh]) ⟨g.roots,g.nodes,hh⟩:=by
 obtain ⟨xs,ho,ht,hf,ha⟩:=k.nd
 rcases ho.2 with ⟨rfl,e⟩|⟨nb,cap,cur,rfl,hB,r⟩
 ·have e2:g.nodes=[]:=List.eq_nil_of_length_eq_zero e
  rw [e2]
  exact GAt.of0 (E9 k.rt) (N3 k.rt)
 ·obtain ⟨hb,hc,hB',-⟩:=NOwn.nb ⟨xs,ho,ht,hf,ha⟩
  exact GAt.of (E9 k.rt) (N3 k.rt) hb hB' (fun i hi=>N3 (hf i hi)) hc
theorem GP.small {w:World} {N:Nat} {cv:Value} {cs:List UInt8} {H:Nat} {W:World} {rv nv:Value} {g:Gr} {fv:Nat->Value} (k:GP w N cv cs H W rv nv g fv) (hh:Int):Gsm ⟨g.roots,g.nodes,hh⟩:=by
 obtain ⟨a,b,c,_⟩:=k.sm
 exact ⟨by show g.roots.length<=1000;omega,by show g.nodes.length<=10000;omega,c⟩
theorem GP.gf {w:World} {N:Nat} {cv:Value} {cs:List UInt8} {H:Nat} {W:World} {rv nv:Value} {g:Gr} {fv:Nat->Value} (k:GP w N cv cs H W rv nv g fv):GF w N cv cs H W rv nv g.hash :=
 ⟨k.dw,k.d0,k.gr,k.box,k.res,k.hN,k.hH,_,k.gat g.hash,k.small g.hash,k.r6⟩
theorem Ot {w:World} {H t m B e s n:Nat} {f:Nat->Value} {v:Value} {xs:List Value} (h:w.rowIs H t m f) (ho:w.ownsRow B e s v n xs) (ne:t ≠ e):v.ownBlock ≠ some H:=by
 intro k
 obtain ⟨c,hc,_⟩:=h
 rcases ho.2 with ⟨rfl,_⟩|⟨g,cap,cur,rfl,_,hh,_⟩
 ·simp [Value.ownBlock] at k
 ·simp [Value.ownBlock] at k
  subst k
  rw [hc] at hh
  simp at hh
  exact ne hh.2
theorem GP.hash {w:World} {N:Nat} {cv:Value} {cs:List UInt8} {H:Nat} {W:World} {rv nv:Value} {g:Gr} {fv:Nat->Value} (k:GP w N cv cs H W rv nv g fv) (x:Int):GF w N cv cs H (W.setCell ⟨H,2,none⟩ (.int .i64 x)) rv nv x:=by
 have hN:=k.hN
 have hH:=k.hH
 have G:=Disk.grown_set W H 2 (.int .i64 x)
 obtain ⟨f,R⟩:=k.res
 have G2:w.grownBy (W.setCell ⟨H,2,none⟩ (.int .i64 x)) (some N):=gmix k.gr G (fun b e=>by injection e;omega)
 have hs:=k.gr.size
 have nH:∀ (v:Value) (n:Nat) (ys:List Value),W.ownsRow (w.heap.size+1) 2 1 v n ys->(W.setCell ⟨H,2,none⟩ (.int .i64 x)).ownsRow (w.heap.size+1) 2 1 v n ys:=fun v n ys h=>(Grew.set W H 2 _).own h (fun b e s=>Ot k.box h (by decide) (by rw [e,s]))
 obtain ⟨xs,ho,ht,hf,ha⟩:=k.nd
 have nd' : NOwn (w.heap.size+1) (W.setCell ⟨H,2,none⟩ (.int .i64 x)) nv g.nodes fv:=⟨xs,(Grew.set W H 2 _).own ho (fun b e s=>Ot k.box ho (by decide) (by rw [e,s])),ht,fun i hi=>nH _ _ _ (hf i hi),ha⟩
 have bx:(W.setCell ⟨H,2,none⟩ (.int .i64 x)).rowIs H 27 3 (grF rv nv x):=(k.box.set 2 (.int .i64 x)).congr fun i hi=>by
  match i,hi with
  | 0,_=>rfl
  | 1,_=>rfl
  | 2,_=>rfl
 have kk:GP w N cv cs H (W.setCell ⟨H,2,none⟩ (.int .i64 x)) rv nv ⟨g.roots,g.nodes,x⟩ fv->GF w N cv cs H (W.setCell ⟨H,2,none⟩ (.int .i64 x)) rv nv x:=fun q=>q.gf
 have d2:Dw N cv cs (W.setCell ⟨H,2,none⟩ (.int .i64 x)):=Dw.grown k.d0 G2 k.dw G (fun e=>by injection e;omega) (by omega)
 obtain ⟨r0,r1⟩:(∃ f',(W.setCell ⟨H,2,none⟩ (.int .i64 x)).rowIs w.heap.size 27 3 f')/\True:=⟨⟨f,R.setOther (a:=⟨H,2,none⟩) (by show w.heap.size ≠ H;omega) _⟩,trivial⟩
 refine ⟨d2,k.d0,G2,bx,r0,hN,hH,⟨g.roots,g.nodes,x⟩,?_,k.small x,k.r6⟩
 rcases ho.2 with ⟨rfl,e⟩|⟨nb,cap,cur,rfl,hB,r⟩
 ·have e2:g.nodes=[]:=List.eq_nil_of_length_eq_zero e
  rw [e2]
  exact GAt.of0 (E9 (nH _ _ _ k.rt)) (N3 k.rt)
 ·obtain ⟨hb,hc,hB',-⟩:=NOwn.nb nd'
  exact GAt.of (E9 (nH _ _ _ k.rt)) (N3 k.rt) hb hB' (fun i hi=>N3 (hf i hi)) hc
end Go.Proofs.YtboiknllmnfipaaGreatDoor
/- A graph being drawn: one more root, one more node, another class, one more field, two nodes exchanged. -/
namespace Go.Proofs.YtboiknllmnfipaaGreatDoor
open Go.RowKit
structure GB (w:World) (N:Nat) (cv:Value) (cs:List UInt8) (W:World):Prop where
 dw:Dw N cv cs W
 d0:Dw N cv cs w
 gr:w.grownBy W (some N)
 res:∃ f,W.rowIs w.heap.size 27 3 f
 hN:N<w.heap.size
theorem GP.gb {w:World} {N:Nat} {cv:Value} {cs:List UInt8} {H:Nat} {W:World} {rv nv:Value} {g:Gr} {fv:Nat->Value} (k:GP w N cv cs H W rv nv g fv):GB w N cv cs W:=⟨k.dw,k.d0,k.gr,k.res,k.hN⟩
theorem GB.step {w:World} {N:Nat} {cv:Value} {cs:List UInt8} {W W' : World} {r:Option Nat} (k:GB w N cv cs W) (g:W.grownBy W' r) (hr:∀ b,r=some b->w.heap.size<b):GB w N cv cs W':=by
 have hN:=k.hN
 have hs:=k.gr.size
 obtain ⟨f,R⟩:=k.res
 have G:w.grownBy W' (some N):=gmix k.gr g (fun b e=>Nat.le_of_lt (hr b e))
 exact ⟨Dw.grown k.d0 G k.dw g (fun e=>by have:=hr N e.symm;omega) (by omega),k.d0,G,⟨f,R.of_block (g.block _ R.lt (fun e=>by have:=hr _ e.symm;omega))⟩,hN⟩
theorem GB.set {w:World} {N:Nat} {cv:Value} {cs:List UInt8} {W:World} (k:GB w N cv cs W) (b i:Nat) (v:Value) (hb:w.heap.size<b):GB w N cv cs (W.setCell ⟨b,i,none⟩ v):=k.step (Disk.grown_set W b i v) (fun q e=>by injection e;omega)
theorem GB.gf {w:World} {N:Nat} {cv:Value} {cs:List UInt8} {H:Nat} {W:World} {rv nv:Value} {hh:Int} {g:Gr} (k:GB w N cv cs W) (box:W.rowIs H 27 3 (grF rv nv hh)) (hH:w.heap.size<H) (ga:GAt (w.heap.size+1) W (.agg #[rv,nv,.int .i64 hh]) g) (sm:Gsm g) (r6:R64 g.roots):GF w N cv cs H W rv nv hh :=
 ⟨k.dw,k.d0,k.gr,box,k.res,k.hN,hH,g,ga,sm,r6⟩
theorem NB.keep {w w' : World} {nb:Nat} {ns:List Nd} {fv:Nat->Value} {S:Nat->Prop} (h:NB w nb ns fv) (q:Grew w w' S) (h1:¬ S nb) (h2:∀ i,i<ns.length->∀ b,inB (fv i) b->¬ S b):NB w' nb ns fv:=by
 obtain ⟨M,f,R,r⟩:=h.row
 exact ⟨⟨M,f,q.row R h1,r⟩,fun i hi=>q.ir (h.fl i hi) (h2 i hi)⟩
theorem Jhy {w:World} {H t:Nat} {rv nv u:Value} {hh:Int} (h:w.rowIs H t 3 (grF rv nv hh)):(w.setCell ⟨H,0,none⟩ u).rowIs H t 3 (grF u nv hh):=Jad h u
theorem Jib {w:World} {H t:Nat} {rv nv u:Value} {hh:Int} (h:w.rowIs H t 3 (grF rv nv hh)):(w.setCell ⟨H,1,none⟩ u).rowIs H t 3 (grF rv u hh):=Jab h u
theorem GP.root {w:World} {N:Nat} {cv:Value} {cs:List UInt8} {H:Nat} {W W' : World} {rv rv1 nv:Value} {g:Gr} {fv:Nat->Value} {x:Int} (k:GP w N cv cs H W rv nv g fv) (hx:g64 x) (ho:W'.ownsRow (w.heap.size+1) 2 1 rv1 (g.roots.length+1) (icells g.roots ++ [.int .i64 x])) (gg:W.grownBy W' rv.ownBlock) :
  GF w N cv cs H (W'.setCell ⟨H,0,none⟩ rv1) rv1 nv g.hash:=by
 have hH:=k.hH
 have G1:=Grew.grown gg
 have G2:=Grew.set W' H 0 rv1
 have bx1:=G1.row k.box (fun e=>Ot k.box k.rt (by decide) e)
 have B2:=(k.gb.step gg (fun b e=>(k.rt.lt b e).1)).set H 0 rv1 hH
 have ho2:(W'.setCell ⟨H,0,none⟩ rv1).ownsRow (w.heap.size+1) 2 1 rv1 (g.roots ++ [x]).length (icells (g.roots ++ [x])):=by
  have q:=G2.own ho (fun b e s=>Ot bx1 ho (by decide) (by rw [e,s]))
  simpa [icells] using q
 obtain ⟨xs,hn,ht,hf,ha⟩:=k.nd
 refine B2.gf (g:=⟨g.roots ++ [x],g.nodes,g.hash⟩) (Jhy bx1) hH ?_ ⟨by show (g.roots ++ [x]).length<=1000;have:=k.sm.1;simp;omega,by have:=k.sm.2.1;show g.nodes.length<=10000;omega,k.sm.2.2.1⟩ (fun y hy=>by
  rcases List.mem_append.1 (show y ∈ g.roots ++ [x] from hy) with z|z
  ·exact k.r6 y z
  ·rw [List.mem_singleton] at z;rw [z];exact hx)
 rcases hn.2 with ⟨rfl,e⟩|⟨nb,cap,cur,rfl,hB,r⟩
 ·have e2:g.nodes=[]:=List.eq_nil_of_length_eq_zero e
  rw [e2]
  exact GAt.of0 (E9 ho2) (N3 ho2)
 ·obtain ⟨hb,hc,hB',hd⟩:=NOwn.nb ⟨xs,hn,ht,hf,ha⟩
  have hb1:=hb.keep G1 (fun e=>Qe k.rt hn (by decide) e rfl) (fun i hi b q e=>k.ap i hi b e (Oh (hf i hi) q))
  have hb2:=hb1.keep G2 (fun e=>Ot bx1 (G1.own hn (fun b e1 e2=>Qe k.rt hn (by decide) e2 e1)) (by decide) (by rw [<- e];rfl)) (fun i hi b q e=>Ot k.box (hf i hi) (by decide) (by rw [Oh (hf i hi) q,e]))
  exact GAt.of (E9 ho2) (N3 ho2) hb2 hB' (fun i hi=>N3 (hf i hi)) hc
theorem GP.node {w:World} {N:Nat} {cv:Value} {cs:List UInt8} {H:Nat} {W W' : World} {rv nv nv1:Value} {g:Gr} {fv:Nat->Value} {xs:List Value} {y z:Int} (k:GP w N cv cs H W rv nv g fv) (hx:W.ownsRow (w.heap.size+1) 41 3 nv g.nodes.length xs) (ht:Trip xs g.nodes fv)
  (ho:W'.ownsRow (w.heap.size+1) 41 3 nv1 (g.nodes.length+1) (xs ++ [.int .i64 y,.int .i64 z,.slice none 0 0])) (gg:W.grownBy W' nv.ownBlock) (hy:g64 y) (hz:g64 z) :
  GF w N cv cs H (W'.setCell ⟨H,1,none⟩ nv1) rv nv1 g.hash:=by
 have hH:=k.hH
 have G1:=Grew.grown gg
 have G2:=Grew.set W' H 1 nv1
 have bx1:=G1.row k.box (fun e=>Ot k.box hx (by decide) e)
 have B2:=(k.gb.step gg (fun b e=>(hx.lt b e).1)).set H 1 nv1 hH
 obtain ⟨xs2,hn,_,hf0,ha⟩:=k.nd
 have hf:∀ i,i<g.nodes.length->W.ownsRow (w.heap.size+1) 2 1 (fv i) (g.nodes.getD i nd0).fl.length (icells (g.nodes.getD i nd0).fl):=hf0
 have rt2:(W'.setCell ⟨H,1,none⟩ nv1).ownsRow (w.heap.size+1) 2 1 rv g.roots.length (icells g.roots):=G2.own (G1.own k.rt (fun b e s=>Qe k.rt hx (by decide) e s)) (fun b e s=>Ot k.box k.rt (by decide) (by rw [e,s]))
 have ho2:(W'.setCell ⟨H,1,none⟩ nv1).ownsRow (w.heap.size+1) 41 3 nv1 (g.nodes ++ [(⟨y,z,[]⟩:Nd)]).length (xs ++ [.int .i64 y,.int .i64 z,.slice none 0 0]):=by
  have q:=G2.own ho (fun b e s=>Ot bx1 ho (by decide) (by rw [e,s]))
  simpa using q
 have nd2:NOwn (w.heap.size+1) (W'.setCell ⟨H,1,none⟩ nv1) nv1 (g.nodes ++ [⟨y,z,[]⟩]) (fun i=>if i=g.nodes.length then .slice none 0 0 else fv i):=by
  refine ⟨_,ho2,ht.snoc y z [] (.slice none 0 0),fun i hi=>?_,fun i j hi hj hij b q=>?_⟩
  ·have hi' : i<g.nodes.length+1:=by simpa using hi
   dsimp only
   by_cases e:i=g.nodes.length
   ·subst e
    have e2:(g.nodes ++ [(⟨y,z,[]⟩:Nd)]).getD g.nodes.length nd0=⟨y,z,[]⟩:=by simp
    rw [if_pos rfl,e2]
    exact World.ownsRow_nil _ _ _ _
   ·have hlt:i<g.nodes.length:=by omega
    have eg:(g.nodes ++ [(⟨y,z,[]⟩:Nd)]).getD i nd0=g.nodes.getD i nd0:=by simp [List.getD_eq_getElem?_getD,List.getElem?_append_left hlt]
    rw [if_neg e,eg]
    exact G2.own (G1.own (hf i hlt) (fun b e s=>Qe (hf i hlt) hx (by decide) e s)) (fun b e s=>Ot k.box (hf i hlt) (by decide) (by rw [e,s]))
  ·have hi' : i<g.nodes.length+1:=by simpa using hi
   have hj' : j<g.nodes.length+1:=by simpa using hj
   dsimp only at q ⊢
   by_cases q1:i=g.nodes.length
   ·rw [if_pos q1] at q
    simp [Value.ownBlock] at q
   ·rw [if_neg q1] at q
    by_cases q2:j=g.nodes.length
    ·rw [if_pos q2]
     simp [Value.ownBlock]
    ·rw [if_neg q2]
     exact ha i j (by omega) (by omega) hij b q
 have SM:Gsm ⟨g.roots,g.nodes ++ [⟨y,z,[]⟩],g.hash⟩:=by
  refine ⟨by have:=k.sm.1;show g.roots.length<=1000;omega,by have:=k.sm.2.1;show (g.nodes ++ [(⟨y,z,[]⟩:Nd)]).length<=10000;simp;omega,fun n hn=>?_⟩
  have hn' : n ∈ g.nodes ++ [(⟨y,z,[]⟩:Nd)]:=hn
  rw [List.mem_append,List.mem_singleton] at hn'
  rcases hn' with q|rfl
  ·exact k.sm.2.2.1 n q
  ·exact ⟨⟨hy,hz,fun x hx=>by simp at hx⟩,by simp⟩
 refine B2.gf (Jib bx1) hH ?_ SM k.r6
 rcases ho.2 with ⟨_,e⟩|⟨nb,cap,cur,rfl,hB,r⟩
 ·omega
 ·have q:NOwn (w.heap.size+1) (W'.setCell ⟨H,1,none⟩ (.slice (some ⟨nb,0,none⟩) (g.nodes.length+1) cap)) (.slice (some ⟨nb,0,none⟩) (g.nodes ++ [(⟨y,z,[]⟩:Nd)]).length cap) (g.nodes ++ [⟨y,z,[]⟩]) (fun i=>if i=g.nodes.length then .slice none 0 0 else fv i):=by
   have e:(g.nodes ++ [(⟨y,z,[]⟩:Nd)]).length=g.nodes.length+1:=by simp
   rw [e]
   exact nd2
  obtain ⟨hb,hc,hB',-⟩:=NOwn.nb q
  have:=GAt.of (B:=w.heap.size+1) (hh:=g.hash) (E9 rt2) (N3 rt2) hb hB' (fun i hi=>by obtain ⟨_,_,_,hf2,_⟩:=nd2;exact N3 (hf2 i hi)) hc
  rw [show (g.nodes ++ [(⟨y,z,[]⟩:Nd)]).length=g.nodes.length+1 from by simp] at this
  exact this
theorem GP.cls {w:World} {N:Nat} {cv:Value} {cs:List UInt8} {H nb nc:Nat} {W:World} {rv:Value} {g:Gr} {fv:Nat->Value} {i:Nat} {x:Int} (k:GP w N cv cs H W rv (.slice (some ⟨nb,0,none⟩) g.nodes.length nc) g fv) (hi:i<g.nodes.length) (hx:g64 x) :
  GF w N cv cs H (W.setCell ⟨nb,i * 3,none⟩ (.int .i64 x)) rv (.slice (some ⟨nb,0,none⟩) g.nodes.length nc) g.hash:=by
 have hH:=k.hH
 obtain ⟨xs,hn,ht,hf,ha⟩:=k.nd
 obtain ⟨hb,hc,hB,hd⟩:=NOwn.nb k.nd
 have G:=Grew.set W nb (i * 3) (.int .i64 x)
 have B2:=k.gb.set nb (i * 3) (.int .i64 x) hB
 have nbH:nb ≠ H:=fun e=>Ot k.box hn (by decide) (by rw [e];rfl)
 have rt2:=G.own k.rt (fun b e s=>Qe k.rt hn (by decide) e (by rw [s];rfl))
 obtain ⟨M,f,R,hM,q⟩:=hb.row
 have hb2:NB (W.setCell ⟨nb,i * 3,none⟩ (.int .i64 x)) nb (g.nodes.set i { g.nodes.getD i nd0 with cls:=x }) fv:=by
  refine ⟨⟨M,_,R.set (i * 3) (.int .i64 x),by rw [List.length_set];exact hM,fun j hj=>?_⟩,fun j hj=>?_⟩
  ·rw [List.length_set] at hj
   have q':=q j hj
   by_cases e:j=i
   ·subst e
    have e2:(g.nodes.set j { g.nodes.getD j nd0 with cls:=x }).getD j nd0 = { g.nodes.getD j nd0 with cls:=x }:=by simp [List.getD_eq_getElem?_getD,hj]
    rw [e2]
    refine ⟨by rw [if_pos rfl],?_,?_⟩
    ·rw [if_neg (by omega)];exact q'.2.1
    ·rw [if_neg (by omega)];exact q'.2.2
   ·have e2:(g.nodes.set i { g.nodes.getD i nd0 with cls:=x }).getD j nd0=g.nodes.getD j nd0:=by simp [List.getD_eq_getElem?_getD,Ne.symm e]
    rw [e2]
    refine ⟨?_,?_,?_⟩
    ·rw [if_neg (by omega)];exact q'.1
    ·rw [if_neg (by omega)];exact q'.2.1
    ·rw [if_neg (by omega)];exact q'.2.2
  ·rw [List.length_set] at hj
   have e2:((g.nodes.set i { g.nodes.getD i nd0 with cls:=x }).getD j nd0).fl=(g.nodes.getD j nd0).fl:=by
    by_cases e:j=i
    ·subst e
     simp [List.getD_eq_getElem?_getD,hj]
    ·simp [List.getD_eq_getElem?_getD,Ne.symm e]
   rw [e2]
   exact G.ir (hb.fl j hj) (fun b r s=>hd j hj b (Oh (hf j hj) r) s)
 have SM:Gsm ⟨g.roots,g.nodes.set i { g.nodes.getD i nd0 with cls:=x },g.hash⟩:=by
  refine ⟨by have:=k.sm.1;show g.roots.length<=1000;omega,by have:=k.sm.2.1;show (g.nodes.set i { g.nodes.getD i nd0 with cls:=x }).length<=10000;rw [List.length_set];omega,fun n hn'=>?_⟩
  rcases List.mem_or_eq_of_mem_set (show n ∈ g.nodes.set i { g.nodes.getD i nd0 with cls:=x } from hn') with r|rfl
  ·exact k.sm.2.2.1 n r
  ·have o:=k.sm.2.2.1 (g.nodes.getD i nd0) (by simp [hi])
   exact ⟨⟨hx,o.1.2.1,o.1.2.2⟩,o.2⟩
 refine B2.gf (g:=⟨g.roots,g.nodes.set i { g.nodes.getD i nd0 with cls:=x },g.hash⟩) (G.row k.box (fun e=>nbH e.symm)) hH ?_ SM k.r6
 have:=GAt.of (hh:=g.hash) (nc:=nc) (E9 rt2) (N3 rt2) hb2 hB (fun j hj=>by rw [List.length_set] at hj;exact N3 (hf j hj)) (by rw [List.length_set];exact hc)
 rw [List.length_set] at this
 exact this
end Go.Proofs.YtboiknllmnfipaaGreatDoor
/- A graph being drawn: one more field, two nodes exchanged. -/
namespace Go.Proofs.YtboiknllmnfipaaGreatDoor
open Go.RowKit
theorem Wt {ns:List Nd} {i j:Nat} {n:Nd} (hi:i<ns.length):(ns.set i n).getD j nd0=if j=i then n else ns.getD j nd0:=by
 by_cases e:j=i
 ·subst e
  rw [if_pos rfl]
  simp [List.getD_eq_getElem?_getD,hi]
 ·rw [if_neg e]
  simp [List.getD_eq_getElem?_getD,Ne.symm e]
theorem NB.put3 {w:World} {nb i:Nat} {ns:List Nd} {fv:Nat->Value} {n:Nd} {f:Value} (h:NB w nb ns fv) (hi:i<ns.length) (hf:IR w f n.fl) (nf:∀ b,inB f b->b ≠ nb) (nv:∀ j,j<ns.length->∀ b,inB (fv j) b->b ≠ nb) :
  NB (((w.setCell ⟨nb,i * 3,none⟩ (.int .i64 n.cls)).setCell ⟨nb,i * 3+1,none⟩ (.int .i64 n.hash)).setCell ⟨nb,i * 3+2,none⟩ f) nb (ns.set i n) (fun j=>if j=i then f else fv j):=by
 obtain ⟨M,q,R,hM,r⟩:=h.row
 have G:Grew w (((w.setCell ⟨nb,i * 3,none⟩ (.int .i64 n.cls)).setCell ⟨nb,i * 3+1,none⟩ (.int .i64 n.hash)).setCell ⟨nb,i * 3+2,none⟩ f) (fun k=>k=nb):=((Grew.set _ _ _ _).trans (Grew.set _ _ _ _)).trans (Grew.set _ _ _ _)
 refine ⟨⟨M,_,((R.set (i * 3) (.int .i64 n.cls)).set (i * 3+1) (.int .i64 n.hash)).set (i * 3+2) f,by rw [List.length_set];exact hM,fun j hj=>?_⟩,fun j hj=>?_⟩
 ·rw [List.length_set] at hj
  have r':=r j hj
  rw [Wt hi]
  (try dsimp only)
  by_cases e:j=i
  ·subst e
   rw [if_pos rfl,if_pos rfl]
   refine ⟨?_,?_,?_⟩
   ·rw [if_neg (by omega),if_neg (by omega)]
   ·rw [if_neg (by omega),if_pos rfl]
   ·simp
  ·rw [if_neg e,if_neg e]
   refine ⟨?_,?_,?_⟩
   ·rw [if_neg (by omega),if_neg (by omega),if_neg (by omega)];exact r'.1
   ·rw [if_neg (by omega),if_neg (by omega),if_neg (by omega)];exact r'.2.1
   ·rw [if_neg (by omega),if_neg (by omega),if_neg (by omega)];exact r'.2.2
 ·rw [List.length_set] at hj
  rw [Wt hi]
  (try dsimp only)
  by_cases e:j=i
  ·rw [if_pos e,if_pos e]
   exact G.ir hf nf
  ·rw [if_neg e,if_neg e]
   exact G.ir (h.fl j hj) (nv j hj)
theorem GP.field {w:World} {N:Nat} {cv:Value} {cs:List UInt8} {H nb nc:Nat} {W W' : World} {rv f1:Value} {g:Gr} {fv:Nat->Value} {i:Nat} {x:Int} (k:GP w N cv cs H W rv (.slice (some ⟨nb,0,none⟩) g.nodes.length nc) g fv) (hi:i<g.nodes.length) (hx:g64 x)
  (ho:W'.ownsRow (w.heap.size+1) 2 1 f1 ((g.nodes.getD i nd0).fl.length+1) (icells (g.nodes.getD i nd0).fl ++ [.int .i64 x])) (gg:W.grownBy W' (fv i).ownBlock) :
  GF w N cv cs H (W'.setCell ⟨nb,i * 3+2,none⟩ f1) rv (.slice (some ⟨nb,0,none⟩) g.nodes.length nc) g.hash:=by
 have hH:=k.hH
 obtain ⟨xs,hn,ht,hf,ha⟩:=k.nd
 obtain ⟨hb,hc,hB,hd⟩:=NOwn.nb k.nd
 have G1:=Grew.grown gg
 have G2:=Grew.set W' nb (i * 3+2) f1
 have nbH:nb ≠ H:=fun e=>Ot k.box hn (by decide) (by rw [e];rfl)
 have B2:=(k.gb.step gg (fun b e=>((hf i hi).lt b e).1)).set nb (i * 3+2) f1 hB
 have bx:(W'.setCell ⟨nb,i * 3+2,none⟩ f1).rowIs H 27 3 (grF rv (.slice (some ⟨nb,0,none⟩) g.nodes.length nc) g.hash):=G2.row (G1.row k.box (fun e=>Ot k.box (hf i hi) (by decide) e)) (fun e=>nbH e.symm)
 obtain ⟨M,q,R,hM,r⟩:=hb.row
 have R1:W'.rowIs nb 41 M q:=G1.row R (fun e=>hd i hi nb e rfl)
 have ho' : W'.ownsRow (w.heap.size+1) 2 1 f1 ((g.nodes.getD i nd0).fl ++ [x]).length (icells ((g.nodes.getD i nd0).fl ++ [x])):=by simpa [icells] using ho
 have rt2:IR (W'.setCell ⟨nb,i * 3+2,none⟩ f1) rv g.roots:=G2.ir (G1.ir (E9 k.rt) (fun b z e=>k.ap i hi b (Oh k.rt z) e)) (fun b z e=>Qe k.rt hn (by decide) (Oh k.rt z) (by rw [e];rfl))
 have n1:∀ b,inB f1 b->b ≠ nb:=fun b z e=>Ot R1 ho' (by decide) (by rw [Oh ho' z,e])
 have nb2:NB (W'.setCell ⟨nb,i * 3+2,none⟩ f1) nb (g.nodes.set i { g.nodes.getD i nd0 with fl:=(g.nodes.getD i nd0).fl ++ [x] }) (fun j=>if j=i then f1 else fv j):=by
  refine ⟨⟨M,_,R1.set (i * 3+2) f1,by rw [List.length_set];exact hM,fun j hj=>?_⟩,fun j hj=>?_⟩
  ·rw [List.length_set] at hj
   have r':=r j hj
   rw [Wt hi]
   dsimp only
   by_cases e:j=i
   ·subst e
    rw [if_pos rfl,if_pos rfl]
    refine ⟨?_,?_,?_⟩
    ·rw [if_neg (by omega)];exact r'.1
    ·rw [if_neg (by omega)];exact r'.2.1
    ·rw [if_pos rfl]
   ·rw [if_neg e,if_neg e]
    refine ⟨?_,?_,?_⟩
    ·rw [if_neg (by omega)];exact r'.1
    ·rw [if_neg (by omega)];exact r'.2.1
    ·rw [if_neg (by omega)];exact r'.2.2
  ·rw [List.length_set] at hj
   rw [Wt hi]
   dsimp only
   by_cases e:j=i
   ·rw [if_pos e,if_pos e]
    exact G2.ir (E9 ho') n1
   ·rw [if_neg e,if_neg e]
    exact G2.ir (G1.ir (hb.fl j hj) (fun b z s=>ha i j hi hj (Ne.symm e) b s (Oh (hf j hj) z))) (fun b z s=>hd j hj b (Oh (hf j hj) z) s)
 have SM:Gsm ⟨g.roots,g.nodes.set i { g.nodes.getD i nd0 with fl:=(g.nodes.getD i nd0).fl ++ [x] },g.hash⟩:=by
  refine ⟨by have:=k.sm.1;show g.roots.length<=1000;omega,by have:=k.sm.2.1;show (g.nodes.set i { g.nodes.getD i nd0 with fl:=(g.nodes.getD i nd0).fl ++ [x] }).length<=10000;rw [List.length_set];omega,fun n hn'=>?_⟩
  rcases List.mem_or_eq_of_mem_set (show n ∈ g.nodes.set i { g.nodes.getD i nd0 with fl:=(g.nodes.getD i nd0).fl ++ [x] } from hn') with z|rfl
  ·exact k.sm.2.2.1 n z
  ·have hm:g.nodes.getD i nd0 ∈ g.nodes:=by simp [hi]
   have o:=k.sm.2.2.1 _ hm
   have o2:=k.sm.2.2.2 _ hm
   refine ⟨⟨o.1.1,o.1.2.1,fun y hy=>?_⟩,?_⟩
   ·rcases List.mem_append.1 (show y ∈ (g.nodes.getD i nd0).fl ++ [x] from hy) with z|z
    ·exact o.1.2.2 y z
    ·rw [List.mem_singleton] at z
     rw [z]
     exact hx
   ·show ((g.nodes.getD i nd0).fl ++ [x]).length<=10000000
    simp only [List.length_append,List.length_singleton]
    omega
 refine B2.gf (g:=⟨g.roots,g.nodes.set i { g.nodes.getD i nd0 with fl:=(g.nodes.getD i nd0).fl ++ [x] },g.hash⟩) bx hH ?_ SM k.r6
 have:=GAt.of (hh:=g.hash) (nc:=nc) rt2 (N3 k.rt) nb2 hB (fun j hj=>by
  rw [List.length_set] at hj
  (try dsimp only)
  by_cases e:j=i
  ·rw [if_pos e]
   exact N3 ho'
  ·rw [if_neg e]
   exact N3 (hf j hj)) (by rw [List.length_set];exact hc)
 rw [List.length_set] at this
 exact this
theorem GP.swap {w:World} {N:Nat} {cv:Value} {cs:List UInt8} {H nb nc:Nat} {W:World} {rv:Value} {g:Gr} {fv:Nat->Value} (k:GP w N cv cs H W rv (.slice (some ⟨nb,0,none⟩) g.nodes.length nc) g fv) (h2:1<g.nodes.length) :
  GF w N cv cs H ((((((W.setCell ⟨nb,0,none⟩ (.int .i64 (g.nodes.getD 1 nd0).cls)).setCell ⟨nb,1,none⟩ (.int .i64 (g.nodes.getD 1 nd0).hash)).setCell ⟨nb,2,none⟩ (fv 1)).setCell ⟨nb,3,none⟩ (.int .i64 (g.nodes.getD 0 nd0).cls)).setCell ⟨nb,4,none⟩ (.int .i64 (g.nodes.getD 0 nd0).hash)).setCell ⟨nb,5,none⟩ (fv 0)) rv (.slice (some ⟨nb,0,none⟩) g.nodes.length nc) g.hash:=by
 have hH:=k.hH
 obtain ⟨xs,hn,ht,hf,ha⟩:=k.nd
 obtain ⟨hb,hc,hB,hd⟩:=NOwn.nb k.nd
 have nbH:nb ≠ H:=fun e=>Ot k.box hn (by decide) (by rw [e];rfl)
 have nn:∀ j,j<g.nodes.length->∀ b,inB (fv j) b->b ≠ nb:=fun j hj b z=>hd j hj b (Oh (hf j hj) z)
 have b1:=hb.put3 (i:=0) (n:=g.nodes.getD 1 nd0) (f:=fv 1) (by omega) (hb.fl 1 h2) (nn 1 h2) nn
 have l1:(g.nodes.set 0 (g.nodes.getD 1 nd0)).length=g.nodes.length:=List.length_set ..
 have G1:Grew W (((W.setCell ⟨nb,0 * 3,none⟩ (.int .i64 (g.nodes.getD 1 nd0).cls)).setCell ⟨nb,0 * 3+1,none⟩ (.int .i64 (g.nodes.getD 1 nd0).hash)).setCell ⟨nb,0 * 3+2,none⟩ (fv 1)) (fun z=>z=nb):=((Grew.set _ _ _ _).trans (Grew.set _ _ _ _)).trans (Grew.set _ _ _ _)
 have b2:=b1.put3 (i:=1) (n:=g.nodes.getD 0 nd0) (f:=fv 0) (by omega) (G1.ir (hb.fl 0 (by omega)) (nn 0 (by omega))) (nn 0 (by omega)) (fun j hj b z=>by
  rw [l1] at hj
  (try dsimp only at z)
  split at z
  ·exact nn 1 h2 b z
  ·exact nn j hj b z)
 have G2:Grew W ((((((W.setCell ⟨nb,0,none⟩ (.int .i64 (g.nodes.getD 1 nd0).cls)).setCell ⟨nb,1,none⟩ (.int .i64 (g.nodes.getD 1 nd0).hash)).setCell ⟨nb,2,none⟩ (fv 1)).setCell ⟨nb,3,none⟩ (.int .i64 (g.nodes.getD 0 nd0).cls)).setCell ⟨nb,4,none⟩ (.int .i64 (g.nodes.getD 0 nd0).hash)).setCell ⟨nb,5,none⟩ (fv 0)) (fun z=>z=nb) :=
  (((((Grew.set _ _ _ _).trans (Grew.set _ _ _ _)).trans (Grew.set _ _ _ _)).trans (Grew.set _ _ _ _)).trans (Grew.set _ _ _ _)).trans (Grew.set _ _ _ _)
 have B2:=((((((k.gb.set nb 0 (.int .i64 (g.nodes.getD 1 nd0).cls) hB).set nb 1 (.int .i64 (g.nodes.getD 1 nd0).hash) hB).set nb 2 (fv 1) hB).set nb 3 (.int .i64 (g.nodes.getD 0 nd0).cls) hB).set nb 4 (.int .i64 (g.nodes.getD 0 nd0).hash) hB).set nb 5 (fv 0) hB)
 have rt2:=G2.own k.rt (fun b e s=>Qe k.rt hn (by decide) e (by rw [s];rfl))
 have l2:((g.nodes.set 0 (g.nodes.getD 1 nd0)).set 1 (g.nodes.getD 0 nd0)).length=g.nodes.length:=by rw [List.length_set,l1]
 have SM:Gsm ⟨g.roots,(g.nodes.set 0 (g.nodes.getD 1 nd0)).set 1 (g.nodes.getD 0 nd0),g.hash⟩:=by
  refine ⟨by have:=k.sm.1;show g.roots.length<=1000;omega,by have:=k.sm.2.1;show ((g.nodes.set 0 (g.nodes.getD 1 nd0)).set 1 (g.nodes.getD 0 nd0)).length<=10000;rw [l2];omega,fun n hn'=>?_⟩
  have m0:g.nodes.getD 0 nd0 ∈ g.nodes:=by simp [show 0<g.nodes.length from by omega]
  have m1:g.nodes.getD 1 nd0 ∈ g.nodes:=by simp [h2]
  rcases List.mem_or_eq_of_mem_set (show n ∈ (g.nodes.set 0 (g.nodes.getD 1 nd0)).set 1 (g.nodes.getD 0 nd0) from hn') with z|rfl
  ·rcases List.mem_or_eq_of_mem_set z with z|rfl
   ·exact k.sm.2.2.1 n z
   ·exact k.sm.2.2.1 _ m1
  ·exact k.sm.2.2.1 _ m0
 refine B2.gf (g:=⟨g.roots,(g.nodes.set 0 (g.nodes.getD 1 nd0)).set 1 (g.nodes.getD 0 nd0),g.hash⟩) (G2.row k.box (fun e=>nbH e.symm)) hH ?_ SM k.r6
 have:=GAt.of (hh:=g.hash) (nc:=nc) (E9 rt2) (N3 rt2) b2 hB (fun j hj=>by
  rw [l2] at hj
  (try dsimp only)
  split
  ·exact N3 (hf 0 (by omega))
  ·split
   ·exact N3 (hf 1 h2)
   ·exact N3 (hf j hj)) (by rw [l2];exact hc)
 rw [l2] at this
 exact this
end Go.Proofs.YtboiknllmnfipaaGreatDoor
/- l6Shape of the model: the graph of a right heap. -/
namespace Go.Proofs.YtboiknllmnfipaaGreatDoor
open Go.RowKit
theorem Jea {l:List Nat} {x:Int} (h:I8 l x=true):x % 2=0 ∨ isK 2 x=true:=by
 by_cases e:isK 2 x=true
 ·exact .inr e
 ·refine .inl ?_
  unfold I8 at h
  unfold isK at e
  simp only [Bool.or_eq_true,decide_eq_true_eq,Bool.and_eq_true] at h e
  have k1:H8 x=1:=by
   rcases h with q|q
   ·exact q
   ·exact absurd q.1 e
  unfold H8 at k1
  split at k1
  ·split at k1 <;> omega
  ·omega
theorem Jmc (w:World):(Instr.makeSlice 24 (.int .i64 3200) (.int .i64 3200)).run Tryz.prog w=.ok (.slice (some ⟨w.heap.size,0,none⟩) 3200 3200) (w.alloc (.cells (madeCells #[.int .i64 0] 3200) 2)):=Jho 3200 (by omega) w
theorem Jgj {h:Hp} {l:List Nat} (r:RightAt h l) {k:Nat} (hk:k<h.roots.length) :
  (h.roots.getD k 0 % 2=0 ∨ isK 2 (h.roots.getD k 0)=true)/\(fol [] (h.roots.take k)).length<=3200/\On (fol [] (h.roots.take k)) (h.roots.getD k 0)=fol [] (h.roots.take (k+1)) ∧
  ren (On (fol [] (h.roots.take k)) (h.roots.getD k 0)) (h.roots.getD k 0)=ren (C8 h.words h.roots) (h.roots.getD k 0):=by
 have hm:h.roots.getD k 0 ∈ h.roots:=by simp [hk]
 have hp:∀ j,fol [] (h.roots.take j) <+: C8 h.words h.roots:=fun j=>(Qu [] h.roots j).trans (Sc (W:=h.words) (R:=h.roots) (k:=0) (by omega))
 refine ⟨Jea (Ss r _ hm),Nat.le_trans (hp k).length_le (O7 r),(Qv [] h.roots k hk).symm,?_⟩
 rw [<- Qv [] h.roots k hk]
 refine Jdz (hp (k+1)) fun q=>?_
 rw [Qv [] h.roots k hk]
 exact Xv q
theorem Jcw {h:Hp} {l:List Nat} (r:RightAt h l) {k j:Nat} (hk:k<(tr h.words h.roots k).length) (hk3:k<3200) (hj:j<(flds h.words ((tr h.words h.roots k).getD k 0)).length) :
  let a:=(tr h.words h.roots k).getD k 0
  ((flds h.words a).getD j 0 % 2=0 ∨ isK 2 ((flds h.words a).getD j 0)=true)/\(fol (tr h.words h.roots k) ((flds h.words a).take j)).length<=3200 ∧
  On (fol (tr h.words h.roots k) ((flds h.words a).take j)) ((flds h.words a).getD j 0)=fol (tr h.words h.roots k) ((flds h.words a).take (j+1)) ∧
  ren (On (fol (tr h.words h.roots k) ((flds h.words a).take j)) ((flds h.words a).getD j 0)) ((flds h.words a).getD j 0)=ren (C8 h.words h.roots) ((flds h.words a).getD j 0):=by
 intro a
 have ha:a ∈ l:=Xn r k (by simp [a,hk])
 have hm:(flds h.words a).getD j 0 ∈ flds h.words a:=by
  rw [Jej hj]
  exact List.getElem_mem hj
 have hp:∀ j,fol (tr h.words h.roots k) ((flds h.words a).take j) <+: C8 h.words h.roots:=fun j=>by
  have h1:=Qu (tr h.words h.roots k) (flds h.words a) j
  rw [<- U7 _ _ _ hk] at h1
  exact h1.trans (Sc (k:=k+1) (by omega))
 refine ⟨Jea (Qt r ha _ hm),Nat.le_trans (hp j).length_le (O7 r),(Qv _ _ j hj).symm,?_⟩
 rw [<- Qv _ _ j hj]
 refine Jdz (hp (j+1)) fun q=>?_
 rw [Qv _ _ j hj]
 exact Xv q
theorem Rt {w:World} {b t:Nat} {rv nv u0 u1:Value} {hh h2:Int} (h:w.rowIs b t 3 (grF rv nv hh)) :
  (((w.setCell ⟨b,0,none⟩ u0).setCell ⟨b,1,none⟩ u1).setCell ⟨b,2,none⟩ (.int .i64 h2)).rowIs b t 3 (grF u0 u1 h2)/\Grew w (((w.setCell ⟨b,0,none⟩ u0).setCell ⟨b,1,none⟩ u1).setCell ⟨b,2,none⟩ (.int .i64 h2)) (fun k=>k=b):=by
 refine ⟨((Jab (Jad h u0) u1).set 2 _).congr fun i hi=>?_,((Grew.set _ _ _ _).trans (Grew.set _ _ _ _)).trans (Grew.set _ _ _ _)⟩
 unfold grF
 by_cases e:i=2
 ·simp [e]
 ·rw [if_neg e]
  by_cases e0:i=0
  ·simp [e0]
  ·by_cases e1:i=1
   ·simp [e1]
   ·omega
theorem Jbz {W:List Int} {a m j:Nat} (hm:gw W a=(m:Int)) (hj:j<m):(flds W a).getD j 0=gw W (a+4+j):=by
 unfold flds
 rw [hm,Int.toNat_natCast]
 simp [hj]
theorem Jdl {h:Hp} {l:List Nat} (r:RightAt h l) {k m j:Nat} (hk:k<(tr h.words h.roots k).length) (hk3:k<3200) (hm:gw h.words ((tr h.words h.roots k).getD k 0)=(m:Int)) (hj:j<m) :
  (gw h.words ((tr h.words h.roots k).getD k 0+4+j) % 2=0 ∨ isK 2 (gw h.words ((tr h.words h.roots k).getD k 0+4+j))=true)/\(fol (tr h.words h.roots k) ((flds h.words ((tr h.words h.roots k).getD k 0)).take j)).length<=3200 ∧
  On (fol (tr h.words h.roots k) ((flds h.words ((tr h.words h.roots k).getD k 0)).take j)) (gw h.words ((tr h.words h.roots k).getD k 0+4+j))=fol (tr h.words h.roots k) ((flds h.words ((tr h.words h.roots k).getD k 0)).take (j+1)) ∧
  ren (On (fol (tr h.words h.roots k) ((flds h.words ((tr h.words h.roots k).getD k 0)).take j)) (gw h.words ((tr h.words h.roots k).getD k 0+4+j))) (gw h.words ((tr h.words h.roots k).getD k 0+4+j))=ren (C8 h.words h.roots) (gw h.words ((tr h.words h.roots k).getD k 0+4+j)) ∧
  ((flds h.words ((tr h.words h.roots k).getD k 0)).take (j+1)).map (ren (C8 h.words h.roots))=((flds h.words ((tr h.words h.roots k).getD k 0)).take j).map (ren (C8 h.words h.roots)) ++ [ren (C8 h.words h.roots) (gw h.words ((tr h.words h.roots k).getD k 0+4+j))]:=by
 have hl:j<(flds h.words ((tr h.words h.roots k).getD k 0)).length:=by rw [N5,hm];exact hj
 have q:=Jcw r hk hk3 hl
 simp only at q
 rw [Jbz hm hj] at q
 refine ⟨q.1,q.2.1,q.2.2.1,q.2.2.2,?_⟩
 rw [Rc _ _ hl,Jbz hm hj]
 simp
theorem Sh2.node {N:Nat} {W0 wr:World} {hh:Int} {o:List Nat} {rl:List Int} {ns:List Nd} {ov rv nv:Value} {K:Nat->Prop} (s:Sh2 N W0 wr hh o rl ns ov rv nv K) (c z:Int) :
  Sh3 N W0 (wr.alloc (.cells #[.int .i64 c,.int .i64 z,.slice none 0 0] 41)).drew hh o rl ns ov rv nv K wr.heap.size c z [] (.slice none 0 0):=by
 refine ⟨s.new (S:=fun _=>False) (Grew.new (C5 _ _) _).drew (fun b q=>q.elim),s.sz,⟨fun q=>?_,fun q=>?_,fun q=>?_,by simp [Value.ownBlock]⟩,?_,World.ownsRow_nil _ _ _ _,fun b e=>by simp [Value.ownBlock] at e⟩
 ·have:=(s.kk _ q).2.1;omega
 ·have:=(s.ord.lt _ q).2;omega
 ·have:=(s.ndb _ q).2.1;omega
 ·exact World.rowIs_alloc wr #[.int .i64 c,.int .i64 z,.slice none 0 0] _ _ (fun i hi=>by
   match i,hi with
   | 0,_=>rfl
   | 1,_=>rfl
   | 2,_=>rfl)
end Go.Proofs.YtboiknllmnfipaaGreatDoor
/- The tour of the model: the graph it lays is owned. -/
namespace Go.Proofs.YtboiknllmnfipaaGreatDoor
open Go.RowKit
set_option maxRecDepth 100000 in
set_option maxHeartbeats 3200000 in
theorem Vv (v:Value) (h:Hp) (l:List Nat) (w:World) (hv:HR w v h) (hr:RightAt h l) :
  Calls Tryz.prog 29 #[v] w fun x w'=>(∃ v',x=.returned v' /\ GN w.heap.size w' v' (shP h))/\Below w.heap.size w w':=by
 obtain ⟨v1,v2,v3,rfl,i1,i2,i3⟩:=hv
 have hlen:=hr.1.1
 obtain ⟨b,o,cap,rfl,_,hW⟩:=i1.ws (by omega)
 obtain ⟨ra,rc,rfl,_,hR⟩:=id i2
 have hrl:h.roots.length<=20:=hr.2.2.2.2.2.1
 have hlt:b<w.heap.size:=World.block_lt_of_cell? _ _ (hW 0 (by omega))
 rw [hlen]
 have HLN:Hid (h.words.length=3200):=hlen
 have X0:=(Bx.new w (.slice (some ⟨b,o,none⟩) 3200 cap) (.slice ra h.roots.length rc) v3 h 30).later (C5 _ (.cells #[.slice none 0 0,.slice none 0 0,.int .i64 0] 27))
 generalize hW0:(w.alloc (.cells #[.slice (some ⟨b,o,none⟩) 3200 cap,.slice ra h.roots.length rc,.int .i64 h.old,.int .i64 h.eden,.int .i64 h.surv,.bool h.flip,.int .i64 h.hash,v3] 30)).alloc (.cells #[.slice none 0 0,.slice none 0 0,.int .i64 0] 27)=W0 at X0
 have Z0:W0.heap.size=w.heap.size+2:=by rw [<- hW0];simp
 have B0:Below w.heap.size w W0:=by rw [<- hW0];exact C3 (C5 _ _) (C5 _ _)
 have mk:=Jmc
 obtain ⟨c0,c1,c2,c3,c4,c5,c6,c7⟩:=id X0
 clear hlen i1 i2 i3
 have S0:Sh1 w.heap.size W0 (((W0.alloc (.cells (madeCells #[.int .i64 0] 3200) 2)).alloc (.cells #[] 2)).alloc (.cells #[.slice none 0 0,.slice none 0 0,.int .i64 h.hash] 27)) h.hash [] [] (.slice (some ⟨w.heap.size+2+1,0,none⟩) 0 0) (.slice none 0 0):=by
  have n0:(W0.alloc (.cells (madeCells #[.int .i64 0] 3200) 2)).rowIs (w.heap.size+2) 2 3200 (nmF []):=by
   have q:=World.rowIs_made W0 (.int .i64 0) 3200 2
   rw [Z0] at q
   exact q.congr fun i _=>by simp [nmF]
  have o0:((W0.alloc (.cells (madeCells #[.int .i64 0] 3200) 2)).alloc (.cells #[] 2)).ownsRow (w.heap.size+3) 2 1 (.slice (some ⟨w.heap.size+2+1,0,none⟩) 0 0) 0 []:=by
   have q:=Te (W0.alloc (.cells (madeCells #[.int .i64 0] 3200) 2)) (w.heap.size+3) 2 1 (by simp;omega)
   rwa [World.size_alloc,Z0] at q
  have g0:=Qw ((W0.alloc (.cells (madeCells #[.int .i64 0] 3200) 2)).alloc (.cells #[] 2)) (.slice none 0 0) (.slice none 0 0) h.hash 27
  rw [World.size_alloc,World.size_alloc,Z0] at g0
  refine ⟨?_,by simp;omega,?_,E8 o0 (C5 _ _),by simp [Value.ownBlock],g0,World.ownsRow_nil _ _ _ _,fun b e=>by simp [Value.ownBlock] at e⟩
  ·have q:=C3 (C3 (C5 W0 (.cells (madeCells #[.int .i64 0] 3200) 2)) (C5 _ (.cells #[] 2))) (C5 _ (.cells #[.slice none 0 0,.slice none 0 0,.int .i64 h.hash] 27))
   rwa [Z0] at q
  ·exact (Grew.new (C3 (C5 _ _) (C5 _ _)) (fun _=>False)).row n0 (fun q=>q)
 have RS:Hid (∀ W,Below (w.heap.size+2) W0 W->W.rowIs (w.heap.size+1) 27 3 (grF (.slice none 0 0) (.slice none 0 0) 0)):=fun W q=>by
  have g0:=Qw (w.alloc (.cells #[.slice (some ⟨b,o,none⟩) 3200 cap,.slice ra h.roots.length rc,.int .i64 h.old,.int .i64 h.eden,.int .i64 h.surv,.bool h.flip,.int .i64 h.hash,v3] 30)) (.slice none 0 0) (.slice none 0 0) 0 27
  rw [hW0,World.size_alloc] at g0
  exact g0.of_block (q.block _ (by omega))
 have BX:Hid (∀ W,Below (w.heap.size+2) W0 W->Bx W w.heap.size (.slice (some ⟨b,o,none⟩) 3200 cap) (.slice ra h.roots.length rc) v3 h):=fun W q=>X0.below (q.mono (by omega))
 have BW:Hid (∀ W,Below (w.heap.size+2) W0 W->Below w.heap.size w W):=fun W q=>B0.trans (q.mono (by omega))
 have HRS:Hid (∀ k,k<h.roots.length->(h.roots.getD k 0 % 2=0 ∨ isK 2 (h.roots.getD k 0)=true)/\(fol [] (h.roots.take k)).length<=3200/\On (fol [] (h.roots.take k)) (h.roots.getD k 0)=fol [] (h.roots.take (k+1)) ∧
  ren (On (fol [] (h.roots.take k)) (h.roots.getD k 0)) (h.roots.getD k 0)=ren (C8 h.words h.roots) (h.roots.getD k 0)):=fun k hk=>Jgj hr hk
 go_enter Tryz.func29,Tryz.ntmps29
 go_wp2
 clear c0 c1 c2 c3 c4 c5 c6 c7
 go_loopw [4,6] (fun ovv iv wr=>∃ (k:Nat) (ov rv:Value),k<=h.roots.length/\iv=.int .i64 k/\ov=ovv/\Sh1 w.heap.size W0 wr h.hash (fol [] (h.roots.take k)) ((h.roots.take k).map (ren (C8 h.words h.roots))) ov rv) (fun _ iv _=>h.roots.length - (intOf iv).toNat)
 case atStart=>exact ⟨0,_,_,Nat.zero_le _,rfl,rfl,S0⟩
 case round =>
  obtain ⟨k,ov,rv,hk,rfl,rfl,S⟩:=hrel
  obtain ⟨c0,c1,c2,c3,c4,c5,c6,c7⟩:=BX.out wr S.bel
  by_cases hkl:k<h.roots.length
  ·obtain ⟨rb,ro,rfl,hcw⟩:=hR k hkl
   have hcr:=C2 (BW.out wr S.bel) hcw
   obtain ⟨t1,t2,t3,t4⟩:=HRS.out k hkl
   have TS:Hid ((h.roots.take (k+1)).map (ren (C8 h.words h.roots))=(h.roots.take k).map (ren (C8 h.words h.roots)) ++ [ren (C8 h.words h.roots) (h.roots.getD k 0)]):=(by rw [Rc _ _ hkl];simp:(h.roots.take (k+1)).map (ren (C8 h.words h.roots))=(h.roots.take k).map (ren (C8 h.words h.roots)) ++ [ren (C8 h.words h.roots) (h.roots.getD k 0)])
   have T3:Hid (On (fol [] (h.roots.take k)) (h.roots.getD k 0)=fol [] (h.roots.take (k+1))/\ren (On (fol [] (h.roots.take k)) (h.roots.getD k 0)) (h.roots.getD k 0)=ren (C8 h.words h.roots) (h.roots.getD k 0)):=⟨t3,t4⟩
   have TO:=W4 (w.heap.size+2) 3200 (w.heap.size+3) ov (fol [] (h.roots.take k)) (h.roots.getD k 0) wr S.num S.ord (fun e=>by have:=(S.ord.lt _ e).1;omega) (by have:=S.sz;omega) t1 t2
   clear t1 t2 t3 t4 hcw
   generalize ren (C8 h.words h.roots) (h.roots.getD k 0)=y at *
   generalize h.roots.getD k 0=x at *
   have hkn:(k:Int)<h.roots.length:=by omega
   go_wp2_with fail
   refine TO.mono ?_
   rintro e w1 ⟨ov1,rfl,r1,o1,n1,l1,g1⟩
   rw [T3.out.1] at r1 o1
   rw [T3.out.2]
   have S1:=S.told r1 o1 l1 g1
   have cg:w1.cell? ⟨w.heap.size+2+1+1,0,none⟩=some rv:=S1.g.cell (i:=0) (by omega)
   have al:=C5 w1 (.cells #[.int .i64 y] 2)
   have rt2:=E8 S1.rt al
   have cg2:=C2 al cg
   have hc:∀ W:World,(W.alloc (.cells #[.int .i64 y] 2)).cell? ⟨W.heap.size,0,none⟩=some (.int .i64 y):=fun W=>by simp
   have s1:=S1.sz
   have rl20:((h.roots.take k).map (ren (C8 h.words h.roots))).length=k:=by simp;omega
   rw [rl20] at rt2
   have RT:Hid (∀ w4 fo fc,w4.ownsRow (w.heap.size+5) 2 1 (.slice fo (k+1) fc) (k+1) (icells ((h.roots.take k).map (ren (C8 h.words h.roots))) ++ [.int .i64 y])->(w1.alloc (.cells #[.int .i64 y] 2)).grownBy w4 rv.ownBlock →
    (Value.ownBlock (.slice fo (k+1) fc)=rv.ownBlock ∨ Value.ownBlock (.slice fo (k+1) fc)=some (w1.alloc (.cells #[.int .i64 y] 2)).heap.size)->Sh1 w.heap.size W0 (w4.setCell ⟨w.heap.size+2+1+1,0,none⟩ (.slice fo (k+1) fc)) h.hash (fol [] (h.roots.take (k+1))) ((h.roots.take (k+1)).map (ren (C8 h.words h.roots))) ov1 (.slice fo (k+1) fc)):=fun w4 fo fc q1 q2 q3=>by
    rw [TS.out]
    exact S1.root al (by rw [rl20];exact q1) q2 q3
   have GF:Hid (∀ w4,(w1.alloc (.cells #[.int .i64 y] 2)).grownBy w4 rv.ownBlock->w4.frozen? ⟨w.heap.size+2+1+1,0,none⟩=false/\w4.cell? ⟨w.heap.size+2+1+1,0,none⟩=some rv):=fun w4 q=>by
    have R:=(Grew.grown q).row ((Grew.new al (fun _=>False)).row S1.g (fun q=>q)) (fun e=>by have:=(S1.rt.lt _ e).1;omega)
    exact ⟨R.frozen 0,R.cell (i:=0) (by omega)⟩
   clear r1 o1 n1 l1 g1 S rl20 TO
   go_wp2_with (at_builtin;refine St _ rfl _ _ rfl (w.heap.size+5) _ k (icells ((h.roots.take k).map (ren (C8 h.words h.roots)))) rfl rt2 _ 1 y rfl (hc _) (by omega) (Nat.le_trans s1 (by simp)) ?_;intro v4 w4 hown4 hg4 hloc;(obtain ⟨fo,fc,hv4⟩:=H7 hown4);subst hv4;have hg5:(w1.alloc (.cells #[.int .i64 y] 2)).grownBy w4 rv.ownBlock:=hg4;have SF:=RT.out w4 fo fc hown4 hg5 hloc;(obtain ⟨fz,cz⟩:=GF.out w4 hg5))
   exact ⟨⟨k+1,ov1,_,by omega,by go_num,rfl,SF⟩,by simp [intOf];omega⟩
  ·obtain rfl:k=h.roots.length:=by omega
   rw [List.take_length] at S
   have S2:=S.two
   have E2:=S.ex2
   clear hkl HRS hR S S0 mk X0
   go_wp2
   clear c0 c1 c2 c3 c4 c5 c6 c7 hk
   go_loopw [4,8] (fun ovv iv wr=>∃ (k:Nat) (ov nv:Value) (K:Nat->Prop),k<=(tr h.words h.roots k).length/\k<=3200/\iv=.int .i64 k/\ov=ovv/\Sh2 w.heap.size W0 wr h.hash (tr h.words h.roots k) (h.roots.map (ren (C8 h.words h.roots))) (((C8 h.words h.roots).take k).map (J3 h.words (C8 h.words h.roots))) ov rv nv K/\Ex2 w.heap.size wr (h.roots.map (ren (C8 h.words h.roots))) (((C8 h.words h.roots).take k).map (J3 h.words (C8 h.words h.roots))) rv nv K) (fun _ iv _=>3200 - (intOf iv).toNat)
   case atStart=>exact ⟨0,_,_,_,Nat.zero_le _,Nat.zero_le _,rfl,rfl,S2,E2⟩
   case round =>
    clear S2 E2
    obtain ⟨k,ov,nv,K,hk1,hk2,rfl,rfl,S,EX⟩:=hrel
    obtain ⟨c0,c1,c2,c3,c4,c5,c6,c7⟩:=BX.out wr S.bel
    have BWr:=BW.out wr S.bel
    have hWr:=hW.later BWr
    obtain ⟨oa,oc,hov,hoc⟩:=Si (J2 S.ord)
    subst hov
    have h3:=Jdg hr k
    by_cases hkl:k<(tr h.words h.roots k).length
    ·obtain ⟨ob,oo,rfl,co⟩:=hoc k hkl
     have haL:(tr h.words h.roots k).getD k 0 ∈ l:=Xn hr k (Pj _ _ hkl)
     obtain ⟨q1,q2,q3⟩:=hr.1.obj haL
     have q4:=L6 q3
     obtain ⟨m,hme⟩:=Int.eq_ofNat_of_zero_le q4.1
     have hnx:nx h.words ((tr h.words h.roots k).getD k 0)=(tr h.words h.roots k).getD k 0+4+m:=by unfold nx;rw [hme];rfl
     rw [hnx] at q2
     have ca0:=hWr ((tr h.words h.roots k).getD k 0) (by rw [HLN.out];omega)
     have ca1:=hWr ((tr h.words h.roots k).getD k 0+1) (by rw [HLN.out];omega)
     have ca2:=hWr ((tr h.words h.roots k).getD k 0+2) (by rw [HLN.out];omega)
     have m60:m<=60:=by omega
     rw [hme] at ca0
     have FS:Hid (∀ j,j<m->_):=fun j hj=>Jdl hr hkl (by omega) hme hj
     have FA:Hid ((flds h.words ((tr h.words h.roots k).getD k 0)).length=m):=(by rw [N5,hme];rfl:(flds h.words ((tr h.words h.roots k).getD k 0)).length=m)
     have CW:Hid (∀ (W:World) j,Below (w.heap.size+2) W0 W->j<m->W.cell? ⟨b,o+((tr h.words h.roots k).getD k 0+4+j),none⟩=some (.int .i64 (gw h.words ((tr h.words h.roots k).getD k 0+4+j)))):=fun W j q hj=>(hW.later (BW.out W q)) _ (by rw [HLN.out];omega)
     have CA:Hid (∀ (W:World),Below (w.heap.size+2) W0 W->W.cell? ⟨b,o+(tr h.words h.roots k).getD k 0,none⟩=some (.int .i64 (m:Int))):=fun W q=>by rw [<- hme];exact (hW.later (BW.out W q)) _ (by rw [HLN.out];omega)
     have ND:Hid (J3 h.words (C8 h.words h.roots) ((tr h.words h.roots k).getD k 0)=⟨gw h.words ((tr h.words h.roots k).getD k 0+1),gw h.words ((tr h.words h.roots k).getD k 0+2),(flds h.words ((tr h.words h.roots k).getD k 0)).map (ren (C8 h.words h.roots))⟩/\tr h.words h.roots (k+1)=fol (tr h.words h.roots k) (flds h.words ((tr h.words h.roots k).getD k 0)) ∧
      ((C8 h.words h.roots).take (k+1)).map (J3 h.words (C8 h.words h.roots))=((C8 h.words h.roots).take k).map (J3 h.words (C8 h.words h.roots)) ++ [J3 h.words (C8 h.words h.roots) ((tr h.words h.roots k).getD k 0)]):=by
      refine ⟨rfl,U7 _ _ _ hkl,?_⟩
      have e:=Jee (Sc (W:=h.words) (R:=h.roots) (k:=k) (by omega)) hkl
      have hlo:k<(C8 h.words h.roots).length:=Nat.lt_of_lt_of_le hkl (Sc (W:=h.words) (R:=h.roots) (k:=k) (by omega)).length_le
      rw [Q6 _ _ hlo,e]
      simp
     have HK1:Hid (k+1<=(tr h.words h.roots (k+1)).length/\k+1<=3200):=⟨Nat.le_trans hkl (Z9 h.words h.roots k).length_le,by omega⟩
     clear q3 q4 hme hnx haL hoc
     generalize (tr h.words h.roots k).getD k 0=a at *
     generalize gw h.words (a+1)=x1 at *
     generalize gw h.words (a+2)=x2 at *
     have hki:(k:Int)<(tr h.words h.roots k).length:=by omega
     have l0:=World.block_lt_of_cell? _ _ c0
     have lb:=World.block_lt_of_cell? _ _ ca0
     have ai0:(a:Int)<3200:=by omega
     have ai1:(a:Int)+1<3200:=by omega
     have ai2:(a:Int)+2<3200:=by omega
     go_wp2
     go_region
     go_wp2
     have S3:=S.node x1 x2
     have E3:=EX.keep (S:=fun _=>False) (Grew.new (C5 _ (.cells #[.int .i64 x1,.int .i64 x2,.slice none 0 0] 41)) _).drew (fun b q=>q.elim) (fun b q=>q.elim)
     clear EX
     clear S c0 c1 c2 c3 c4 c5 c6 c7 ca0 ca1 ca2 co BWr hWr
     generalize wr.heap.size=bn at *
     go_loopw [4,11] (fun ovv kv wr2=>∃ (j:Nat) (ov fv:Value),j<=m/\kv=.int .i64 ((a+4+j:Nat):Int)/\ov=ovv/\Sh3 w.heap.size W0 wr2 h.hash (fol (tr h.words h.roots k) ((flds h.words a).take j)) (h.roots.map (ren (C8 h.words h.roots))) (((C8 h.words h.roots).take k).map (J3 h.words (C8 h.words h.roots))) ov rv nv K bn x1 x2 (((flds h.words a).take j).map (ren (C8 h.words h.roots))) fv/\Ex2 w.heap.size wr2 (h.roots.map (ren (C8 h.words h.roots))) (((C8 h.words h.roots).take k).map (J3 h.words (C8 h.words h.roots))) rv nv K) (fun _ kv _=>a+4+m - (intOf kv).toNat)
     case atStart=>exact ⟨0,_,_,Nat.zero_le _,by go_num,rfl,S3,E3⟩
     case round =>
      clear S3 E3
      obtain ⟨j,ov,fv,hj,rfl,rfl,S,EX⟩:=hrel
      obtain ⟨c0,c1,c2,c3,c4,c5,c6,c7⟩:=BX.out wr S.s.bel
      have ca0:=CA.out wr S.s.bel
      by_cases hjm:j<m
      ·have cj:=CW.out wr j S.s.bel hjm
       obtain ⟨t1,t2,t3,t4,t5⟩:=FS.out j hjm
       have TO:=W4 (w.heap.size+2) 3200 (w.heap.size+3) ov _ (gw h.words (a+4+j)) wr S.s.num S.s.ord (fun e=>by have:=(S.s.ord.lt _ e).1;omega) (by have:=S.s.sz;omega) t1 t2
       have T3:Hid (_/\_/\_):=⟨t3,t4,t5⟩
       clear t1 t2 t3 t4 t5
       generalize ren (C8 h.words h.roots) (gw h.words (a+4+j))=y at *
       generalize gw h.words (a+4+j)=x at *
       have aj:(a:Int)+4+j<3200:=by omega
       go_wp2_with fail
       refine TO.mono ?_
       rintro e w1 ⟨ov1,rfl,r1,o1,n1,l1,g1⟩
       rw [T3.out.1] at r1 o1
       rw [T3.out.2.1]
       have S1:=S.told r1 o1 l1 g1
       have E1:=S.s.exTold EX g1
       have cg:w1.cell? ⟨bn,2,none⟩=some fv:=S1.nb.cell (i:=2) (by omega)
       have al:=C5 w1 (.cells #[.int .i64 y] 2)
       have rt2:=E8 S1.fo al
       have cg2:=C2 al cg
       have hc:∀ W:World,(W.alloc (.cells #[.int .i64 y] 2)).cell? ⟨W.heap.size,0,none⟩=some (.int .i64 y):=fun W=>by simp
       have s1:=S1.s.sz
       have LEN:(((flds h.words a).take j).map (ren (C8 h.words h.roots))).length=j:=by rw [List.length_map,List.length_take,FA.out];omega
       rw [LEN] at rt2
       have RT:Hid (∀ w4 fo fc,w4.ownsRow (w.heap.size+5) 2 1 (.slice fo (j+1) fc) (j+1) (icells (((flds h.words a).take j).map (ren (C8 h.words h.roots))) ++ [.int .i64 y])->(w1.alloc (.cells #[.int .i64 y] 2)).grownBy w4 fv.ownBlock →
        (Value.ownBlock (.slice fo (j+1) fc)=fv.ownBlock ∨ Value.ownBlock (.slice fo (j+1) fc)=some (w1.alloc (.cells #[.int .i64 y] 2)).heap.size)->Sh3 w.heap.size W0 (w4.setCell ⟨bn,2,none⟩ (.slice fo (j+1) fc)) h.hash (fol (tr h.words h.roots k) ((flds h.words a).take (j+1))) (h.roots.map (ren (C8 h.words h.roots))) (((C8 h.words h.roots).take k).map (J3 h.words (C8 h.words h.roots))) ov1 rv nv K bn x1 x2 (((flds h.words a).take (j+1)).map (ren (C8 h.words h.roots))) (.slice fo (j+1) fc)/\Ex2 w.heap.size (w4.setCell ⟨bn,2,none⟩ (.slice fo (j+1) fc)) (h.roots.map (ren (C8 h.words h.roots))) (((C8 h.words h.roots).take k).map (J3 h.words (C8 h.words h.roots))) rv nv K):=fun w4 fo fc q1 q2 q3=>by
        rw [T3.out.2.2]
        exact ⟨S1.field al (by rw [LEN];exact q1) q2 q3,S1.exField E1 al q2 _⟩
       have GF:Hid (∀ w4,(w1.alloc (.cells #[.int .i64 y] 2)).grownBy w4 fv.ownBlock->w4.frozen? ⟨bn,2,none⟩=false/\w4.cell? ⟨bn,2,none⟩=some fv):=fun w4 q=>by
        have R:=(Grew.grown q).row ((Grew.new al (fun _=>False)).row S1.nb (fun q=>q)) S1.bnk.2.2.2
        exact ⟨R.frozen 2,R.cell (i:=2) (by omega)⟩
       clear r1 o1 n1 l1 g1 S LEN TO EX E1
       go_wp2_with (at_builtin;refine St _ rfl _ _ rfl (w.heap.size+5) _ j (icells (((flds h.words a).take j).map (ren (C8 h.words h.roots)))) rfl rt2 _ 1 y rfl (hc _) (by omega) (Nat.le_trans s1 (by simp)) ?_;intro v4 w4 hown4 hg4 hloc;(obtain ⟨fo,fc,hv4⟩:=H7 hown4);subst hv4;have hg5:(w1.alloc (.cells #[.int .i64 y] 2)).grownBy w4 fv.ownBlock:=hg4;have SF:=RT.out w4 fo fc hown4 hg5 hloc;(obtain ⟨fz,cz⟩:=GF.out w4 hg5))
       exact ⟨⟨j+1,ov1,_,by omega,by go_num,rfl,SF.1,SF.2⟩,by simp [intOf];omega⟩
      ·obtain rfl:j=m:=by omega
       have TA:(flds h.words a).take j=flds h.words a:=List.take_of_length_le (by rw [FA.out];exact Nat.le_refl _)
       rw [TA,← ND.out.2.1] at S
       obtain ⟨fa,fc,hfv⟩:=H7 S.fo
       obtain ⟨xs,fw,no,nt,nf⟩:=S.s.nd
       have NO:Hid (wr.ownsRow (w.heap.size+5) 41 3 nv (((C8 h.words h.roots).take k).map (J3 h.words (C8 h.words h.roots))).length xs):=no
       have fl20:(((C8 h.words h.roots).take k).map (J3 h.words (C8 h.words h.roots))).length<=3200:=by simp;omega
       generalize hnl:(((C8 h.words h.roots).take k).map (J3 h.words (C8 h.words h.roots))).length=nl at no fl20
       obtain ⟨na,nc,hnv⟩:=H7 no
       subst hfv hnv
       generalize ((flds h.words a).map (ren (C8 h.words h.roots))).length=fn at *
       have n0:wr.cell? ⟨bn,0,none⟩=some (.int .i64 x1):=S.nb.cell (i:=0) (by omega)
       have n1:wr.cell? ⟨bn,1,none⟩=some (.int .i64 x2):=S.nb.cell (i:=1) (by omega)
       have n2:wr.cell? ⟨bn,2,none⟩=some (.slice fa fn fc):=S.nb.cell (i:=2) (by omega)
       have cg:wr.cell? ⟨w.heap.size+2+1+1,1,none⟩=some (.slice na nl nc):=S.s.g.cell (i:=1) (by omega)
       have al:=C5 wr (.cells #[.int .i64 x1,.int .i64 x2,.slice fa fn fc] 41)
       have no2:=E8 no al
       have cg2:=C2 al cg
       have hc:∀ W:World,(W.alloc (.cells #[.int .i64 x1,.int .i64 x2,.slice fa fn fc] 41)).cell? ⟨W.heap.size,0,none⟩=some (.int .i64 x1)/\(W.alloc (.cells #[.int .i64 x1,.int .i64 x2,.slice fa fn fc] 41)).cell? ⟨W.heap.size,1,none⟩=some (.int .i64 x2)/\(W.alloc (.cells #[.int .i64 x1,.int .i64 x2,.slice fa fn fc] 41)).cell? ⟨W.heap.size,2,none⟩=some (.slice fa fn fc):=fun W=>⟨by simp,by simp,by simp⟩
       have s1:=S.s.sz
       have RT:Hid (∀ w4 fo fc',w4.ownsRow (w.heap.size+5) 41 3 (.slice fo (nl+1) fc') (nl+1) (xs ++ [.int .i64 x1,.int .i64 x2,.slice fa fn fc])->(wr.alloc (.cells #[.int .i64 x1,.int .i64 x2,.slice fa fn fc] 41)).grownBy w4 (Value.ownBlock (.slice na nl nc)) →
        (Value.ownBlock (.slice fo (nl+1) fc')=Value.ownBlock (.slice na nl nc) ∨ Value.ownBlock (.slice fo (nl+1) fc')=some (wr.alloc (.cells #[.int .i64 x1,.int .i64 x2,.slice fa fn fc] 41)).heap.size)->Sh2 w.heap.size W0 (w4.setCell ⟨w.heap.size+2+1+1,1,none⟩ (.slice fo (nl+1) fc')) h.hash (tr h.words h.roots (k+1)) (h.roots.map (ren (C8 h.words h.roots))) (((C8 h.words h.roots).take (k+1)).map (J3 h.words (C8 h.words h.roots))) ov rv (.slice fo (nl+1) fc') (fun b=>K b ∨ Value.ownBlock (.slice fa fn fc)=some b)/\Ex2 w.heap.size (w4.setCell ⟨w.heap.size+2+1+1,1,none⟩ (.slice fo (nl+1) fc')) (h.roots.map (ren (C8 h.words h.roots))) (((C8 h.words h.roots).take (k+1)).map (J3 h.words (C8 h.words h.roots))) rv (.slice fo (nl+1) fc') (fun b=>K b ∨ Value.ownBlock (.slice fa fn fc)=some b)):=fun w4 fo fc' q1 q2 q3=>by
        rw [ND.out.2.2,ND.out.1]
        exact ⟨S.done al nt nf (by rw [hnl];exact q1) q2 q3,S.exDone EX al nt NO.out (by rw [hnl];exact q1) q2⟩
       have GF:Hid (∀ w4,(wr.alloc (.cells #[.int .i64 x1,.int .i64 x2,.slice fa fn fc] 41)).grownBy w4 (Value.ownBlock (.slice na nl nc))->w4.frozen? ⟨w.heap.size+2+1+1,1,none⟩=false/\w4.cell? ⟨w.heap.size+2+1+1,1,none⟩=some (.slice na nl nc)):=fun w4 q=>by
        have R:=(Grew.grown q).row ((Grew.new al (fun _=>False)).row S.s.g (fun q=>q)) (fun e=>by have:=(S.s.ndb _ e).1;omega)
        exact ⟨R.frozen 1,R.cell (i:=1) (by omega)⟩
       have HNL:Hid ((((C8 h.words h.roots).take k).map (J3 h.words (C8 h.words h.roots))).length=nl):=hnl
       have HK:=HK1.out
       clear hnl TA FS EX
       go_wp2_with (at_builtin;refine Xy _ rfl _ _ rfl (w.heap.size+5) _ nl xs rfl no2 _ 1 x1 x2 fa fn fc rfl (hc _) (by omega) (Nat.le_trans s1 (by simp)) ?_;intro v4 w4 hown4 hg4 hloc;(obtain ⟨fo,fc',hv4⟩:=H7 hown4);subst hv4;have hg5:(wr.alloc (.cells #[.int .i64 x1,.int .i64 x2,.slice fa fn fc] 41)).grownBy w4 (Value.ownBlock (.slice na nl nc)):=hg4;have SF:=RT.out w4 fo fc' hown4 hg5 hloc;(obtain ⟨fz,cz⟩:=GF.out w4 hg5))
       exact ⟨⟨k+1,ov,_,_,HK.1,HK.2,by go_num,rfl,SF.1,SF.2⟩,by simp [intOf];omega⟩
    ·have hke:(tr h.words h.roots k).length=k:=by omega
     have FE:Hid (C8 h.words h.roots=tr h.words h.roots k):=Jcm hk2 (by omega)
     have RR:=RS.out wr S.bel
     obtain ⟨na,nc,hnv⟩:=NR.shape S.nd.nr
     obtain ⟨ra2,rc2,hrv⟩:=IR.shape S.rt.1
     subst hnv hrv
     have g0:wr.cell? ⟨w.heap.size+2+1+1,0,none⟩=some (.slice ra2 (h.roots.map (ren (C8 h.words h.roots))).length rc2):=S.g.cell (i:=0) (by omega)
     have g1:wr.cell? ⟨w.heap.size+2+1+1,1,none⟩=some (.slice na (((C8 h.words h.roots).take k).map (J3 h.words (C8 h.words h.roots))).length nc):=S.g.cell (i:=1) (by omega)
     have TK:Hid ((C8 h.words h.roots).take k=C8 h.words h.roots):=List.take_of_length_le (by rw [FE.out];omega)
     rw [TK.out] at S g1 EX
     have RD:Hid (∀ W,Grew wr W (fun q=>q=w.heap.size+1)->GN w.heap.size W (.agg #[.slice ra2 (h.roots.map (ren (C8 h.words h.roots))).length rc2,.slice na ((C8 h.words h.roots).map (J3 h.words (C8 h.words h.roots))).length nc,.int .i64 h.hash]) (shP h)/\Below w.heap.size w W):=fun W q=>by
      have hs:=S.sz
      have e1:=EX.keep q (fun b e k=>by have:=(S.kk b k).1;omega) (fun b e k=>by have:=(S.ndb b k).1;omega)
      exact ⟨e1.gn (by omega) h.hash,(BW.out wr S.bel).trans (q.below (by omega) fun b _ e=>by omega)⟩
     have RO:Hid (∀ u0 u1,GN w.heap.size (((wr.setCell ⟨w.heap.size+1,0,none⟩ u0).setCell ⟨w.heap.size+1,1,none⟩ u1).setCell ⟨w.heap.size+1,2,none⟩ (.int .i64 h.hash)) (.agg #[.slice ra2 (h.roots.map (ren (C8 h.words h.roots))).length rc2,.slice na ((C8 h.words h.roots).map (J3 h.words (C8 h.words h.roots))).length nc,.int .i64 h.hash]) (shP h)/\Below w.heap.size w (((wr.setCell ⟨w.heap.size+1,0,none⟩ u0).setCell ⟨w.heap.size+1,1,none⟩ u1).setCell ⟨w.heap.size+1,2,none⟩ (.int .i64 h.hash))):=fun u0 u1=>RD.out _ (Rt RR).2
     generalize (h.roots.map (ren (C8 h.words h.roots))).length=n1 at *
     generalize ((C8 h.words h.roots).map (J3 h.words (C8 h.words h.roots))).length=n2 at *
     have RW:=(Rt (u0:=.slice ra2 n1 rc2) (u1:=.slice na n2 nc) (h2:=h.hash) RR).1
     have e0:=RW.cell (i:=0) (by omega)
     have e1:=RW.cell (i:=1) (by omega)
     have e2:=RW.cell (i:=2) (by omega)
     have g2:wr.cell? ⟨w.heap.size+2+1+1,2,none⟩=some (.int .i64 h.hash):=S.g.cell (i:=2) (by omega)
     have r0:wr.cell? ⟨w.heap.size+1,0,none⟩=some (.slice none 0 0):=RR.cell (i:=0) (by omega)
     have r1:wr.cell? ⟨w.heap.size+1,1,none⟩=some (.slice none 0 0):=RR.cell (i:=1) (by omega)
     have r2:wr.cell? ⟨w.heap.size+1,2,none⟩=some (.int .i64 0):=RR.cell (i:=2) (by omega)
     have f0:=RR.frozen 0
     have f1:=RR.frozen 1
     have f2:=RR.frozen 2
     obtain ⟨fin,bfin⟩:=RO.out (.slice ra2 n1 rc2) (.slice na n2 nc)
     clear hkl RD RO S EX
     go_wp2
     exact bodyPost_ret (v:=.agg #[.slice ra2 n1 rc2,.slice na n2 nc,.int .i64 h.hash]) (by simp [results,Tryz.results29,go_sem,r0,r1,r2]) rfl ⟨⟨_,rfl,fin⟩,bfin⟩
theorem V5 (v:Value) (h:Hp) (l:List Nat) (w:World) (hv:HR w v h) (hr:RightAt h l) :
  Calls Tryz.prog 29 #[v] w fun x w'=>(∃ v',x=.returned v' /\ GRn w.heap.size w' v' (shP h))/\Below w.heap.size w w' :=
 (Vv v h l w hv hr).mono fun _ _ ⟨⟨v',e,g⟩,b⟩=>⟨⟨v',e,g.grn⟩,b⟩
end Go.Proofs.YtboiknllmnfipaaGreatDoor
