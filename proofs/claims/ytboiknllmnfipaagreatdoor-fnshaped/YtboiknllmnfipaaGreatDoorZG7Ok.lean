import Derived.Test.YtboiknllmnfipaaGreatDoorZG6Bld
import Derived.Test.YtboiknllmnfipaaGreatDoorZU22
import Derived.Test.YtboiknllmnfipaaGreatDoorZGSame3
import Derived.Test.YtboiknllmnfipaaGreatDoorZGShS
import Derived.Test.YtboiknllmnfipaaGreatDoorZU23
namespace Go.Proofs.YtboiknllmnfipaaGreatDoor
open Go.RowKit
theorem Rf {g:Gr} (h:Ob g=true->False):Ob g=false:=by
 cases q:Ob g
 ·rfl
 ·exact (h q).elim
def Vm (g:Gr) (n:Nd):Prop:=(0<=n.cls/\n.cls<=99)/\1<=n.hash/\n.hash<g.hash/\n.fl.length<=60/\∀ x,x ∈ n.fl->M9 g.nodes.length x=true
theorem Jmj {g:Gr} (h:T9 g) {i:Nat} (hi:i<g.nodes.length):Vm g (g.nodes.getD i nd0):=h.2.2.2.1 _ (by simp [hi])
theorem Jir {g:Gr} (h:T9 g) {s t:Nat} (hs:s<t) (ht:t<g.nodes.length):(g.nodes.getD s nd0).hash ≠ (g.nodes.getD t nd0).hash:=by
 have q:=List.pairwise_iff_getElem.1 h.2.2.2.2.1
 have hs' : s<g.nodes.length:=by omega
 have q2:=q s t (by simpa using hs') (by simpa using ht) hs
 rw [List.getElem_map,List.getElem_map] at q2
 simpa [hs',ht] using q2
theorem Jlp {g:Gr} (pr:T9 g):Qm (shP (C4 g)) g=Ob g:=by
 cases q:Ob g
 ·cases e:Qm (shP (C4 g)) g
  ·rfl
  ·rw [Zt ⟨pr,(Uz _ _).1 e⟩] at q
   cases q
 ·exact (Uz _ _).2 (Rk q).2
theorem Zh (g:Gr):∀ i,(∀ t,t<i->Vm g (g.nodes.getD t nd0))->i<=g.nodes.length->plc g.nodes i<=64 * i
 | 0,_,_=>by simp [plc]
 | i+1,h,hl=>by
  have q:=Zh g i (fun t ht=>h t (by omega)) (by omega)
  have s:=Ox g.nodes i (by omega)
  have n:=(h i (by omega)).2.2.2.1
  omega
theorem Jlr {g:Gr} (h1:g.nodes.length<=500) (h2:g.roots.length<=20) (h3:1<=g.hash/\g.hash<=1000000000) (h4:∀ i,i<g.nodes.length->Vm g (g.nodes.getD i nd0)) (h5:∀ s t,s<t->t<g.nodes.length->(g.nodes.getD s nd0).hash ≠ (g.nodes.getD t nd0).hash) (h6:∀ j,j<g.roots.length->M9 g.nodes.length (g.roots.getD j 0)=true) (h7:plc g.nodes g.nodes.length<=2000):T9 g:=by
 refine ⟨h1,h2,h3,fun n hn=>?_,?_,fun x hx=>?_,h7⟩
 ·obtain ⟨i,hi,rfl⟩:=List.getElem_of_mem hn
  have q:=h4 i hi
  have e:g.nodes.getD i nd0=g.nodes[i]:=by simp [hi]
  rw [e] at q
  exact q
 ·refine List.pairwise_iff_getElem.2 fun s t hs ht hst=>?_
  rw [List.length_map] at hs ht
  have q:=h5 s t hst ht
  rw [List.getElem_map,List.getElem_map]
  simpa [hs,ht] using q
 ·obtain ⟨i,hi,rfl⟩:=List.getElem_of_mem hx
  have q:=h6 i hi
  simpa [hi] using q
set_option maxRecDepth 100000 in
set_option maxHeartbeats 6400000 in
theorem Y7 (v:Value) (g:Gr) (w:World) (hv:GR w v g) (l1:g.nodes.length<=10000000) (l3:g.roots.length<=10000000) (s64:U6 g.nodes) (r64:∀ x,x ∈ g.roots->g64 x) :
  Calls Tryz.prog 21 #[v] w fun e w'=>e=.returned (.bool (Ob g))/\Below w.heap.size w w':=by
 obtain ⟨ra,rc,na,nc,rfl,hr,hn⟩:=hv.out
 have hbA:=C5 w (.cells #[.slice ra g.roots.length rc,.slice na g.nodes.length nc,.int .i64 g.hash] 27)
 by_cases q1:g.nodes.length<=500
 case neg =>
  have q1i:(500:Int)<(g.nodes.length:Int):=by omega
  have DK:True:=trivial
  have GF:Hid (Ob g=false):=Ub (fun q=>q1 q.1.1)
  clear s64 hr hn hv
  go_enter Tryz.func21,Tryz.ntmps21
  go_wp2
  go_ret
  exact ⟨E7 GF.out.symm,hbA⟩
 by_cases q2:g.roots.length<=20
 case neg =>
  have q1i:¬ (500:Int)<(g.nodes.length:Int):=by omega
  have q2i:(20:Int)<(g.roots.length:Int):=by omega
  have GF:Hid (Ob g=false):=Ub (fun q=>q2 q.1.2.1)
  clear s64 hr hn hv
  go_enter Tryz.func21,Tryz.ntmps21
  go_wp2
  go_ret
  exact ⟨E7 GF.out.symm,hbA⟩
 have q1i:¬ (500:Int)<(g.nodes.length:Int):=by omega
 have q2i:¬ (20:Int)<(g.roots.length:Int):=by omega
 by_cases q3:1<=g.hash/\g.hash<=1000000000
 case neg =>
  have DK:=decide_eq_false q3
  have GF:Hid (Ob g=false):=Ub (fun q=>q3 q.1.2.2.1)
  clear s64 hr hn hv
  go_enter Tryz.func21,Tryz.ntmps21
  go_wp2_with (go_at_call 32;refine (I9 _ _ _ _).mono ?_;rintro e wq ⟨rfl,hq⟩;obtain rfl:=hq.symm;rw [DK])
  go_ret
  exact ⟨E7 GF.out.symm,hbA⟩
 have DK:=decide_eq_true q3
 have c0:=E6 w #[.slice ra g.roots.length rc,.slice na g.nodes.length nc,.int .i64 g.hash] 27 _ rfl 0 _ rfl
 have c1:=E6 w #[.slice ra g.roots.length rc,.slice na g.nodes.length nc,.int .i64 g.hash] 27 _ rfl 1 _ rfl
 have c2:=E6 w #[.slice ra g.roots.length rc,.slice na g.nodes.length nc,.int .i64 g.hash] 27 _ rfl 2 _ rfl
 have p0:Hid (((plc g.nodes 0:Nat):Int)=0):=(by simp [plc]:((plc g.nodes 0:Nat):Int)=0)
 go_enter Tryz.func21,Tryz.ntmps21
 go_wp2_with (go_at_call 32;refine (I9 _ _ _ _).mono ?_;rintro e wq ⟨rfl,hq⟩;obtain rfl:=hq.symm;rw [DK])
 go_loopw [4,5] (fun sv iv wr=>∃ i:Nat,i<=g.nodes.length/\iv=.int .i64 i/\sv=.int .i64 ((plc g.nodes i:Nat):Int)/\Below w.heap.size w wr/\(wr.cell? ⟨w.heap.size,0,none⟩=some (.slice ra g.roots.length rc)/\wr.cell? ⟨w.heap.size,1,none⟩=some (.slice na g.nodes.length nc)/\wr.cell? ⟨w.heap.size,2,none⟩=some (.int .i64 g.hash))/\Hid (∀ t,t<i->Vm g (g.nodes.getD t nd0))/\Hid (∀ s t,s<t->t<i->(g.nodes.getD s nd0).hash ≠ (g.nodes.getD t nd0).hash)) (fun _ iv _=>g.nodes.length - (intOf iv).toNat)
 case atStart=>exact ⟨0,Nat.zero_le _,rfl,by rw [p0.out],hbA,⟨c0,c1,c2⟩,fun t ht=>absurd ht (Nat.not_lt_zero t),fun s t _ ht=>absurd ht (Nat.not_lt_zero t)⟩
 case round =>
  obtain ⟨i,hi,rfl,rfl,hb,⟨x0,x1,x2⟩,HA,HB⟩:=hrel
  clear c0 c1 c2 p0 DK hbA
  by_cases hil:i<g.nodes.length
  ·obtain ⟨va,vc,e,_,hnc⟩:=id hn
   obtain ⟨nb,no,fa,fn,fc,rfl,d0,d1,d2,rf⟩:=hnc i hil
   simp only [Value.slice.injEq,true_and] at e
   obtain ⟨rfl,rfl⟩:=e
   have HSH:Hid (∀ t,t<g.nodes.length->w.cell? ⟨nb,no+t * 3+1,none⟩=some (.int .i64 (g.nodes.getD t nd0).hash)):=(fun t ht=>by
    obtain ⟨nb',no',_,_,_,e,_,q,_⟩:=hnc t ht
    simp only [Option.some.injEq,Addr.mk.injEq,and_true] at e
    obtain ⟨rfl,rfl⟩:=e
    exact q:∀ t,t<g.nodes.length->w.cell? ⟨nb,no+t * 3+1,none⟩=some (.int .i64 (g.nodes.getD t nd0).hash))
   obtain ⟨fa',fc',e,_⟩:=id rf
   injection e with e1 e2 e3
   subst e2
   have PSu:Hid (((plc g.nodes (i+1):Nat):Int)=(plc g.nodes i:Nat)+4+((g.nodes.getD i nd0).fl.length:Int)):=(by rw [Ox g.nodes i hil];omega:((plc g.nodes (i+1):Nat):Int)=(plc g.nodes i:Nat)+4+((g.nodes.getD i nd0).fl.length:Int))
   have PB:plc g.nodes i<=64 * i:=Zh g i HA.out (by omega)
   have f64:=(s64 (g.nodes.getD i nd0) (by simp [hil])).1.2.2
   have y0:=C2 hb d0
   have y1:=C2 hb d1
   have y2:=C2 hb d2
   have hii:(i:Int)<(g.nodes.length:Int):=by omega
   have ND:Hid (Ob g=true->Vm g (g.nodes.getD i nd0)):=(fun q=>Jmj (Rk q).1 hil:Ob g=true->Vm g (g.nodes.getD i nd0))
   have NDi:Hid (((0<=(g.nodes.getD i nd0).cls/\(g.nodes.getD i nd0).cls<=99)/\1<=(g.nodes.getD i nd0).hash/\(g.nodes.getD i nd0).hash<g.hash/\(g.nodes.getD i nd0).fl.length<=60/\∀ x,x ∈ (g.nodes.getD i nd0).fl->M9 g.nodes.length x=true)->Vm g (g.nodes.getD i nd0)):=(fun q=>q:((0<=(g.nodes.getD i nd0).cls/\(g.nodes.getD i nd0).cls<=99)/\1<=(g.nodes.getD i nd0).hash/\(g.nodes.getD i nd0).hash<g.hash/\(g.nodes.getD i nd0).fl.length<=60/\∀ x,x ∈ (g.nodes.getD i nd0).fl->M9 g.nodes.length x=true)->Vm g (g.nodes.getD i nd0))
   have NDo:Hid (∀ n,Vm g n->((0<=n.cls/\n.cls<=99)/\1<=n.hash/\n.hash<g.hash/\n.fl.length<=60/\∀ x,x ∈ n.fl->M9 g.nodes.length x=true)):=(fun n q=>q:∀ n,Vm g n->((0<=n.cls/\n.cls<=99)/\1<=n.hash/\n.hash<g.hash/\n.fl.length<=60/\∀ x,x ∈ n.fl->M9 g.nodes.length x=true))
   have rfw:=rf
   generalize hnd:g.nodes.getD i nd0=nd at *
   obtain ⟨c,z,F⟩:=nd
   simp only at *
   have al:=C5 wr (.cells #[.int .i64 c,.int .i64 z,.slice fa F.length fc] 41)
   have hbB:=C3 hb al
   have ltN:w.heap.size<wr.heap.size:=World.block_lt_of_cell? _ _ x0
   clear d0 d1 d2 rf hnc e1 e3 hn
   by_cases k1:0<=c/\c<=99
   case neg =>
    have DK:=decide_eq_false k1
    have GF:Hid (Ob g=false):=(Rf (fun q=>absurd (NDo.out _ (ND.out q)).1 k1):Ob g=false)
    clear s64 f64 PB HA HB
    go_wp2_with (go_at_call 32;refine (I9 _ _ _ _).mono ?_;rintro e wq ⟨rfl,hq⟩;obtain rfl:=hq.symm;rw [DK])
    go_ret
    exact ⟨E7 GF.out.symm,hbB⟩
   have DK:=decide_eq_true k1
   by_cases k2:z<1
   ·have GF:Hid (Ob g=false):=(Rf (fun q=>absurd (NDo.out _ (ND.out q)).2.1 (by show ¬ 1<=z;omega)):Ob g=false)
    clear s64 f64 PB HA HB
    go_wp2_with (go_at_call 32;refine (I9 _ _ _ _).mono ?_;rintro e wq ⟨rfl,hq⟩;obtain rfl:=hq.symm;rw [DK])
    go_ret
    exact ⟨E7 GF.out.symm,hbB⟩
   by_cases k3:g.hash<=z
   ·have GF:Hid (Ob g=false):=(Rf (fun q=>absurd (NDo.out _ (ND.out q)).2.2.1 (by show ¬ z<g.hash;omega)):Ob g=false)
    clear s64 f64 PB HA HB
    go_wp2_with (go_at_call 32;refine (I9 _ _ _ _).mono ?_;rintro e wq ⟨rfl,hq⟩;obtain rfl:=hq.symm;rw [DK])
    go_ret
    exact ⟨E7 GF.out.symm,hbB⟩
   by_cases k4:60<F.length
   ·have k4i:(60:Int)<(F.length:Int):=by omega
    have GF:Hid (Ob g=false):=(Rf (fun q=>absurd (NDo.out _ (ND.out q)).2.2.2.1 (by show ¬ F.length<=60;omega)):Ob g=false)
    clear s64 f64 PB HA HB
    go_wp2_with (go_at_call 32;refine (I9 _ _ _ _).mono ?_;rintro e wq ⟨rfl,hq⟩;obtain rfl:=hq.symm;rw [DK])
    go_ret
    exact ⟨E7 GF.out.symm,hbB⟩
   have k4i:¬ (60:Int)<(F.length:Int):=by omega
   have z1:=E6 wr #[.int .i64 c,.int .i64 z,.slice fa F.length fc] 41 _ rfl 1 _ rfl
   have z2:=E6 wr #[.int .i64 c,.int .i64 z,.slice fa F.length fc] 41 _ rfl 2 _ rfl
   have v0:=C2 al x0
   have v1:=C2 al x1
   have v2:=C2 al x2
   go_wp2_with (go_at_call 32;refine (I9 _ _ _ _).mono ?_;rintro e wq ⟨rfl,hq⟩;obtain rfl:=hq.symm;rw [DK])
   generalize hWA:(wr.alloc (.cells #[.int .i64 c,.int .i64 z,.slice fa F.length fc] 41))=wn at *
   generalize hnx:wr.heap.size=nbx at *
   have HS2:Hid (∀ t,t<g.nodes.length->wn.cell? ⟨nb,no+t * 3+1,none⟩=some (.int .i64 (g.nodes.getD t nd0).hash)):=(fun t ht=>C2 hbB (HSH.out t ht):∀ t,t<g.nodes.length->wn.cell? ⟨nb,no+t * 3+1,none⟩=some (.int .i64 (g.nodes.getD t nd0).hash))
   clear hWA hnx al HSH y0 y1 y2 x0 x1 x2 hb ltN DK
   go_loopw [7] (fun kv wq=>∃ t:Nat,t<=i/\kv=.int .i64 t/\Hid (∀ s,s<t->(g.nodes.getD s nd0).hash ≠ z)/\∃ m,wq=wn.drewN m) (fun kv _=>i - (intOf kv).toNat)
   case atStart=>exact ⟨0,Nat.zero_le _,rfl,fun s hs=>absurd hs (Nat.not_lt_zero s),0,rfl⟩
   case round =>
    obtain ⟨t,ht,rfl,HT,m,rfl⟩:=hrel
    by_cases htl:t<i
    ·have hti:(t:Int)<(i:Int):=by omega
     have htn:(t:Int)<(g.nodes.length:Int):=by omega
     have ct:=HS2.out t (by omega)
     have PH:Hid (Ob g=true->(g.nodes.getD t nd0).hash ≠ z):=(fun q=>by have p:=Jir (Rk q).1 htl hil;rw [hnd] at p;exact p:Ob g=true->(g.nodes.getD t nd0).hash ≠ z)
     have HT1:Hid ((g.nodes.getD t nd0).hash ≠ z->∀ s,s<t+1->(g.nodes.getD s nd0).hash ≠ z):=(fun q=>J9 HT.out q:(g.nodes.getD t nd0).hash ≠ z->∀ s,s<t+1->(g.nodes.getD s nd0).hash ≠ z)
     generalize (g.nodes.getD t nd0).hash=zt at *
     go_wp2
     go_region
     all_goals go_wp2
     ·have eq:(zt == z)=true:=by assumption
      go_ret
      exact ⟨E7 (Rf (fun q=>PH.out q (by simpa using eq))).symm,H6 hbB _⟩
     ·have ne:(zt == z)=false:=by assumption
      exact ⟨⟨t+1,by omega,by go_num,HT1.out (by simpa using ne),_,rfl⟩,by simp [intOf];omega⟩
    ·obtain rfl:t=i:=by omega
     go_wp2
     go_loopw [8] (fun kv wq=>∃ j:Nat,j<=F.length/\kv=.int .i64 j/\Hid (∀ s,s<j->M9 g.nodes.length (F.getD s 0)=true)/\∃ m,wq=wn.drewN m) (fun kv _=>F.length - (intOf kv).toNat)
     case atStart=>exact ⟨0,Nat.zero_le _,rfl,fun s hs=>absurd hs (Nat.not_lt_zero s),_,rfl⟩
     case round =>
      obtain ⟨j,hj,rfl,HW,m',rfl⟩:=hrel
      by_cases hjl:j<F.length
      ·have hji:(j:Int)<(F.length:Int):=by omega
       obtain ⟨fo,fcp,ef,_,hff⟩:=id rfw
       obtain ⟨fb,fp,rfl,cf⟩:=hff j hjl
       simp only [Value.slice.injEq,true_and] at ef
       obtain ⟨rfl,rfl⟩:=ef
       have cf1:=C2 hbB cf
       have fx:=(f64 (F.getD j 0) (by simp [hjl])).2
       have LW:=fun W=>Wy (F.getD j 0) g.nodes.length W fx
       have GW:Hid (Ob g=true->M9 g.nodes.length (F.getD j 0)=true):=(fun q=>(NDo.out _ (ND.out q)).2.2.2.2 _ (by simp [hjl]):Ob g=true->M9 g.nodes.length (F.getD j 0)=true)
       have HW1:Hid (M9 g.nodes.length (F.getD j 0)=true->∀ s,s<j+1->M9 g.nodes.length (F.getD s 0)=true):=(fun q=>J9 HW.out q:M9 g.nodes.length (F.getD j 0)=true->∀ s,s<j+1->M9 g.nodes.length (F.getD s 0)=true)
       generalize F.getD j 0=x at *
       clear hff cf
       cases hwg:M9 g.nodes.length x
       ·rw [hwg] at LW
        go_wp2_with (go_at_call 45;refine (LW _).mono ?_;rintro e wq ⟨rfl,hq⟩;obtain rfl:=hq.symm)
        go_ret
        exact ⟨E7 (Rf (fun q=>by have:=GW.out q;rw [hwg] at this;cases this)).symm,H6 hbB _⟩
       ·rw [hwg] at LW
        go_wp2_with (go_at_call 45;refine (LW _).mono ?_;rintro e wq ⟨rfl,hq⟩;obtain rfl:=hq.symm)
        exact ⟨⟨j+1,by omega,by go_num,HW1.out hwg,_,rfl⟩,by simp [intOf];omega⟩
      ·obtain rfl:j=F.length:=by omega
       have nd' : Vm g ⟨c,z,F⟩:=NDi.out ⟨k1,by omega,by omega,by omega,fun x hx=>by
        obtain ⟨s,hs,rfl⟩:=List.getElem_of_mem hx
        have q:=HW.out s hs
        simpa [hs] using q⟩
       have HA' : Hid (∀ t',t' < t+1->Vm g (g.nodes.getD t' nd0)):=(J9 HA.out (by rw [hnd];exact nd'):∀ t',t' < t+1->Vm g (g.nodes.getD t' nd0))
       have HB' : Hid (∀ s t',s<t' -> t' < t+1->(g.nodes.getD s nd0).hash ≠ (g.nodes.getD t' nd0).hash):=(fun s t' hs ht'=>by
        rcases Nat.lt_or_ge t' t with q|q
        ·exact HB.out s t' hs q
        ·obtain rfl:t' = t:=by omega
         have p:=HT.out s hs
         rw [hnd]
         exact p:∀ s t',s<t' -> t' < t+1->(g.nodes.getD s nd0).hash ≠ (g.nodes.getD t' nd0).hash)
       have PE:=PSu.out
       have wpa:((plc g.nodes t:Nat):Int)<=32000:=by omega
       generalize plc g.nodes t=P at *
       go_wp2
       exact ⟨⟨t+1,by omega,by go_num,by rw [PE],H6 hbB _,⟨v0,v1,v2⟩,HA',HB'⟩,by simp [intOf];omega⟩
  ·obtain rfl:i=g.nodes.length:=by omega
   generalize wr=wn at *
   have hmx:Tryz.prog.follows .mixedOrders=true:=by kernel_rfl
   clear hil hi
   go_wp2
   go_loopw [9] (fun kv wq=>∃ j:Nat,j<=g.roots.length/\kv=.int .i64 j/\Hid (∀ s,s<j->M9 g.nodes.length (g.roots.getD s 0)=true)/\∃ m,wq=wn.drewN m) (fun kv _=>g.roots.length - (intOf kv).toNat)
   case atStart=>exact ⟨0,Nat.zero_le _,rfl,fun s hs=>absurd hs (Nat.not_lt_zero s),0,rfl⟩
   case round =>
    obtain ⟨j,hj,rfl,HW,m,rfl⟩:=hrel
    by_cases hjl:j<g.roots.length
    ·have hji:(j:Int)<(g.roots.length:Int):=by omega
     obtain ⟨fo,fcp,ef,_,hff⟩:=id hr
     obtain ⟨fb,fp,rfl,cf⟩:=hff j hjl
     simp only [Value.slice.injEq,true_and] at ef
     obtain ⟨rfl,rfl⟩:=ef
     have cf1:=C2 hb cf
     have fx:=(r64 (g.roots.getD j 0) (by simp [hjl])).2
     have LW:=fun W=>Wy (g.roots.getD j 0) g.nodes.length W fx
     have GW:Hid (Ob g=true->M9 g.nodes.length (g.roots.getD j 0)=true):=(fun q=>(Rk q).1.2.2.2.2.2.1 _ (by simp [hjl]):Ob g=true->M9 g.nodes.length (g.roots.getD j 0)=true)
     have HW1:Hid (M9 g.nodes.length (g.roots.getD j 0)=true->∀ s,s<j+1->M9 g.nodes.length (g.roots.getD s 0)=true):=(fun q=>J9 HW.out q:M9 g.nodes.length (g.roots.getD j 0)=true->∀ s,s<j+1->M9 g.nodes.length (g.roots.getD s 0)=true)
     generalize g.roots.getD j 0=x at *
     clear hff cf
     cases hwg:M9 g.nodes.length x
     ·rw [hwg] at LW
      go_wp2_with (go_at_call 45;refine (LW _).mono ?_;rintro e wq ⟨rfl,hq⟩;obtain rfl:=hq.symm)
      go_ret
      exact ⟨E7 (Rf (fun q=>by have:=GW.out q;rw [hwg] at this;cases this)).symm,H6 hb _⟩
     ·rw [hwg] at LW
      go_wp2_with (go_at_call 45;refine (LW _).mono ?_;rintro e wq ⟨rfl,hq⟩;obtain rfl:=hq.symm)
      exact ⟨⟨j+1,by omega,by go_num,HW1.out hwg,_,rfl⟩,by simp [intOf];omega⟩
    ·obtain rfl:j=g.roots.length:=by omega
     by_cases hs:2000<plc g.nodes g.nodes.length
     ·have hsi:(2000:Int)<((plc g.nodes g.nodes.length:Nat):Int):=by omega
      have GF:Hid (Ob g=false):=(Rf (fun q=>by have:=(Rk q).1.2.2.2.2.2.2;omega):Ob g=false)
      go_wp2
      go_ret
      exact ⟨E7 GF.out.symm,H6 hb _⟩
     ·have hsi:¬ (2000:Int)<((plc g.nodes g.nodes.length:Nat):Int):=by omega
      have pr:T9 g:=Jlr q1 q2 q3 HA.out HB.out HW.out (by omega)
      have rgt:=Yg pr
      have GE:Hid (Qm (shP (C4 g)) g=Ob g):=Jlp pr
      obtain ⟨n64,sr,sn⟩:=Jhh rgt
      have hbn:=H6 hb m
      have LB:=fun W hv=>Vz (.agg #[.slice ra g.roots.length rc,.slice na g.nodes.length nc,.int .i64 g.hash]) g W hv pr
      have LS:=fun v W hv=>V5 v (C4 g) (plcs g.nodes) W hv rgt
      have SG:=fun v W hs hv=>Ur v (.agg #[.slice ra g.roots.length rc,.slice na g.nodes.length nc,.int .i64 g.hash]) (shP (C4 g)) g W hs hv ⟨by omega,by omega⟩ (by omega) (fun n q=>by have:=(n64 n q).2;omega) (fun n q=>by have:=(s64 n q).2;omega)
      have X3:(wn.drewN m).cell? ⟨w.heap.size,0,none⟩=some (.slice ra g.roots.length rc)/\(wn.drewN m).cell? ⟨w.heap.size,1,none⟩=some (.slice na g.nodes.length nc)/\(wn.drewN m).cell? ⟨w.heap.size,2,none⟩=some (.int .i64 g.hash):=⟨x0,x1,x2⟩
      clear x0 x1 x2 hb
      generalize wn.drewN m=wm at *
      obtain ⟨x0,x1,x2⟩:=X3
      generalize Qm (shP (C4 g)) g=ge at *
      clear HA HB HW hs n64 sr sn hn hr s64 r64 rgt
      go_wp2
      refine Disk.z_plain 99 (fun W'=>W'.cell? ⟨w.heap.size,0,none⟩=some (.slice ra g.roots.length rc)/\W'.cell? ⟨w.heap.size,1,none⟩=some (.slice na g.nodes.length nc)/\W'.cell? ⟨w.heap.size,2,none⟩=some (.int .i64 g.hash)) hmx ⟨x0,x1,x2⟩ (fun hs=>?_)
      refine Disk.zt 0 111 (v:=.agg #[.slice ra g.roots.length rc,.slice na g.nodes.length nc,.int .i64 g.hash]) rfl rfl hs (fun W' hSw=>(by
       obtain ⟨s0,s1,s2⟩:=hSw
       go_simp;first|done|with_reducible rfl)) ?_
      simp only [zA,zB,zC]
      refine Disk.zt 3 114 (v:=.agg #[.slice ra g.roots.length rc,.slice na g.nodes.length nc,.int .i64 g.hash]) rfl rfl hs (fun W' hSw=>(by
       obtain ⟨s0,s1,s2⟩:=hSw
       go_simp;first|done|with_reducible rfl)) ?_
      simp only [zA,zB,zC]
      refine Disk.zc 1 112 rfl rfl (f:=22) (args:=#[.agg #[.slice ra g.roots.length rc,.slice na g.nodes.length nc,.int .i64 g.hash]]) (w0:=wm.drew) ?_
      refine (LB _ (hv.later hbn.drew)).mono ?_
      rintro e w2 ⟨⟨u,rfl,hu⟩,hb2⟩
      have hs2:w2.cell? ⟨w.heap.size,0,none⟩=some (.slice ra g.roots.length rc)/\w2.cell? ⟨w.heap.size,1,none⟩=some (.slice na g.nodes.length nc)/\w2.cell? ⟨w.heap.size,2,none⟩=some (.int .i64 g.hash):=⟨C2 hb2 hs.1,C2 hb2 hs.2.1,C2 hb2 hs.2.2⟩
      have hbw2:=C3 hbn.drew hb2
      refine ⟨_,rfl,.inr hs2,?_⟩
      simp only [zA,zB,zC]
      refine Disk.zc 2 113 rfl rfl (f:=29) (args:=#[u]) (w0:=w2) ?_
      refine (LS _ _ hu.hr).mono ?_
      rintro e w3 ⟨⟨vs,rfl,hvs⟩,hb3⟩
      have hs3:w3.cell? ⟨w.heap.size,0,none⟩=some (.slice ra g.roots.length rc)/\w3.cell? ⟨w.heap.size,1,none⟩=some (.slice na g.nodes.length nc)/\w3.cell? ⟨w.heap.size,2,none⟩=some (.int .i64 g.hash):=⟨C2 hb3 hs2.1,C2 hb3 hs2.2.1,C2 hb3 hs2.2.2⟩
      have hbw3:=C3 hbw2 hb3
      refine ⟨_,rfl,.inr hs3,?_⟩
      simp only [zA,zB,zC]
      refine Disk.zc 4 115 rfl rfl (f:=46) (args:=#[vs,.agg #[.slice ra g.roots.length rc,.slice na g.nodes.length nc,.int .i64 g.hash]]) (w0:=w3) ?_
      refine (SG _ _ hvs.gr (hv.later hbw3)).mono ?_
      rintro e w4 ⟨rfl,hb4⟩
      have hs4:w4.cell? ⟨w.heap.size,0,none⟩=some (.slice ra g.roots.length rc)/\w4.cell? ⟨w.heap.size,1,none⟩=some (.slice na g.nodes.length nc)/\w4.cell? ⟨w.heap.size,2,none⟩=some (.int .i64 g.hash):=⟨C2 hb4 hs3.1,C2 hb4 hs3.2.1,C2 hb4 hs3.2.2⟩
      have hbw4:=C3 hbw3 hb4
      refine ⟨_,rfl,.inr hs4,?_⟩
      simp only [zA,zB,zC]
      refine Disk.zr 5 2 (w':=w4) (v:=.bool ge) rfl rfl (.inr hs4) ?_
      simp only [zA,zB,zC]
      refine Disk.z_done (by kernel_rfl) ?_ _
      clear hs hs2 hs3 hs4 LB LS SG hu hvs
      go_wp2
      go_ret
      exact ⟨E7 GE.out,hbw4⟩
end Go.Proofs.YtboiknllmnfipaaGreatDoor
