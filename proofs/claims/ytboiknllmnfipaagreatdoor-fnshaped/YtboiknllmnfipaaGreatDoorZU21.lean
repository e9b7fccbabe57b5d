
import Derived.Test.YtboiknllmnfipaaGreatDoorZU5
import Derived.Test.YtboiknllmnfipaaGreatDoorZU20
import Derived.Test.YtboiknllmnfipaaGreatDoorZU6
import Derived.Test.YtboiknllmnfipaaGreatDoorZU10
import Derived.Test.YtboiknllmnfipaaGreatDoorZU8
import Derived.Test.YtboiknllmnfipaaGreatDoorZU9
/- nodePlaces of the program. -/
namespace Go.Proofs.YtboiknllmnfipaaGreatDoor
open Go.RowKit Go.Maps
def Qp (ns:List Nd) (k:Nat) (x:Int):Option Int:=if 0<=x/\x<(k:Int) then some (plc ns x.toNat:Nat) else none
theorem Jgf (ns:List Nd):Qp ns 0=fun _=>none:=by
 funext x
 unfold Qp
 rw [if_neg (by omega)]
theorem Jge (ns:List Nd) (k:Nat):Jdr (Qp ns k) (k:Int) (plc ns k:Nat)=Qp ns (k+1):=by
 funext x
 unfold Jdr Qp
 by_cases e:x=(k:Int)
 ·subst e
  rw [if_pos rfl,if_pos (by omega)]
  simp
 ·rw [if_neg e]
  by_cases h:0<=x/\x<(k:Int)
  ·rw [if_pos h,if_pos (by omega)]
  ·rw [if_neg h,if_neg (by omega)]
set_option maxRecDepth 100000 in
set_option maxHeartbeats 3200000 in
theorem Xo (v:Value) (ns:List Nd) (w:World) (hv:NR w v ns) (h1:ns.length<=1000000000000) (h2:∀ n,n ∈ ns->n.fl.length<=1000000000000) :
  Calls Tryz.prog 39 #[v] w fun e w'=>(∃ M n k:Nat,e=.returned (.tuple #[.map (some M),.int .i64 (plc ns k:Nat)])/\w.heap.size<=M/\MP w' M n (Qp ns k)/\k<=ns.length/\(plc ns k<=2000->k=ns.length))/\Below w.heap.size w w':=by
 obtain ⟨va,vc,rfl,_,hvc⟩:=id hv
 have HM:Hid (MP (w.alloc (.map #[] 0)) w.heap.size 0 (Qp ns 0)):=(by rw [Jgf];exact MP.made w:MP (w.alloc (.map #[] 0)) w.heap.size 0 (Qp ns 0))
 have hal:=C5 w (.map #[] 0)
 have hmm:=@run_makeMap Tryz.prog
 have p0:Hid (plc ns 0=0):=(by simp [plc]:plc ns 0=0)
 go_enter Tryz.func39,Tryz.ntmps39
 go_wp2
 go_loopw [5,11] (fun ev iv wr=>∃ (k:Nat),k<=ns.length/\iv=.int .i64 k/\ev=.int .i64 (plc ns k:Nat)/\plc ns k<=2000/\MP wr w.heap.size k (Qp ns k)/\Below w.heap.size w wr) (fun _ iv _=>ns.length - (intOf iv).toNat)
 case atStart=>exact ⟨0,Nat.zero_le _,rfl,by rw [p0.out];rfl,by rw [p0.out];omega,HM.out,hal⟩
 case round =>
  obtain ⟨k,hk,rfl,rfl,hp,hm,hb⟩:=hrel
  by_cases hkl:k<ns.length
  ·obtain ⟨b,o,fa,fn,fc,rfl,c0,c1,c2,r⟩:=hvc k hkl
   have PS:Hid (plc ns (k+1)=plc ns k+(4+(ns.getD k nd0).fl.length)):=Ox ns k hkl
   have hfl:=h2 (ns.getD k nd0) (by simp [hkl])
   replace c0:=C2 hb c0
   replace c1:=C2 hb c1
   replace c2:=C2 hb c2
   obtain ⟨fa',fc',e,_⟩:=r
   injection e with e1 e2 e3
   subst e2
   have hki:(k:Int)<(ns.length:Int):=by omega
   have hk0:(0:Int)<=(k:Int):=by omega
   generalize (ns.getD k nd0).cls=c at *
   generalize (ns.getD k nd0).hash=z at *
   generalize (ns.getD k nd0).fl.length=m at *
   clear e1 e3 hv hvc hmm HM hal p0 h2
   have al:=C5 wr (.cells #[.int .i64 c,.int .i64 z,.slice fa m fc] 41)
   have hm1:=hm.later al
   have cn:(wr.alloc (.cells #[.int .i64 c,.int .i64 z,.slice fa m fc] 41)).cell? ⟨wr.heap.size,2,none⟩=some (.slice fa m fc):=by simp
   obtain ⟨w2,hrun,m2,gr2⟩:=hm1.update (by omega) (k:Int) ((plc ns k:Nat):Int) ⟨by omega,by omega⟩ ⟨by omega,by omega⟩
   rw [Jge] at m2
   have hlt:=hm.lt
   have cn2:=gr2.cell cn (fun e=>by have e2:wr.heap.size=w.heap.size:=Option.some.inj e;omega)
   have b2:Below w.heap.size w w2:=(hb.trans (al.mono hb.size)).trans ((Grew.grown gr2).below (by simp;omega) fun j _ e=>by have e2:w.heap.size=j:=Option.some.inj e;omega)
   have PE:Hid (((plc ns (k+1):Nat):Int)=(plc ns k:Nat)+(4+(m:Int))):=(by rw [PS.out];omega:((plc ns (k+1):Nat):Int)=(plc ns k:Nat)+(4+(m:Int)))
   have m2:Hid (MP w2 w.heap.size (k+1) (Qp ns (k+1))):=m2
   clear PS hm hm1 gr2 al hb cn
   by_cases hq:(2000:Int)<(plc ns k:Nat)+(4+(m:Int))
   ·have hq' : decide ((2000:Int)<(plc ns k:Nat)+(4+(m:Int)))=true:=decide_eq_true hq
    go_wp2
    exact bodyPost_ret (v:=.tuple #[.map (some w.heap.size),.int .i64 ((plc ns k:Nat)+(4+(m:Int)))]) (by simp [results,Tryz.results39,go_sem]) rfl ⟨⟨w.heap.size,k+1,k+1,by rw [PE.out],Nat.le_refl _,m2.out,by omega,fun q=>by have:=PE.out;omega⟩,b2⟩
   ·have hq' : decide ((2000:Int)<(plc ns k:Nat)+(4+(m:Int)))=false:=decide_eq_false hq
    go_wp2
    exact ⟨⟨k+1,by omega,by go_num,by rw [PE.out],by have:=PE.out;omega,m2.out,b2⟩,by simp [intOf];omega⟩
  ·obtain rfl:k=ns.length:=by omega
   clear hv hvc hmm HM hal p0 h2
   go_wp2
   exact bodyPost_ret (v:=.tuple #[.map (some w.heap.size),.int .i64 ((plc ns ns.length:Nat):Int)]) (by simp [results,Tryz.results39,go_sem]) rfl ⟨⟨w.heap.size,ns.length,ns.length,rfl,Nat.le_refl _,hm,Nat.le_refl _,fun _=>rfl⟩,hb⟩
end Go.Proofs.YtboiknllmnfipaaGreatDoor
/- Nodes laid down one behind the other, in plain words. -/
namespace Go.Proofs.YtboiknllmnfipaaGreatDoor
open Go.RowKit
def Oi (ns:List Nd) (k:Nat):List Int:=(ns.take k).flatMap (P9 ns) ++ List.replicate (3200 - plc ns k) 0
theorem Ux (ns:List Nd) (k:Nat):((ns.take k).flatMap (P9 ns)).length=plc ns k:=by
 unfold plc
 rw [List.length_flatMap]
 congr 1
 refine List.map_congr_left fun n _=>?_
 simp [P9]
 omega
theorem Sr (ns:List Nd) (k:Nat) (h:plc ns k<=3200):(Oi ns k).length=3200:=by
 unfold Oi
 rw [List.length_append,Ux,List.length_replicate]
 omega
theorem Zj (ns:List Nd):Oi ns 0=List.replicate 3200 0:=by
 unfold Oi
 rw [show plc ns 0=0 from by simp [plc],List.take_zero,List.flatMap_nil,List.nil_append]
theorem Jcj (ns:List Nd):Oi ns ns.length=M0 ns:=by
 unfold Oi M0
 rw [Qr,List.take_length]
 rfl
theorem Yl (A l:List Int) (m:Nat):splice (A ++ List.replicate m 0) A.length l=A ++ l ++ List.replicate (m - l.length) 0:=by
 unfold splice
 rw [List.take_left,List.drop_append,List.drop_eq_nil_of_le (by omega),List.nil_append,show A.length+l.length - A.length=l.length from by omega,List.drop_replicate,List.append_assoc]
theorem Zk (ns:List Nd) (k:Nat) (hk:k<ns.length) :
  splice (splice (Oi ns k) (plc ns k) [((ns.getD k nd0).fl.length:Int),(ns.getD k nd0).cls,(ns.getD k nd0).hash,0]) (plc ns k+4) ((ns.getD k nd0).fl.map (rnI ns))=Oi ns (k+1):=by
 have hs:=Ox ns k hk
 have e1:splice (Oi ns k) (plc ns k) [((ns.getD k nd0).fl.length:Int),(ns.getD k nd0).cls,(ns.getD k nd0).hash,0]=((ns.take k).flatMap (P9 ns) ++ [((ns.getD k nd0).fl.length:Int),(ns.getD k nd0).cls,(ns.getD k nd0).hash,0]) ++ List.replicate (3200 - plc ns k - 4) 0:=by
  have q:=Yl ((ns.take k).flatMap (P9 ns)) [((ns.getD k nd0).fl.length:Int),(ns.getD k nd0).cls,(ns.getD k nd0).hash,0] (3200 - plc ns k)
  rw [Ux] at q
  exact q
 rw [e1]
 have q:=Yl ((ns.take k).flatMap (P9 ns) ++ [((ns.getD k nd0).fl.length:Int),(ns.getD k nd0).cls,(ns.getD k nd0).hash,0]) ((ns.getD k nd0).fl.map (rnI ns)) (3200 - plc ns k - 4)
 rw [List.length_append,Ux,List.length_map] at q
 rw [show plc ns k+4=plc ns k + [((ns.getD k nd0).fl.length:Int),(ns.getD k nd0).cls,(ns.getD k nd0).hash,0].length from rfl,q]
 unfold Oi
 rw [List.take_succ_eq_append_getElem hk,List.flatMap_append,show ns[k]=ns.getD k nd0 from by simp [hk],hs]
 rw [show 3200 - plc ns k - 4 - (ns.getD k nd0).fl.length=3200 - (plc ns k+(4+(ns.getD k nd0).fl.length)) from by omega]
 simp [P9]
theorem Jbw (ns:List Nd):rnM (Qp ns ns.length)=rnI ns:=by
 funext x
 unfold rnM rnI
 cases hx:isK 2 x
 ·simp
 ·simp only [if_true]
  have h0:0<=x / 2:=by
   have q:H8 x=2:=of_decide_eq_true hx
   unfold H8 at q
   split at q
   ·split at q
    ·rename_i a
     exact (of_decide_eq_true a).1
    ·omega
   ·split at q <;> omega
  unfold Qp
  by_cases h1:x / 2<(ns.length:Int)
  ·rw [if_pos ⟨h0,h1⟩,if_pos (by omega)]
   rfl
  ·rw [if_neg (by omega),if_neg (by omega)]
   rfl
theorem Yc (ns:List Nd) (h:plc ns ns.length<=2000) (y:Int):0<=(Qp ns ns.length y).getD 0/\(Qp ns ns.length y).getD 0<=3199:=by
 unfold Qp
 split
 ·rename_i a
  have q:=Rx ns y.toNat (ns.length - y.toNat) (by omega)
  rw [show y.toNat+(ns.length - y.toNat)=ns.length from by omega] at q
  simp
  omega
 ·simp
theorem Jlc (ns:List Nd) (k:Nat) (h:k<ns.length):(Qp ns ns.length (k:Int)).getD 0=(plc ns k:Nat):=by
 unfold Qp
 rw [if_pos (by omega)]
 simp
theorem Jbt {ns:List Nd} {x:Int} (h:x % 2=0):rnI ns x=x:=by
 unfold rnI
 rw [(Rl h).2]
 rfl
theorem Jer {ns:List Nd} {x:Int} (h:¬ x % 2=0) (h1:0<x) (h2:x / 2<(ns.length:Int)) (hn:ns.length<=500):rnI ns x=2 * ((plc ns (x / 2).toNat:Nat):Int)+1:=by
 have q:isK 2 x=true:=by
  rw [(R8 h).1,Us h]
  exact decide_eq_true (by omega)
 unfold rnI
 rw [q,if_pos rfl,if_pos (by omega)]
theorem Jcy (W:List Int) (i:Nat):splice W i []=W:=by simp [splice]
theorem Jas (W L:List Int) (i j:Nat) (hj:j<L.length) (h:i+L.length<=W.length):(splice W i (L.take j)).set (i+j) (L.getD j 0)=splice W i (L.take (j+1)):=by
 have l0:(L.take j).length=j:=by rw [List.length_take];omega
 have l1:(L.take (j+1)).length=j+1:=by rw [List.length_take];omega
 refine Ps (by rw [List.length_set,length_splice _ _ _ (by omega),length_splice _ _ _ (by omega)]) fun q hq=>?_
 rw [List.length_set,length_splice _ _ _ (by omega)] at hq
 rw [Rb _ _ _ _ (by omega),l1]
 have e:((splice W i (L.take j)).set (i+j) (L.getD j 0)).getD q 0=if i+j=q then L.getD j 0 else (splice W i (L.take j)).getD q 0:=by
  simp only [List.getD_eq_getElem?_getD,List.getElem?_set,length_splice W i (L.take j) (by omega)]
  by_cases h' : i+j=q
  ·subst h'
   rw [if_pos rfl,if_pos rfl,if_pos hq]
   rfl
  ·rw [if_neg h',if_neg h']
 rw [e,Rb _ _ _ _ (by omega),l0]
 by_cases h1:q<i
 ·rw [if_neg (by omega),if_pos h1,if_pos h1]
 ·by_cases h2:i+j=q
  ·subst h2
   rw [if_pos rfl,if_neg h1,if_pos (by omega),show i+j - i=j from by omega]
   simp [List.getD_eq_getElem?_getD]
  ·rw [if_neg h2,if_neg h1,if_neg h1]
   by_cases h3:q<i+j
   ·rw [if_pos h3,if_pos (by omega)]
    simp only [List.getD_eq_getElem?_getD]
    rw [List.getElem?_take_of_lt (by omega),List.getElem?_take_of_lt (by omega)]
   ·rw [if_neg h3,if_neg (by omega)]
end Go.Proofs.YtboiknllmnfipaaGreatDoor
/- The state of laidGraph on its way. -/
namespace Go.Proofs.YtboiknllmnfipaaGreatDoor
open Go.RowKit
theorem U2 {w w' : World} {B n gW:Nat} {v:Value} {xs:List Value} (h:w.ownsRow B 2 1 v n xs) (hg:w.grownBy w' (some gW)) (hB:gW<B):w'.ownsRow B 2 1 v n xs:=by
 obtain ⟨hl,h⟩:=h
 refine ⟨hl,?_⟩
 rcases h with h|⟨g,cap,cur,hv,hb,hh,r⟩
 ·exact .inl h
 ·refine .inr ⟨g,cap,cur,hv,hb,?_,r⟩
  have hlt:g<w.heap.size:=by
   rcases Nat.lt_or_ge g w.heap.size with q|q
   ·exact q
   ·rw [Array.getElem?_eq_none q] at hh;cases hh
  rw [hg.block g hlt (fun e=>by injection e;omega)]
  exact hh
theorem Jgg {w w' : World} {B n c:Nat} {v:Value} {xs:List Value} (h:w.ownsRow B 2 1 v n xs) (hg:w.grownBy w' (some c)) (hB:c<B):w'.ownsRow B 2 1 v n xs:=U2 h hg hB
structure LS (w W:World) (g:Gr) (ra:Option Addr) (rc:Nat) (na:Option Addr) (nc M mn gW H:Nat) (ro:Option Addr) (cR k:Nat):Prop where
 bel:Below w.heap.size w W
 g0:W.cell? ⟨w.heap.size,0,none⟩=some (.slice ra g.roots.length rc)
 g1:W.cell? ⟨w.heap.size,1,none⟩=some (.slice na g.nodes.length nc)
 g2:W.cell? ⟨w.heap.size,2,none⟩=some (.int .i64 g.hash)
 res:∃ f,W.rowIs (w.heap.size+1) 30 8 f
 box:W.rowIs H 30 8 (fun i=>(#[.slice (some ⟨gW,0,none⟩) 3200 3200,.slice ro g.roots.length cR,.int .i64 ((plc g.nodes g.nodes.length:Nat):Int),.int .i64 2000,.int .i64 2600,.bool false,.int .i64 g.hash,.slice none 0 0]:Array Value)[i]?.getD undef)
 words:RI W gW (Oi g.nodes k) 3200
 roots:W.ownsRow (H+1) 2 1 (.slice ro g.roots.length cR) g.roots.length (icells (g.roots.map (rnI g.nodes)))
 map:MP W M mn (Qp g.nodes g.nodes.length)
 o1:w.heap.size+1<M
 o2:M<gW
 o3:gW<H
theorem LS.later {W' w W:World} {g:Gr} {ra na ro:Option Addr} {rc nc M mn gW H cR k:Nat} (h:LS w W g ra rc na nc M mn gW H ro cR k) (hb:Below W.heap.size W W'):LS w W' g ra rc na nc M mn gW H ro cR k:=by
 obtain ⟨f,R⟩:=h.res
 exact ⟨h.bel.trans (hb.mono h.bel.size),C2 hb h.g0,C2 hb h.g1,C2 hb h.g2,⟨f,R.of_block (hb.block _ R.lt)⟩,h.box.of_block (hb.block _ h.box.lt),h.words.later hb,E8 h.roots hb,h.map.later hb,h.o1,h.o2,h.o3⟩
theorem LS.put {W' w W:World} {g:Gr} {ra na ro:Option Addr} {rc nc M mn gW H cR k j:Nat} (h:LS w W g ra rc na nc M mn gW H ro cR k) (hg:W.grownBy W' (some gW)) (hw:RI W' gW (Oi g.nodes j) 3200):LS w W' g ra rc na nc M mn gW H ro cR j:=by
 obtain ⟨f,R⟩:=h.res
 have o1:=h.o1
 have o2:=h.o2
 have o3:=h.o3
 have n0:some w.heap.size ≠ some gW:=fun e=>by injection e;omega
 have n1:some (w.heap.size+1) ≠ some gW:=fun e=>by injection e;omega
 have n2:some H ≠ some gW:=fun e=>by injection e;omega
 exact ⟨Below.grown h.bel hg h.bel.size (fun k hk=>by cases hk;omega),hg.cell h.g0 n0,hg.cell h.g1 n0,hg.cell h.g2 n0,⟨f,R.of_block (hg.block _ R.lt n1)⟩,h.box.of_block (hg.block _ h.box.lt n2),hw,U2 h.roots hg (by omega),(Grew.grown hg).mp h.map (fun e=>by have e2:gW=M:=Option.some.inj e;omega),o1,o2,o3⟩
set_option maxHeartbeats 800000 in
theorem Yz (w:World):Calls Tryz.prog 40 #[] w fun e w'=>(e=.returned (.agg #[.slice (some ⟨w.heap.size+1,0,none⟩) 3200 3200,.slice none 0 0,.int .i64 0,.int .i64 2000,.int .i64 2600,.bool false,.int .i64 1,.slice none 0 0])/\RI w' (w.heap.size+1) (List.replicate 3200 0) 3200)/\Below w.heap.size w w':=by
 have hmk:=Jbu
 have hr:=U8 (w.alloc (.cells #[.slice (some ⟨w.heap.size+1,0,none⟩) 3200 3200,.slice none 0 0,.int .i64 0,.int .i64 2000,.int .i64 2600,.bool false,.int .i64 1,.slice none 0 0] 30)) 3200
 rw [World.size_alloc] at hr
 go_enter Tryz.func40,Tryz.ntmps40
 go_wp2
 exact bodyPost_ret (v:=.agg #[.slice (some ⟨w.heap.size+1,0,none⟩) 3200 3200,.slice none 0 0,.int .i64 0,.int .i64 2000,.int .i64 2600,.bool false,.int .i64 1,.slice none 0 0]) (by simp [results,Tryz.results40,go_sem]) rfl ⟨⟨rfl,hr⟩,C3 (C5 _ _) (C5 _ _)⟩
set_option maxHeartbeats 800000 in
theorem Y6 (w:World):Calls Tryz.prog 47 #[] w fun e w'=>(e=.returned (.agg #[.slice (some ⟨w.heap.size+1,0,none⟩) 3200 3200,.slice none 0 0,.int .i64 0,.int .i64 2000,.int .i64 2600,.bool false,.int .i64 1,.slice none 0 0])/\RI w' (w.heap.size+1) (List.replicate 3200 0) 3200)/\Below w.heap.size w w':=by
 have hmk:=Jbu
 have hr:=U8 (w.alloc (.cells #[.slice (some ⟨w.heap.size+1,0,none⟩) 3200 3200,.slice none 0 0,.int .i64 0,.int .i64 2000,.int .i64 2600,.bool false,.int .i64 1,.slice none 0 0] 30)) 3200
 rw [World.size_alloc] at hr
 go_enter Tryz.func47,Tryz.ntmps47
 go_wp2
 exact bodyPost_ret (v:=.agg #[.slice (some ⟨w.heap.size+1,0,none⟩) 3200 3200,.slice none 0 0,.int .i64 0,.int .i64 2000,.int .i64 2600,.bool false,.int .i64 1,.slice none 0 0]) (by simp [results,Tryz.results47,go_sem]) rfl ⟨⟨rfl,hr⟩,C3 (C5 _ _) (C5 _ _)⟩
end Go.Proofs.YtboiknllmnfipaaGreatDoor
/- The state of l6Build on its way. -/
namespace Go.Proofs.YtboiknllmnfipaaGreatDoor
open Go.RowKit
structure BS (w W:World) (g:Gr) (ra:Option Addr) (rc:Nat) (na:Option Addr) (nc gW H gA cA:Nat) (rv:Value) (old:Int) (Wd Al:List Int):Prop where
 bel:Below w.heap.size w W
 g0:W.cell? ⟨w.heap.size,0,none⟩=some (.slice ra g.roots.length rc)
 g1:W.cell? ⟨w.heap.size,1,none⟩=some (.slice na g.nodes.length nc)
 g2:W.cell? ⟨w.heap.size,2,none⟩=some (.int .i64 g.hash)
 res:∃ f,W.rowIs (w.heap.size+1) 30 8 f
 box:W.rowIs H 30 8 (fun i=>(#[.slice (some ⟨gW,0,none⟩) 3200 3200,rv,.int .i64 old,.int .i64 2000,.int .i64 2600,.bool false,.int .i64 g.hash,.slice none 0 0]:Array Value)[i]?.getD undef)
 words:RI W gW Wd 3200
 ats:RI W gA Al cA
 mx:cA<=maxLen
 o1:w.heap.size+1<gW
 o2:gW<H
 o3:H<gA
theorem BS.later {w W W' : World} {g:Gr} {ra na:Option Addr} {rc nc gW H gA cA:Nat} {rv:Value} {old:Int} {Wd Al:List Int} (h:BS w W g ra rc na nc gW H gA cA rv old Wd Al) (hb:Below W.heap.size W W'):BS w W' g ra rc na nc gW H gA cA rv old Wd Al:=by
 obtain ⟨f,R⟩:=h.res
 exact ⟨h.bel.trans (hb.mono h.bel.size),C2 hb h.g0,C2 hb h.g1,C2 hb h.g2,⟨f,R.of_block (hb.block _ R.lt)⟩,h.box.of_block (hb.block _ h.box.lt),h.words.later hb,h.ats.later hb,h.mx,h.o1,h.o2,h.o3⟩
theorem BS.put {w W W' : World} {g:Gr} {ra na:Option Addr} {rc nc gW H gA cA:Nat} {rv:Value} {old:Int} {Wd Al:List Int} {Wd' : List Int} (h:BS w W g ra rc na nc gW H gA cA rv old Wd Al) (hg:W.grownBy W' (some gW)) (hw:RI W' gW Wd' 3200):BS w W' g ra rc na nc gW H gA cA rv old Wd' Al:=by
 obtain ⟨f,R⟩:=h.res
 have o1:=h.o1
 have o2:=h.o2
 have o3:=h.o3
 have n0:some w.heap.size ≠ some gW:=fun e=>by injection e;omega
 have n1:some (w.heap.size+1) ≠ some gW:=fun e=>by injection e;omega
 have n2:some H ≠ some gW:=fun e=>by injection e;omega
 have n3:some gA ≠ some gW:=fun e=>by injection e;omega
 exact ⟨Below.grown h.bel hg h.bel.size (fun k hk=>by cases hk;omega),hg.cell h.g0 n0,hg.cell h.g1 n0,hg.cell h.g2 n0,⟨f,R.of_block (hg.block _ R.lt n1)⟩,h.box.of_block (hg.block _ h.box.lt n2),hw,h.ats.grown hg n3,h.mx,o1,o2,o3⟩
theorem BS.app {w W W' : World} {g:Gr} {ra na:Option Addr} {rc nc gW H gA cA:Nat} {rv:Value} {old:Int} {Wd Al:List Int} {gA' cA' : Nat} {Al' : List Int} (h:BS w W g ra rc na nc gW H gA cA rv old Wd Al) (hg:W.grownBy W' (some gA)) (ha:RI W' gA' Al' cA') (hx:cA' <= maxLen) (hn:H<gA'):BS w W' g ra rc na nc gW H gA' cA' rv old Wd Al':=by
 obtain ⟨f,R⟩:=h.res
 have o1:=h.o1
 have o2:=h.o2
 have o3:=h.o3
 have n0:some w.heap.size ≠ some gA:=fun e=>by injection e;omega
 have n1:some (w.heap.size+1) ≠ some gA:=fun e=>by injection e;omega
 have n2:some H ≠ some gA:=fun e=>by injection e;omega
 have n3:some gW ≠ some gA:=fun e=>by injection e;omega
 exact ⟨Below.grown h.bel hg h.bel.size (fun k hk=>by cases hk;omega),hg.cell h.g0 n0,hg.cell h.g1 n0,hg.cell h.g2 n0,⟨f,R.of_block (hg.block _ R.lt n1)⟩,h.box.of_block (hg.block _ h.box.lt n2),h.words.grown hg n3,ha,hx,o1,o2,hn⟩
theorem BS.grow {w W W' : World} {g:Gr} {ra na:Option Addr} {rc nc gW H gA cA:Nat} {rv:Value} {old:Int} {Wd Al:List Int} {r:Option Nat} (h:BS w W g ra rc na nc gW H gA cA rv old Wd Al) (hg:W.grownBy W' r) (hr:∀ b,r=some b->H+1<=b/\b ≠ gA):BS w W' g ra rc na nc gW H gA cA rv old Wd Al:=by
 obtain ⟨f,R⟩:=h.res
 have o1:=h.o1
 have o2:=h.o2
 have o3:=h.o3
 have n0:some w.heap.size ≠ r:=fun e=>by have:=hr _ e.symm;omega
 have n1:some (w.heap.size+1) ≠ r:=fun e=>by have:=hr _ e.symm;omega
 have n2:some H ≠ r:=fun e=>by have:=hr _ e.symm;omega
 have n3:some gW ≠ r:=fun e=>by have:=hr _ e.symm;omega
 have n4:some gA ≠ r:=fun e=>(hr _ e.symm).2 rfl
 exact ⟨Below.grown h.bel hg h.bel.size (fun k hk=>by have:=hr k hk;omega),hg.cell h.g0 n0,hg.cell h.g1 n0,hg.cell h.g2 n0,⟨f,R.of_block (hg.block _ R.lt n1)⟩,h.box.of_block (hg.block _ h.box.lt n2),h.words.grown hg n3,h.ats.grown hg n4,h.mx,o1,o2,o3⟩
theorem Jmu {w:World} {B e size n b:Nat} {v:Value} {xs:List Value} (h:w.ownsRow B e size v n xs) (hk:v.ownBlock=some b):B<=b:=by
 rcases h.2 with ⟨rfl,_⟩|⟨g,cap,cur,rfl,hg,_⟩
 ·cases hk
 ·cases hk;exact hg
theorem BS.old {w W:World} {g:Gr} {ra na:Option Addr} {rc nc gW H gA cA:Nat} {rv:Value} {old:Int} {Wd Al:List Int} (h:BS w W g ra rc na nc gW H gA cA rv old Wd Al) (x:Int):BS w (W.setCell ⟨H,2,none⟩ (.int .i64 x)) g ra rc na nc gW H gA cA rv x Wd Al:=by
 obtain ⟨f,R⟩:=h.res
 have o1:=h.o1
 have o2:=h.o2
 have o3:=h.o3
 have n0:w.heap.size ≠ H:=by omega
 have e:∀ o v,W.cell? ⟨w.heap.size,o,none⟩=some v->(W.setCell ⟨H,2,none⟩ (.int .i64 x)).cell? ⟨w.heap.size,o,none⟩=some v:=fun o v q=>(World.cell?_of_block (w:=W) (a:=⟨w.heap.size,o,none⟩) (Below.heap_setCell _ _ _ _ n0)).trans q
 refine ⟨h.bel.setCell (p:=⟨H,2,none⟩) (by show w.heap.size<=H;omega) _,e _ _ h.g0,e _ _ h.g1,e _ _ h.g2,⟨f,R.setOther (a:=⟨H,2,none⟩) (by show w.heap.size+1 ≠ H;omega) _⟩,?_,h.words.setOther (by omega) _,h.ats.setOther (by omega) _,h.mx,o1,o2,o3⟩
 refine (h.box.set 2 _).congr fun i hi=>?_
 rcases i with _|_|_|_|_|_|_|_|i
 all_goals first|rfl|omega
theorem BS.rts {w W:World} {g:Gr} {ra na:Option Addr} {rc nc gW H gA cA:Nat} {rv:Value} {old:Int} {Wd Al:List Int} (h:BS w W g ra rc na nc gW H gA cA rv old Wd Al) (x:Value):BS w (W.setCell ⟨H,1,none⟩ x) g ra rc na nc gW H gA cA x old Wd Al:=by
 obtain ⟨f,R⟩:=h.res
 have o1:=h.o1
 have o2:=h.o2
 have o3:=h.o3
 have n0:w.heap.size ≠ H:=by omega
 have e:∀ o v,W.cell? ⟨w.heap.size,o,none⟩=some v->(W.setCell ⟨H,1,none⟩ x).cell? ⟨w.heap.size,o,none⟩=some v:=fun o v q=>(World.cell?_of_block (w:=W) (a:=⟨w.heap.size,o,none⟩) (Below.heap_setCell _ _ _ _ n0)).trans q
 refine ⟨h.bel.setCell (p:=⟨H,1,none⟩) (by show w.heap.size<=H;omega) _,e _ _ h.g0,e _ _ h.g1,e _ _ h.g2,⟨f,R.setOther (a:=⟨H,1,none⟩) (by show w.heap.size+1 ≠ H;omega) _⟩,?_,h.words.setOther (by omega) _,h.ats.setOther (by omega) _,h.mx,o1,o2,o3⟩
 refine (h.box.set 1 _).congr fun i hi=>?_
 rcases i with _|_|_|_|_|_|_|_|i
 all_goals first|rfl|omega
def plA (ns:List Nd) (k:Nat):List Int:=(List.range k).map fun i=>((plc ns i:Nat):Int)
theorem Ug (ns:List Nd) (k:Nat):(plA ns k).length=k:=by simp [plA]
theorem Jhp (ns:List Nd) (k:Nat):plA ns (k+1)=plA ns k ++ [((plc ns k:Nat):Int)]:=by simp [plA,List.range_succ]
theorem Wq (ns:List Nd) (k i:Nat) (h:i<k):(plA ns k).getD i 0=((plc ns i:Nat):Int):=by simp [plA,h]
end Go.Proofs.YtboiknllmnfipaaGreatDoor
