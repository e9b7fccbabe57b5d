
import Derived.Test.YtboiknllmnfipaaGreatDoorZG7Ok
import Derived.Test.YtboiknllmnfipaaGreatDoorZU23
import Derived.Test.YtboiknllmnfipaaGreatDoorZU5
import Derived.Test.YtboiknllmnfipaaGreatDoorZU0
import Derived.Test.YtboiknllmnfipaaGreatDoorZU19
import Derived.Test.YtboiknllmnfipaaGreatDoorZU20
import Derived.Test.YtboiknllmnfipaaGreatDoorZGShI
import Derived.Test.YtboiknllmnfipaaGreatDoorZU13
import Derived.Test.YtboiknllmnfipaaGreatDoorZGShO
import Derived.Test.YtboiknllmnfipaaGreatDoorZU8
import Derived.HandedShaped
import Derived.Stop.LaidTwo
import Derived.RowKitTokens
import Derived.Below
import Derived.Stop.Joined
/- Build of the model. -/
namespace Go.Proofs.YtboiknllmnfipaaGreatDoor
open Go.RowKit
set_option maxRecDepth 100000 in
set_option maxHeartbeats 3200000 in
theorem Jbh (v:Value) (g:Gr) (w:World) (hv:GR w v g) (l1:g.nodes.length<=10000000) (l3:g.roots.length<=10000000) (s64:U6 g.nodes) (r64:∀ x,x ∈ g.roots->g64 x) :
  Calls Tryz.prog 7 #[v] w fun e w'=>(∃ u,e=.returned (.tuple #[u,.bool (Ob g)])/\HN w.heap.size w' u (Rs g))/\Below w.heap.size w w':=by
 obtain ⟨ra,rc,na,nc,rfl,hr,hn⟩:=hv.out
 have hb0:Below w.heap.size w ((w.alloc (.cells #[.slice ra g.roots.length rc,.slice na g.nodes.length nc,.int .i64 g.hash] 27)).alloc (.cells #[.slice none 0 0,.slice none 0 0,.int .i64 0,.int .i64 0,.int .i64 0,.bool false,.int .i64 0,.slice none 0 0] 30)):=C3 (C5 _ _) (C5 _ _)
 have GO:=Y7 _ g _ (hv.later hb0) l1 l3 s64 r64
 obtain ⟨f,R0⟩:∃ f,((w.alloc (.cells #[.slice ra g.roots.length rc,.slice na g.nodes.length nc,.int .i64 g.hash] 27)).alloc (.cells #[.slice none 0 0,.slice none 0 0,.int .i64 0,.int .i64 0,.int .i64 0,.bool false,.int .i64 0,.slice none 0 0] 30)).rowIs (w.heap.size+1) 30 8 f:=by
  have q:=I0 (w.alloc (.cells #[.slice ra g.roots.length rc,.slice na g.nodes.length nc,.int .i64 g.hash] 27)) #[.slice none 0 0,.slice none 0 0,.int .i64 0,.int .i64 0,.int .i64 0,.bool false,.int .i64 0,.slice none 0 0] 30
  rw [World.size_alloc] at q
  exact ⟨_,q⟩
 have c0:=C2 (C5 (w.alloc (.cells #[.slice ra g.roots.length rc,.slice na g.nodes.length nc,.int .i64 g.hash] 27)) (.cells #[.slice none 0 0,.slice none 0 0,.int .i64 0,.int .i64 0,.int .i64 0,.bool false,.int .i64 0,.slice none 0 0] 30)) (E6 w #[.slice ra g.roots.length rc,.slice na g.nodes.length nc,.int .i64 g.hash] 27 _ rfl 0 _ rfl)
 have c1:=C2 (C5 (w.alloc (.cells #[.slice ra g.roots.length rc,.slice na g.nodes.length nc,.int .i64 g.hash] 27)) (.cells #[.slice none 0 0,.slice none 0 0,.int .i64 0,.int .i64 0,.int .i64 0,.bool false,.int .i64 0,.slice none 0 0] 30)) (E6 w #[.slice ra g.roots.length rc,.slice na g.nodes.length nc,.int .i64 g.hash] 27 _ rfl 1 _ rfl)
 have c2:=C2 (C5 (w.alloc (.cells #[.slice ra g.roots.length rc,.slice na g.nodes.length nc,.int .i64 g.hash] 27)) (.cells #[.slice none 0 0,.slice none 0 0,.int .i64 0,.int .i64 0,.int .i64 0,.bool false,.int .i64 0,.slice none 0 0] 30)) (E6 w #[.slice ra g.roots.length rc,.slice na g.nodes.length nc,.int .i64 g.hash] 27 _ rfl 2 _ rfl)
 clear hr hn
 cases hk:Ob g
 ·rw [hk] at GO
  have OKC:(#[.slice none 0 0,.slice none 0 0,.int .i64 0,.int .i64 0,.int .i64 0,.bool false,.int .i64 0,.slice none 0 0]:Array Value).all (·.oneCell')=true:=by simp [Value.oneCell']
  go_enter Tryz.func7,Tryz.ntmps7
  go_wp2_with fail
  refine GO.mono ?_
  rintro e w1 ⟨rfl,hb1⟩
  have hbw1:=C3 hb0 hb1
  have R1:=R0.of_block (hb1.block _ R0.lt)
  clear GO hb0 R0
  go_wp2_with ((with_reducible refine C9 _ ?_ (.tmp 2) (.tmp 7) 30 ?_ 30 (w.heap.size+1) 8 #[.slice none 0 0,.slice none 0 0,.int .i64 0,.int .i64 0,.int .i64 0,.bool false,.int .i64 0,.slice none 0 0] f ?_ ?_ R1 ?_ ?_ OKC ?_);rfl;rfl;rfl;rfl;rfl;kernel_rfl;intro w9 K9 G9;have r0:w9.cell? ⟨w.heap.size+1,0,none⟩=some (.slice none 0 0):=K9.cell (i:=0) (by omega);have r1:w9.cell? ⟨w.heap.size+1,1,none⟩=some (.slice none 0 0):=K9.cell (i:=1) (by omega);have r2:w9.cell? ⟨w.heap.size+1,2,none⟩=some (.int .i64 0):=K9.cell (i:=2) (by omega);have r3:w9.cell? ⟨w.heap.size+1,3,none⟩=some (.int .i64 0):=K9.cell (i:=3) (by omega);have r4:w9.cell? ⟨w.heap.size+1,4,none⟩=some (.int .i64 0):=K9.cell (i:=4) (by omega);have r5:w9.cell? ⟨w.heap.size+1,5,none⟩=some (.bool false):=K9.cell (i:=5) (by omega);have r6:w9.cell? ⟨w.heap.size+1,6,none⟩=some (.int .i64 0):=K9.cell (i:=6) (by omega);have r7:w9.cell? ⟨w.heap.size+1,7,none⟩=some (.slice none 0 0):=K9.cell (i:=7) (by omega))
  have B9:Below w.heap.size w w9:=Below.grown hbw1 G9 (hbw1).size (fun k hk=>by cases hk;omega)
  have zb:=Uk (B:=w.heap.size) (w':=w9) hk
  rw [hk] at zb
  exact bodyPost_ret (v:=.tuple #[.agg #[.slice none 0 0,.slice none 0 0,.int .i64 0,.int .i64 0,.int .i64 0,.bool false,.int .i64 0,.slice none 0 0],.bool false]) (by simp [results,Tryz.results7,go_sem,r0,r1,r2,r3,r4,r5,r6,r7]) rfl ⟨⟨_,zb⟩,B9⟩
 ·rw [hk] at GO
  have LB:=fun W hv=>Vz (.agg #[.slice ra g.roots.length rc,.slice na g.nodes.length nc,.int .i64 g.hash]) g W hv (Rk hk).1
  go_enter Tryz.func7,Tryz.ntmps7
  go_wp2_with fail
  refine GO.mono ?_
  rintro e w1 ⟨rfl,hb1⟩
  have hbw1:=C3 hb0 hb1
  have R1:=R0.of_block (hb1.block _ R0.lt)
  have x0:=C2 hb1 c0
  have x1:=C2 hb1 c1
  have x2:=C2 hb1 c2
  clear GO R0 c0 c1 c2
  go_wp2_with fail
  refine (LB _ (hv.later hbw1)).mono ?_
  rintro e w2 ⟨⟨u,rfl,hu⟩,hb2⟩
  obtain ⟨ho1,hc1,ho2,hc2,ho3,hc3,rfl,-⟩:=hu.out
  have hbw2:=C3 hbw1 hb2
  have R2:=R1.of_block (hb2.block _ R1.lt)
  have lt1:=R1.lt
  have OKC:(#[.slice ho1 (C4 g).words.length hc1,.slice ho2 (C4 g).roots.length hc2,.int .i64 (C4 g).old,.int .i64 (C4 g).eden,.int .i64 (C4 g).surv,.bool (C4 g).flip,.int .i64 (C4 g).hash,.slice ho3 (C4 g).kept.length hc3]:Array Value).all (·.oneCell')=true:=by simp [Value.oneCell']
  clear x0 x1 x2 R1 LB
  go_wp2_with ((with_reducible refine C9 _ ?_ (.tmp 2) (.tmp 9) 30 ?_ 30 (w.heap.size+1) 8 #[.slice ho1 (C4 g).words.length hc1,.slice ho2 (C4 g).roots.length hc2,.int .i64 (C4 g).old,.int .i64 (C4 g).eden,.int .i64 (C4 g).surv,.bool (C4 g).flip,.int .i64 (C4 g).hash,.slice ho3 (C4 g).kept.length hc3] f ?_ ?_ R2 ?_ ?_ OKC ?_);rfl;rfl;rfl;rfl;rfl;kernel_rfl;intro w9 K9 G9;have r0:w9.cell? ⟨w.heap.size+1,0,none⟩=some (.slice ho1 (C4 g).words.length hc1):=K9.cell (i:=0) (by omega);have r1:w9.cell? ⟨w.heap.size+1,1,none⟩=some (.slice ho2 (C4 g).roots.length hc2):=K9.cell (i:=1) (by omega);have r2:w9.cell? ⟨w.heap.size+1,2,none⟩=some (.int .i64 (C4 g).old):=K9.cell (i:=2) (by omega);have r3:w9.cell? ⟨w.heap.size+1,3,none⟩=some (.int .i64 (C4 g).eden):=K9.cell (i:=3) (by omega);have r4:w9.cell? ⟨w.heap.size+1,4,none⟩=some (.int .i64 (C4 g).surv):=K9.cell (i:=4) (by omega);have r5:w9.cell? ⟨w.heap.size+1,5,none⟩=some (.bool (C4 g).flip):=K9.cell (i:=5) (by omega);have r6:w9.cell? ⟨w.heap.size+1,6,none⟩=some (.int .i64 (C4 g).hash):=K9.cell (i:=6) (by omega);have r7:w9.cell? ⟨w.heap.size+1,7,none⟩=some (.slice ho3 (C4 g).kept.length hc3):=K9.cell (i:=7) (by omega))
  have B9:Below w.heap.size w w9:=Below.grown hbw2 G9 (hbw2).size (fun k hk=>by cases hk;omega)
  have HF:HN w.heap.size w9 (.agg #[.slice ho1 (C4 g).words.length hc1,.slice ho2 (C4 g).roots.length hc2,.int .i64 (C4 g).old,.int .i64 (C4 g).eden,.int .i64 (C4 g).surv,.bool (C4 g).flip,.int .i64 (C4 g).hash,.slice ho3 (C4 g).kept.length hc3]) (Rs g):=by
   rw [Um hk]
   exact Jef (Jep hu G9 (by omega)) (by have:=hbw1.size;omega)
  exact bodyPost_ret (v:=.tuple #[.agg #[.slice ho1 (C4 g).words.length hc1,.slice ho2 (C4 g).roots.length hc2,.int .i64 (C4 g).old,.int .i64 (C4 g).eden,.int .i64 (C4 g).surv,.bool (C4 g).flip,.int .i64 (C4 g).hash,.slice ho3 (C4 g).kept.length hc3],.bool true]) (by simp [results,Tryz.results7,go_sem,r0,r1,r2,r3,r4,r5,r6,r7]) rfl ⟨⟨_,rfl,HF⟩,B9⟩
end Go.Proofs.YtboiknllmnfipaaGreatDoor
/- GraphOk of the program. -/
namespace Go.Proofs.YtboiknllmnfipaaGreatDoor
open Go.RowKit
set_option maxRecDepth 100000 in
set_option maxHeartbeats 1600000 in
theorem Za (v:Value) (g:Gr) (w:World) (hv:GR w v g) (l1:g.nodes.length<=10000000) (l3:g.roots.length<=10000000) (s64:U6 g.nodes) (ht:GTb w) :
  Calls Tryz.prog 9 #[v] w fun e w'=>e=.returned (.bool (Ob g))/\Below w.heap.size w w':=by
 obtain ⟨ra,rc,na,nc,rfl,hr,hn⟩:=hv.out
 have hb0:=C5 w (.cells #[.slice ra g.roots.length rc,.slice na g.nodes.length nc,.int .i64 g.hash] 27)
 have B:=Ta _ g _ (hv.later hb0) l1 l3 s64 (ht.later hb0)
 generalize Ob g=ok at *
 generalize Rs g=r at *
 go_enter Tryz.func9,Tryz.ntmps9
 go_wp2_with fail
 refine B.mono ?_
 rintro e w1 ⟨⟨u,rfl,hu⟩,hb1⟩
 obtain ⟨ho1,hc1,ho2,hc2,ho3,hc3,rfl,-⟩:=hu.out
 have hbw:=C3 hb0 hb1
 go_wp2
 go_ret
 exact ⟨rfl,C3 hbw (C5 _ _)⟩
end Go.Proofs.YtboiknllmnfipaaGreatDoor
/- The graph of a right heap, built: its shape is that graph, and as many words are come to. -/
namespace Go.Proofs.YtboiknllmnfipaaGreatDoor
open Go.RowKit
def plQ (W:List Int) (F:List Nat) (a:Nat):Nat:=plc (F.map (J3 W F)) (F.idxOf a)
def rq (W:List Int) (F:List Nat) (x:Int):Int:=rnI (F.map (J3 W F)) (ren F x)
theorem Jcd {ns:List Nd} {i j:Nat} (h:i<j) (hj:j<=ns.length):plc ns i+4<=plc ns j:=by
 have:=Rx ns i (j - i) (by omega)
 rw [show i+(j - i)=j from by omega] at this
 omega
theorem Jeh {W:List Int} {F:List Nat} {a b:Nat} (ha:a ∈ F) (hb:b ∈ F) (e:plQ W F a=plQ W F b):a=b:=by
 have ia:=List.idxOf_lt_length_of_mem ha
 have ib:=List.idxOf_lt_length_of_mem hb
 have hl:(F.map (J3 W F)).length=F.length:=List.length_map _
 unfold plQ at e
 rcases Nat.lt_trichotomy (F.idxOf a) (F.idxOf b) with q|q|q
 ·have:=Jcd (ns:=F.map (J3 W F)) q (by omega);omega
 ·have e1:=List.getElem_idxOf ia
  have e2:=List.getElem_idxOf ib
  rw [<- e1,← e2]
  congr 1
 ·have:=Jcd (ns:=F.map (J3 W F)) q (by omega);omega
theorem Jgs {i:Nat} (h:i<3200):isK 2 (2 * (i:Int)+1)=true:=by
 unfold isK H8 Rq
 rw [if_pos (by omega),if_pos (decide_eq_true (by omega))]
 rfl
theorem Jds {W:List Int} {F:List Nat} (hp:plc (F.map (J3 W F)) (F.map (J3 W F)).length<=2000) {x:Int} (hm:isK 2 x=true->(x / 2).toNat ∈ F) :
  (isK 2 (rq W F x)=isK 2 x)/\(isK 2 x=true->(rq W F x / 2).toNat=plQ W F (x / 2).toNat)/\(¬ isK 2 x=true->rq W F x=x):=by
 have hl:(F.map (J3 W F)).length=F.length:=List.length_map _
 have hc:=Zi (F.map (J3 W F))
 by_cases k:isK 2 x=true
 ·have ix:=List.idxOf_lt_length_of_mem (hm k)
  have er:ren F x=2 * ((F.idxOf (x / 2).toNat:Nat):Int)+1:=by unfold ren;rw [if_pos k]
  have k2:=Jgs (i:=F.idxOf (x / 2).toNat) (by omega)
  have ei:(2 * ((F.idxOf (x / 2).toNat:Nat):Int)+1) / 2=((F.idxOf (x / 2).toNat:Nat):Int):=by omega
  have eq:rq W F x=2 * ((plQ W F (x / 2).toNat:Nat):Int)+1:=by
   unfold rq
   rw [er]
   unfold rnI
   rw [if_pos k2,ei,Int.toNat_natCast,if_pos (by rw [hl];exact ix)]
   rfl
  have lt:=Z7 (ns:=F.map (J3 W F)) (i:=F.idxOf (x / 2).toNat) (by rw [hl];exact ix)
  have lt2:plQ W F (x / 2).toNat<3200:=by unfold plQ;omega
  refine ⟨?_,fun _=>?_,fun q=>absurd k q⟩
  ·rw [eq,Jgs lt2,k]
  ·rw [eq]
   omega
 ·have er:rq W F x=x:=by
   unfold rq ren rnI
   rw [if_neg k,if_neg k]
  exact ⟨by rw [er],fun q=>absurd q k,fun _=>er⟩
theorem Jlm {W:List Int} {F:List Nat} {a:Nat} (ha:a ∈ F):(F.map (J3 W F)).getD (F.idxOf a) nd0=J3 W F a:=by
 have ix:=List.idxOf_lt_length_of_mem ha
 rw [List.getD_eq_getElem?_getD,List.getElem?_map,List.getElem?_eq_getElem ix,Option.map_some,Option.getD_some]
 congr 1
 exact List.getElem_idxOf ix
theorem Jdw {W:List Int} {F:List Nat} {a:Nat} (ha:a ∈ F):flds (M0 (F.map (J3 W F))) (plQ W F a)=(flds W a).map (rq W F):=by
 have ix:=List.idxOf_lt_length_of_mem ha
 unfold plQ
 rw [Ve (by rw [List.length_map];exact ix),Jlm ha]
 show ((flds W a).map (ren F)).map (rnI (F.map (J3 W F)))=_
 rw [List.map_map]
 rfl
theorem Jjs {W:List Int} {F o:List Nat} (hp:plc (F.map (J3 W F)) (F.map (J3 W F)).length<=2000) (ho:∀ a,a ∈ o->a ∈ F) {x:Int} (hm:isK 2 x=true->(x / 2).toNat ∈ F) :
  On (o.map (plQ W F)) (rq W F x)=(On o x).map (plQ W F)/\∀ a,a ∈ On o x->a ∈ F:=by
 obtain ⟨q1,q2,-⟩:=Jds hp hm
 unfold On
 rw [q1]
 by_cases kx:isK 2 x=true
 ·have mr:=hm kx
  rw [if_pos kx,if_pos kx,q2 kx]
  by_cases hmo:(x / 2).toNat ∈ o
  ·rw [if_pos hmo,if_pos (List.mem_map.2 ⟨_,hmo,rfl⟩)]
   exact ⟨rfl,ho⟩
  ·rw [if_neg hmo,if_neg (fun z=>by
    obtain ⟨b,hb,eb⟩:=List.mem_map.1 z
    exact hmo (Jeh (ho b hb) mr eb ▸ hb))]
   refine ⟨by simp,fun a ha=>?_⟩
   rw [List.mem_append,List.mem_singleton] at ha
   rcases ha with ha|rfl
   ·exact ho a ha
   ·exact mr
 ·rw [if_neg kx,if_neg kx]
  exact ⟨rfl,ho⟩
theorem Jdd {W:List Int} {F:List Nat} (hp:plc (F.map (J3 W F)) (F.map (J3 W F)).length<=2000):∀ (ws:List Int) {o:List Nat},(∀ a,a ∈ o->a ∈ F)->(∀ x,x ∈ ws->isK 2 x=true->(x / 2).toNat ∈ F) →
  fol (o.map (plQ W F)) (ws.map (rq W F))=(fol o ws).map (plQ W F)/\∀ a,a ∈ fol o ws->a ∈ F
 | [],o,ho,_=>⟨rfl,ho⟩
 | x::ws,o,ho,hw=>by
  obtain ⟨e1,m1⟩:=Jjs hp ho (hw x (by simp))
  have ih:=Jdd hp ws m1 (fun y hy=>hw y (by simp [hy]))
  have e:fol (o.map (plQ W F)) ((x::ws).map (rq W F))=fol (On (o.map (plQ W F)) (rq W F x)) (ws.map (rq W F)):=rfl
  rw [e,e1]
  exact ih
theorem Jlo {W R:List Int} {F:List Nat} (hp:plc (F.map (J3 W F)) (F.map (J3 W F)).length<=2000) (hr:∀ x,x ∈ R->isK 2 x=true->(x / 2).toNat ∈ F) (hf:∀ a,a ∈ F->∀ x,x ∈ flds W a->isK 2 x=true->(x / 2).toNat ∈ F) :
  ∀ n,tr (M0 (F.map (J3 W F))) (R.map (rq W F)) n=(tr W R n).map (plQ W F)/\∀ a,a ∈ tr W R n->a ∈ F
 | 0=>Jdd hp R (o:=[]) (fun a ha=>absurd ha (by simp)) hr
 | n+1=>by
  obtain ⟨e,m⟩:=Jlo hp hr hf n
  rw [tr,tr,e,List.length_map]
  by_cases hn:n<(tr W R n).length
  ·rw [if_pos hn,if_pos hn]
   have mem:(tr W R n).getD n 0 ∈ tr W R n:=by simp [hn]
   have mr:=m _ mem
   have eg:((tr W R n).map (plQ W F)).getD n 0=plQ W F ((tr W R n).getD n 0):=by simp [List.getD_eq_getElem?_getD,hn]
   rw [eg,Jdw mr]
   exact Jdd hp _ m (hf _ mr)
  ·rw [if_neg hn,if_neg hn]
   exact ⟨rfl,m⟩
theorem Jiw {W:List Int} {F:List Nat} (hp:plc (F.map (J3 W F)) (F.map (J3 W F)).length<=2000) {x:Int} (hm:isK 2 x=true->(x / 2).toNat ∈ F):ren (F.map (plQ W F)) (rq W F x)=ren F x:=by
 obtain ⟨q1,q2,q3⟩:=Jds hp hm
 have key:∀ (G:List Nat),(∀ a,a ∈ G->a ∈ F)->∀ {a:Nat},a ∈ F->(G.map (plQ W F)).idxOf (plQ W F a)=G.idxOf a:=by
  intro G
  induction G with
  | nil=>intro _ a _;simp
  | cons b G ih =>
   intro hG a ha
   rw [List.map_cons,List.idxOf_cons,List.idxOf_cons]
   by_cases e:b=a
   ·subst e
    simp
   ·have ne:¬ plQ W F b=plQ W F a:=fun q=>e (Jeh (hG b (by simp)) ha q)
    rw [ih (fun c hc=>hG c (by simp [hc])) ha,show (plQ W F b == plQ W F a)=false from by simpa using ne,show (b == a)=false from by simpa using e]
 unfold ren
 rw [q1]
 by_cases kx:isK 2 x=true
 ·rw [if_pos kx,if_pos kx,q2 kx,key F (fun _ h=>h) (hm kx)]
 ·rw [if_neg kx,if_neg kx,q3 kx]
theorem Jfx {W R:List Int} {F:List Nat} {H:Int} (hF:C8 W R=F) (hp:plc (F.map (J3 W F)) (F.map (J3 W F)).length<=2000) (hr:∀ x,x ∈ R->isK 2 x=true->(x / 2).toNat ∈ F) (hf:∀ a,a ∈ F->∀ x,x ∈ flds W a->isK 2 x=true->(x / 2).toNat ∈ F) :
  shP (C4 (shG W R F H))=shG W R F H/\C8 (C4 (shG W R F H)).words (C4 (shG W R F H)).roots=F.map (plQ W F):=by
 have er:(C4 (shG W R F H)).roots=R.map (rq W F):=by
  show (R.map (ren F)).map (rnI (F.map (J3 W F)))=_
  rw [List.map_map]
  rfl
 have ew:(C4 (shG W R F H)).words=M0 (F.map (J3 W F)):=rfl
 have eo:C8 (C4 (shG W R F H)).words (C4 (shG W R F H)).roots=F.map (plQ W F):=by
  rw [er,ew,Zu,(Jlo hp hr hf 3200).1,← Zu,hF]
 refine ⟨?_,eo⟩
 unfold shP
 rw [eo,er,ew]
 show shG (M0 (F.map (J3 W F))) (R.map (rq W F)) (F.map (plQ W F)) H=shG W R F H
 unfold shG
 have e1:(R.map (rq W F)).map (ren (F.map (plQ W F)))=R.map (ren F):=by
  rw [List.map_map]
  exact List.map_congr_left fun x hx=>Jiw hp (hr x hx)
 have e2:(F.map (plQ W F)).map (J3 (M0 (F.map (J3 W F))) (F.map (plQ W F)))=F.map (J3 W F):=by
  rw [List.map_map]
  refine List.map_congr_left fun a ha=>?_
  have ix:=List.idxOf_lt_length_of_mem ha
  have il:F.idxOf a<(F.map (J3 W F)).length:=by rw [List.length_map];exact ix
  have h1:=Jap il
  have h2:=To il
  rw [Jlm ha] at h1 h2
  show J3 (M0 (F.map (J3 W F))) (F.map (plQ W F)) (plQ W F a)=_
  unfold J3
  unfold J3 at h1 h2
  have fl:=Jdw (W:=W) ha
  unfold J3 at fl
  unfold plQ at fl ⊢
  unfold J3 at fl ⊢
  rw [h1,h2,fl,List.map_map]
  congr 1
  exact List.map_congr_left fun x hx=>Jiw hp (hf a ha x hx)
 rw [e1,e2]
theorem Jmt (W:List Int) (F:List Nat) (a:Nat):(J3 W F a).fl.length=(gw W a).toNat:=by
 show ((flds W a).map (ren F)).length=_
 rw [List.length_map]
 unfold flds
 rw [List.length_map,List.length_range]
theorem Zm (W:List Int) (F:List Nat):∀ G:List Nat,(G.map fun a=>(nx W a:Int) - a).sum=(((G.map (J3 W F)).map fun n=>4+n.fl.length).sum:Nat)
 | []=>rfl
 | a::G=>by
  rw [List.map_cons,List.sum_cons,List.map_cons,List.map_cons,List.sum_cons,Zm W F G,Jmt]
  unfold nx
  omega
theorem Jaw (h:Hp):reP h=(plc (shP h).nodes (shP h).nodes.length:Nat):=by
 unfold reP plc
 rw [List.take_length]
 exact Zm h.words (C8 h.words h.roots) (C8 h.words h.roots)
theorem Jga {h:Hp} {l:List Nat} (r:RightAt h l) (hp:plc (shP h).nodes (shP h).nodes.length<=2000):Jae (shP h) :=
 ⟨Zs r hp,(Jfx rfl hp (fun _ hx k=>Vq hx k) (fun _ ha _ hx k=>Uh r ha hx k)).1⟩
theorem Jda {h:Hp} (k:okC h=true):Ob (shP h)=decide (plc (shP h).nodes (shP h).nodes.length<=2000):=by
 by_cases hp:plc (shP h).nodes (shP h).nodes.length<=2000
 ·rw [decide_eq_true hp]
  exact Zt (Jga (Oa k) hp)
 ·rw [decide_eq_false hp]
  exact Ub (fun q=>hp q.1.2.2.2.2.2.2)
theorem Jbk {g:Gr} (h:Jae g):shC (C4 g)=g:=by
 unfold shC
 rw [if_pos (Ym h)]
 exact h.2
theorem Jiv {g:Gr} (h:Jae g):reC (C4 g)=(plc g.nodes g.nodes.length:Nat):=by
 unfold reC
 rw [if_pos (Ym h),Jaw,h.2]
end Go.Proofs.YtboiknllmnfipaaGreatDoor
/- A region of a function, taken out of it. -/
namespace Go.Proofs.YtboiknllmnfipaaGreatDoor
open Go.RowKit
def Jbg (n:Nat):Code->Option Code
 | .region i ops d=>if i=n then some (.region i ops d) else none
 | .seq a b=>match Jbg n a with
  | some c=>some c
  | none=>Jbg n b
 | .block _ c=>Jbg n c
 | .scope c=>Jbg n c
 | .loop c=>Jbg n c
 | .cond _ a b=>match Jbg n a with
  | some c=>some c
  | none=>Jbg n b
 | _=>none
end Go.Proofs.YtboiknllmnfipaaGreatDoor
/- The walk of the law FnShaped. -/
namespace Go.Proofs.YtboiknllmnfipaaGreatDoor
open Go.RowKit
theorem Jfr {g:Gr} (h:Gsm g):(Rs g).words.length<=10000/\(Rs g).roots.length<=10000/\(Rs g).kept.length<=10000:=by
 cases k:Ob g
 ·rw [Jgz k]
  exact ⟨Nat.zero_le _,Nat.zero_le _,Nat.zero_le _⟩
 ·rw [Um k]
  have p:=(Rk k).1.2.2.2.2.2.2
  have e:(C4 g).words.length=3200:=Qs (by omega)
  refine ⟨by omega,?_,Nat.zero_le _⟩
  show (g.roots.map (rnI g.nodes)).length<=10000
  rw [List.length_map]
  have:=h.1
  omega
theorem Jci {ns:List Nd} (h:∀ n,n ∈ ns->n.fl.length<=1000):∀ k,k<=ns.length->plc ns k<=1004 * k
 | 0,_=>Nat.le_refl _
 | k+1,hk=>by
  have ih:=Jci h k (by omega)
  have hs:=Ox ns k (by omega)
  have hn:=h (ns.getD k nd0) (by simp [show k<ns.length from by omega])
  omega
theorem NR.at {w:World} {ns:List Nd} {n cap:Nat} {ao:Option Addr} (h:NR w (.slice ao n cap) ns) {k:Nat} (hk:k<ns.length):∃ b o fa m fc,ao=some ⟨b,o,none⟩/\w.cell? ⟨b,o+k * 3,none⟩=some (.int .i64 (ns.getD k nd0).cls)/\w.cell? ⟨b,o+k * 3+1,none⟩=some (.int .i64 (ns.getD k nd0).hash)/\w.cell? ⟨b,o+k * 3+2,none⟩=some (.slice fa m fc)/\IR w (.slice fa m fc) (ns.getD k nd0).fl:=by
 obtain ⟨a,c,e,_,h⟩:=h
 simp only [Value.slice.injEq] at e
 obtain ⟨rfl,rfl,rfl⟩:=e
 obtain ⟨b,o,fa,m,fc,e,c0,c1,c2,ir⟩:=h k hk
 exact ⟨b,o,fa,m,fc,e,c0,c1,c2,ir⟩
theorem IR.len {w:World} {a:Option Addr} {n c:Nat} {l:List Int} (h:IR w (.slice a n c) l):n=l.length:=by
 obtain ⟨a',c',e,_⟩:=h
 injection e
noncomputable def rs8:Code:=((Tryz.f3.body.bind (Jbg 8)).getD .skip)
set_option maxRecDepth 1000000 in
set_option maxHeartbeats 12800000 in
theorem Jnl {w4:World} {G1 H2 er en a4 a5 a6:Nat} {pr pn a1 a2 a3:Option Addr} {g:Gr} {b:Hp} {gk:Bool} (CG:∀ W,Below w4.heap.size w4 W->W.cell? ⟨G1,0,none⟩=some (.slice pr g.roots.length er)/\W.cell? ⟨G1,1,none⟩=some (.slice pn g.nodes.length en)/\W.cell? ⟨G1,2,none⟩=some (.int .i64 g.hash)) (CB:∀ W,Below w4.heap.size w4 W->W.cell? ⟨H2,0,none⟩=some (.slice a1 b.words.length a4)/\W.cell? ⟨H2,1,none⟩=some (.slice a2 b.roots.length a5)/\W.cell? ⟨H2,2,none⟩=some (.int .i64 b.old)/\W.cell? ⟨H2,3,none⟩=some (.int .i64 b.eden)/\W.cell? ⟨H2,4,none⟩=some (.int .i64 b.surv)/\W.cell? ⟨H2,5,none⟩=some (.bool b.flip)/\W.cell? ⟨H2,6,none⟩=some (.int .i64 b.hash)/\W.cell? ⟨H2,7,none⟩=some (.slice a3 b.kept.length a6))
  (gv:GR w4 (.agg #[.slice pr g.roots.length er,.slice pn g.nodes.length en,.int .i64 g.hash]) g) (hv:HR w4 (.agg #[.slice a1 b.words.length a4,.slice a2 b.roots.length a5,.int .i64 b.old,.int .i64 b.eden,.int .i64 b.surv,.bool b.flip,.int .i64 b.hash,.slice a3 b.kept.length a6]) b) (ht:GTb w4) (GO:∀ W,GR W (.agg #[.slice pr g.roots.length er,.slice pn g.nodes.length en,.int .i64 g.hash]) g->GTb W->Calls Tryz.prog 9 #[.agg #[.slice pr g.roots.length er,.slice pn g.nodes.length en,.int .i64 g.hash]] W fun e w'=>e=.returned (.bool gk)/\Below W.heap.size W w')
  (SI:∀ v W,HR W v b->Calls Tryz.prog 11 #[v] W fun x w'=>(∃ v',x=.returned v' /\ GN W.heap.size w' v' (shC b))/\Below W.heap.size W w') (LG:∀ v W,GR W v g->GR W (.agg #[.slice pr g.roots.length er,.slice pn g.nodes.length en,.int .i64 g.hash]) g->Calls Tryz.prog 10 #[v,.agg #[.slice pr g.roots.length er,.slice pn g.nodes.length en,.int .i64 g.hash]] W fun e w'=>e=.returned (.bool true)/\Below W.heap.size W w')
  (SHg:gk=true->shC b=g) {Q:Exit->Act->World->Prop} (u0 u1 u2 u6 u7 u8 u9 Lb Jt Lc Ju Jv Mc Ld Le Jw Jx Jy Jz Kd Ke Lf Lg Hz Ia Ib Ic Jc Jd Je Id Ie Ig Ih Jf Jg Jh Ji Jj Jk Jl Jm Jn Jo Jp Jq Jr Js Ii Ij Ik Il Im Io Ip Iq Ir It Iu Iv Iw Ix Iy Iz Ja Jb Nq Kf Kg Kh Ki Lh Li Lj Lk Ll Lm Ln Lo Lp Lq Kj Kk Km Kn Ko Kp Kr Ks Kt Ku Kv Kw Kx Ky Kz La Ct Cu Cv Cw Cx Cy Cz Di Dj Dk Dl Dm Dn Do Dp Dq Da Db Dc Dd De Df Dg Dh:Value)
  (hQ:∀ (W:World) (a37 a38 a39 a40 a41 a42 a43 a44 a45 a46 a47 a48 a49:Value),Below w4.heap.size w4 W->Q .normal ⟨List.toArray (u0::u1::u2::.pointer (some ⟨G1,0,none⟩)::.pointer (some ⟨H2,0,none⟩)::.bool gk::u6::u7::u8::u9::Lb::Jt::Lc::Ju::Jv::Mc::Ld::Le::Jw::Jx::Jy::Jz::Kd::Ke::Lf::Lg::Hz::Ia::Ib::Ic::Jc::Jd::Je::Id::Ie::Ig::Ih::a37::a38::a39::a40::a41::a42::a43::a44::a45::a46::a47::a48::a49::.bool false::Ii::Ij::Ik::Il::Im::Io::Ip::Iq::Ir::It::Iu::Iv::Iw::Ix::Iy::Iz::Ja::Jb::Nq::Kf::Kg::Kh::Ki::Lh::Li::Lj::Lk::Ll::Lm::Ln::Lo::Lp::Lq::Kj::Kk::Km::Kn::Ko::Kp::Kr::Ks::Kt::Ku::Kv::Kw::Kx::Ky::Kz::La::Ct::Cu::Cv::Cw::Cx::Cy::Cz::Di::Dj::Dk::Dl::Dm::Dn::Do::Dp::Dq::Da::Db::Dc::Dd::De::Df::Dg::Dh::[]),[]⟩ W) :
  Code.wp Tryz.prog rs8 Q ⟨List.toArray (u0::u1::u2::.pointer (some ⟨G1,0,none⟩)::.pointer (some ⟨H2,0,none⟩)::.bool gk::u6::u7::u8::u9::Lb::Jt::Lc::Ju::Jv::Mc::Ld::Le::Jw::Jx::Jy::Jz::Kd::Ke::Lf::Lg::Hz::Ia::Ib::Ic::Jc::Jd::Je::Id::Ie::Ig::Ih::Jf::Jg::Jh::Ji::Jj::Jk::Jl::Jm::Jn::Jo::Jp::Jq::Jr::Js::Ii::Ij::Ik::Il::Im::Io::Ip::Iq::Ir::It::Iu::Iv::Iw::Ix::Iy::Iz::Ja::Jb::Nq::Kf::Kg::Kh::Ki::Lh::Li::Lj::Lk::Ll::Lm::Ln::Lo::Lp::Lq::Kj::Kk::Km::Kn::Ko::Kp::Kr::Ks::Kt::Ku::Kv::Kw::Kx::Ky::Kz::La::Ct::Cu::Cv::Cw::Cx::Cy::Cz::Di::Dj::Dk::Dl::Dm::Dn::Do::Dp::Dq::Da::Db::Dc::Dd::De::Df::Dg::Dh::[]),[]⟩ w4:=by
 conv=>arg 2;whnf
 have hmx:Tryz.prog.follows .mixedOrders=true:=by kernel_rfl
 have hs0:Below w4.heap.size w4 w4.drew:=(Below.refl _ _).drew
 refine Disk.z_plain 99 (fun W'=>Below w4.heap.size w4 W') hmx hs0 (fun hs=>?_)
 clear hs0
 generalize w4.drew=wd at hs ⊢
 cases gk
 ·refine Disk.zt 0 37 (v:=.bool false) rfl rfl hs (fun W' _=>(by
   go_simp;first|done|with_reducible rfl|with_reducible rfl)) ?_
  simp only [zA,zB,zC]
  refine Disk.zt 1 38 (v:=.agg #[.slice pr g.roots.length er,.slice pn g.nodes.length en,.int .i64 g.hash]) rfl rfl hs (fun W' hSw=>(by
   obtain ⟨s0,s1,s2⟩:=CG _ hSw
   go_simp;first|done|with_reducible rfl|with_reducible rfl)) ?_
  simp only [zA,zB,zC]
  refine Disk.z_call 2 39 rfl rfl (by kernel_rfl) (by rfl) (f:=9) (args:=#[.agg #[.slice pr g.roots.length er,.slice pn g.nodes.length en,.int .i64 g.hash]]) (w0:=wd) (by go_simp;first|done|with_reducible rfl) ?_
  refine (GO wd (gv.later hs) (ht.later hs)).mono ?_
  rintro e wq1 ⟨rfl,hbq⟩
  have hs1:=C3 hs hbq
  clear hbq
  refine ⟨_,rfl,.inr hs1,?_⟩
  simp only [zA,zB,zC]
  refine Disk.zt 3 40 (v:=.bool false) rfl rfl hs1 (fun W' _=>(by
   go_simp;first|done|with_reducible rfl|with_reducible rfl)) ?_
  simp only [zA,zB,zC]
  refine Disk.zt 4 41 (v:=.bool false) rfl rfl hs1 (fun W' _=>(by
   go_simp;first|done|with_reducible rfl|with_reducible rfl)) ?_
  simp only [zA,zB,zC]
  refine Disk.zt 5 42 (v:=.bool false) rfl rfl hs1 (fun W' _=>(by
   go_simp;first|done|with_reducible rfl|with_reducible rfl)) ?_
  simp only [zA,zB,zC]
  refine Disk.zt 6 43 (v:=.bool false) rfl rfl hs1 (fun W' _=>(by
   go_simp;first|done|with_reducible rfl|with_reducible rfl)) ?_
  simp only [zA,zB,zC]
  refine Disk.z_pass 7 44 rfl rfl (by kernel_rfl) (by kernel_rfl) (by kernel_rfl) (by kernel_rfl) (by rfl) hs1 ?_
  simp only [zA,zB,zC]
  refine Disk.z_pass 9 46 rfl rfl (by kernel_rfl) (by kernel_rfl) (by kernel_rfl) (by kernel_rfl) (by rfl) hs1 ?_
  simp only [zA,zB,zC]
  refine Disk.z_pass 8 45 rfl rfl (by kernel_rfl) (by kernel_rfl) (by kernel_rfl) (by kernel_rfl) (by rfl) hs1 ?_
  simp only [zA,zB,zC]
  refine Disk.z_pass 10 47 rfl rfl (by kernel_rfl) (by kernel_rfl) (by kernel_rfl) (by kernel_rfl) (by rfl) hs1 ?_
  simp only [zA,zB,zC]
  refine Disk.z_pass 11 48 rfl rfl (by kernel_rfl) (by kernel_rfl) (by kernel_rfl) (by kernel_rfl) (by rfl) hs1 ?_
  simp only [zA,zB,zC]
  refine Disk.zt 12 49 (v:=.bool false) rfl rfl hs1 (fun W' _=>(by
   go_simp;first|done|with_reducible rfl|with_reducible rfl)) ?_
  simp only [zA,zB,zC]
  refine Disk.zt 13 50 (v:=.bool false) rfl rfl hs1 (fun W' _=>(by
   go_simp;first|done|with_reducible rfl|with_reducible rfl)) ?_
  simp only [zA,zB,zC]
  refine Disk.z_done (by kernel_rfl) ?_ _
  exact hQ _ _ _ _ _ _ _ _ _ _ _ _ _ _ hs1
 ·refine Disk.zt 0 37 (v:=.bool true) rfl rfl hs (fun W' _=>(by
   go_simp;first|done|with_reducible rfl|with_reducible rfl)) ?_
  simp only [zA,zB,zC]
  refine Disk.zt 1 38 (v:=.agg #[.slice pr g.roots.length er,.slice pn g.nodes.length en,.int .i64 g.hash]) rfl rfl hs (fun W' hSw=>(by
   obtain ⟨s0,s1,s2⟩:=CG _ hSw
   go_simp;first|done|with_reducible rfl|with_reducible rfl)) ?_
  simp only [zA,zB,zC]
  refine Disk.z_call 2 39 rfl rfl (by kernel_rfl) (by rfl) (f:=9) (args:=#[.agg #[.slice pr g.roots.length er,.slice pn g.nodes.length en,.int .i64 g.hash]]) (w0:=wd) (by go_simp;first|done|with_reducible rfl) ?_
  refine (GO wd (gv.later hs) (ht.later hs)).mono ?_
  rintro e wq1 ⟨rfl,hbq⟩
  have hs1:=C3 hs hbq
  clear hbq
  refine ⟨_,rfl,.inr hs1,?_⟩
  simp only [zA,zB,zC]
  refine Disk.zt 3 40 (v:=.bool false) rfl rfl hs1 (fun W' _=>(by
   go_simp;first|done|with_reducible rfl|with_reducible rfl)) ?_
  simp only [zA,zB,zC]
  refine Disk.zt 4 41 (v:=.bool false) rfl rfl hs1 (fun W' _=>(by
   go_simp;first|done|with_reducible rfl|with_reducible rfl)) ?_
  simp only [zA,zB,zC]
  refine Disk.zt 5 42 (v:=.bool true) rfl rfl hs1 (fun W' _=>(by
   go_simp;first|done|with_reducible rfl|with_reducible rfl)) ?_
  simp only [zA,zB,zC]
  refine Disk.zt 6 43 (v:=.bool true) rfl rfl hs1 (fun W' _=>(by
   go_simp;first|done|with_reducible rfl|with_reducible rfl)) ?_
  simp only [zA,zB,zC]
  refine Disk.zt 7 44 (v:=.agg #[.slice a1 b.words.length a4,.slice a2 b.roots.length a5,.int .i64 b.old,.int .i64 b.eden,.int .i64 b.surv,.bool b.flip,.int .i64 b.hash,.slice a3 b.kept.length a6]) rfl rfl hs1 (fun W' hSw=>(by
   obtain ⟨s0,s1,s2,s3,s4,s5,s6,s7⟩:=CB _ hSw
   go_simp;first|done|with_reducible rfl|with_reducible rfl)) ?_
  simp only [zA,zB,zC]
  refine Disk.zt 9 46 (v:=.agg #[.slice pr g.roots.length er,.slice pn g.nodes.length en,.int .i64 g.hash]) rfl rfl hs1 (fun W' hSw=>(by
   obtain ⟨s0,s1,s2⟩:=CG _ hSw
   go_simp;first|done|with_reducible rfl|with_reducible rfl)) ?_
  simp only [zA,zB,zC]
  refine Disk.z_call 8 45 rfl rfl (by kernel_rfl) (by rfl) (f:=11) (args:=#[.agg #[.slice a1 b.words.length a4,.slice a2 b.roots.length a5,.int .i64 b.old,.int .i64 b.eden,.int .i64 b.surv,.bool b.flip,.int .i64 b.hash,.slice a3 b.kept.length a6]]) (w0:=wq1) (by go_simp;first|done|with_reducible rfl) ?_
  refine (SI _ wq1 (hv.later hs1)).mono ?_
  rintro e wq2 ⟨⟨y,rfl,gn⟩,hbq⟩
  have hs2:=C3 hs1 hbq
  rw [SHg rfl] at gn
  have gy:=gn.grn.gr
  obtain ⟨yr,yf,yn,ym,rfl,-,-⟩:=id gy.out
  clear gn
  clear hbq
  refine ⟨_,rfl,.inr hs2,?_⟩
  simp only [zA,zB,zC]
  refine Disk.z_call 10 47 rfl rfl (by kernel_rfl) (by rfl) (f:=10) (args:=#[.agg #[.slice yr g.roots.length yf,.slice yn g.nodes.length ym,.int .i64 g.hash],.agg #[.slice pr g.roots.length er,.slice pn g.nodes.length en,.int .i64 g.hash]]) (w0:=wq2) (by go_simp;first|done|with_reducible rfl) ?_
  refine (LG _ wq2 gy (gv.later hs2)).mono ?_
  rintro e wq3 ⟨rfl,hbq⟩
  have hs3:=C3 hs2 hbq
  clear hbq
  refine ⟨_,rfl,.inr hs3,?_⟩
  simp only [zA,zB,zC]
  refine Disk.zt 11 48 (v:=.bool false) rfl rfl hs3 (fun W' _=>(by
   go_simp;first|done|with_reducible rfl|with_reducible rfl)) ?_
  simp only [zA,zB,zC]
  refine Disk.zt 12 49 (v:=.bool false) rfl rfl hs3 (fun W' _=>(by
   go_simp;first|done|with_reducible rfl|with_reducible rfl)) ?_
  simp only [zA,zB,zC]
  refine Disk.zt 13 50 (v:=.bool false) rfl rfl hs3 (fun W' _=>(by
   go_simp;first|done|with_reducible rfl|with_reducible rfl)) ?_
  simp only [zA,zB,zC]
  refine Disk.z_done (by kernel_rfl) ?_ _
  exact hQ _ _ _ _ _ _ _ _ _ _ _ _ _ _ hs3
set_option maxRecDepth 1000000 in
set_option maxHeartbeats 12800000 in
theorem Y5 (cv:Value) (cs:List UInt8) (w:World) (hc:BR w cv cs) (ht:GTb w) :
  Calls Tryz.prog 3 #[cv] w fun x w'=>x=.returned (.bool true)/\Below w.heap.size w w':=by
 have HT:Hid (GTb w):=ht
 have hmx:Tryz.prog.follows .mixedOrders=true:=by kernel_rfl
 clear ht
 have BG:=Jjy cv cs w hc
 by_cases hbig:4096<cs.length
 ·rw [decide_eq_true hbig] at BG
  go_enter Tryz.func3,Tryz.ntmps3
  go_wp2_with fail
  refine BG.mono ?_
  rintro x w0 ⟨rfl,rfl⟩
  go_wp2
  go_ret
  exact ⟨rfl,Below.refl _ _⟩
 rw [decide_eq_false hbig] at BG
 have hn4:cs.length<=4096:=by omega
 go_enter Tryz.func3,Tryz.ntmps3
 go_wp2_with fail
 refine BG.mono ?_
 rintro x w0 ⟨rfl,rfl⟩
 clear BG hbig
 have DB:=Zb cv cs w0 hc hn4
 go_wp2_with fail
 refine DB.mono ?_
 rintro x w1 ⟨⟨v,g,rfl,ga,sm,r6⟩,B1⟩
 clear DB
 have gv:=ga.gr
 obtain ⟨pr,er,pn,en,rfl,-,-⟩:=id gv.out
 obtain ⟨bs1,bs2,bs3⟩:=Jfr sm
 have SHg:Hid (Ob g=true->shC (Rs g)=g):=fun k=>by rw [Um k];exact Jbk (Rk k)
 obtain ⟨l3,l1,s64⟩:=sm
 have fl:∀ n,n ∈ g.nodes->n.fl.length<=1000000000000:=fun n hn=>by have:=(s64 n hn).2;omega
 have IB:=fun W hv hT=>Ta (.agg #[.slice pr g.roots.length er,.slice pn g.nodes.length en,.int .i64 g.hash]) g W hv (by omega) (by omega) s64 hT
 have SB:=fun W hv=>Jbh (.agg #[.slice pr g.roots.length er,.slice pn g.nodes.length en,.int .i64 g.hash]) g W hv (by omega) (by omega) s64 r6
 have GO:=fun W hv hT=>Za (.agg #[.slice pr g.roots.length er,.slice pn g.nodes.length en,.int .i64 g.hash]) g W hv (by omega) (by omega) s64 hT
 have LG:=fun v W hv hu=>Ty v (.agg #[.slice pr g.roots.length er,.slice pn g.nodes.length en,.int .i64 g.hash]) g W hv hu (by omega) (by omega) fl
 clear ga s64 r6 fl
 generalize Rs g=b at *
 generalize Ob g=gk at *
 have LH:=fun v u W hv hu=>Zy v u b W hv hu (by omega) (by omega) (by omega)
 have SI:=fun v W hv=>Re v b W hv (by omega) (by omega)
 have al:=C5 w1 (.cells #[.slice pr g.roots.length er,.slice pn g.nodes.length en,.int .i64 g.hash] 27)
 have RG:=Qw w1 (.slice pr g.roots.length er) (.slice pn g.nodes.length en) g.hash 27
 replace gv:=gv.later al
 have B2:=C3 B1 al
 clear al B1
 obtain ⟨q0,q1,q2⟩:=E4 RG
 go_wp2_with fail
 refine (IB _ gv (HT.out.later B2)).mono ?_
 rintro x w2 ⟨⟨u,rfl,hn⟩,hb2⟩
 obtain ⟨a1,a4,a2,a5,a3,a6,rfl,-,-,-⟩:=id hn.sh
 have hv:=hn.hr
 have al:=C5 w2 (.cells #[.slice a1 b.words.length a4,.slice a2 b.roots.length a5,.int .i64 b.old,.int .i64 b.eden,.int .i64 b.surv,.bool b.flip,.int .i64 b.hash,.slice a3 b.kept.length a6] 30)
 have hb:=C3 hb2 al
 have XB:=Bx.new w2 (.slice a1 b.words.length a4) (.slice a2 b.roots.length a5) (.slice a3 b.kept.length a6) b 30
 replace hv:=hv.later al
 replace gv:=gv.later hb
 replace RG:=RG.of_block (hb.block _ RG.lt)
 have B3:=C3 B2 hb
 clear hn hb2 al hb q0 q1 q2 IB B2
 obtain ⟨q0,q1,q2⟩:=E4 RG
 go_wp2_with fail
 refine (SB _ gv).mono ?_
 rintro x w3 ⟨⟨u,rfl,hn⟩,hb3⟩
 obtain ⟨k1,k4,k2,k5,k3,k6,rfl,-,-,-⟩:=id hn.sh
 have hu:=hn.hr
 have al:=C5 w3 (.cells #[.slice k1 b.words.length k4,.slice k2 b.roots.length k5,.int .i64 b.old,.int .i64 b.eden,.int .i64 b.surv,.bool b.flip,.int .i64 b.hash,.slice k3 b.kept.length k6] 30)
 have hb:=C3 hb3 al
 have XC:=Bx.new w3 (.slice k1 b.words.length k4) (.slice k2 b.roots.length k5) (.slice k3 b.kept.length k6) b 30
 replace hu:=hu.later al
 replace hv:=hv.later hb
 replace gv:=gv.later hb
 replace RG:=RG.of_block (hb.block _ RG.lt)
 replace XB:=XB.later hb
 have B4:=C3 B3 hb
 clear hn hb3 al hb q0 q1 q2 SB B3
 obtain ⟨q0,q1,q2⟩:=E4 RG
 obtain ⟨c0,c1,c2,c3,c4,c5,c6,c7⟩:=id XB
 obtain ⟨d0,d1,d2,d3,d4,d5,d6,d7⟩:=XC
 have gkb:(gk == gk)=true:=by simp
 go_wp2_with fail
 refine (LH _ _ _ hv hu).mono ?_
 rintro x w4 ⟨rfl,hb4⟩
 replace hv:=hv.later hb4
 replace gv:=gv.later hb4
 replace RG:=RG.of_block (hb4.block _ RG.lt)
 replace XB:=XB.later hb4
 replace B4:=C3 B4 hb4
 clear hb4 hu LH q0 q1 q2 c0 c1 c2 c3 c4 c5 c6 c7 d0 d1 d2 d3 d4 d5 d6 d7 gkb
 generalize w1.heap.size=G1 at *
 generalize w2.heap.size=H2 at *
 generalize w3.heap.size=H3 at *
 have CG:∀ W,Below w4.heap.size w4 W->W.cell? ⟨G1,0,none⟩=some (.slice pr g.roots.length er)/\W.cell? ⟨G1,1,none⟩=some (.slice pn g.nodes.length en)/\W.cell? ⟨G1,2,none⟩=some (.int .i64 g.hash):=fun W hb=>E4 (RG.of_block (hb.block _ RG.lt))
 have CB:∀ W,Below w4.heap.size w4 W->W.cell? ⟨H2,0,none⟩=some (.slice a1 b.words.length a4)/\W.cell? ⟨H2,1,none⟩=some (.slice a2 b.roots.length a5)/\W.cell? ⟨H2,2,none⟩=some (.int .i64 b.old)/\W.cell? ⟨H2,3,none⟩=some (.int .i64 b.eden)/\W.cell? ⟨H2,4,none⟩=some (.int .i64 b.surv)/\W.cell? ⟨H2,5,none⟩=some (.bool b.flip)/\W.cell? ⟨H2,6,none⟩=some (.int .i64 b.hash)/\W.cell? ⟨H2,7,none⟩=some (.slice a3 b.kept.length a6):=fun W hb=>by
  obtain ⟨c0,c1,c2,c3,c4,c5,c6,c7⟩:=XB.later hb
  exact ⟨c0,c1,c2,c3,c4,c5,c6,c7⟩
 clear RG XB bs1 bs2 bs3
 go_wp2_with fail
 refine Jnl CG CB gv hv (HT.out.later B4) GO SI LG SHg.out _ _ _ _ _ _ _ _ _ _ _ _ _ _ _ _ _ _ _ _ _ _ _ _ _ _ _ _ _ _ _ _ _ _ _ _ _ _ _ _ _ _ _ _ _ _ _ _ _ _ _ _ _ _ _ _ _ _ _ _ _ _ _ _ _ _ _ _ _ _ _ _ _ _ _ _ _ _ _ _ _ _ _ _ _ _ _ _ _ _ _ _ _ _ _ _ _ _ _ _ _ _ _ _ _ _ _ _ _ _ _ _ _ _ _ _ _ _ _ _ _ ?_
 intro w5 a37 a38 a39 a40 a41 a42 a43 a44 a45 a46 a47 a48 a49 hb5
 have B5:=C3 B4 hb5
 clear hb5 B4 gv hv CG CB GO SI LG SHg
 have DS:=Yv cv cs w5 (hc.later B5) hn4
 go_wp2_with fail
 refine DS.mono ?_
 rintro x w6 ⟨⟨t,v1,v2,v3,rfl,ha,sz1,sz2,sz3⟩,hb6⟩
 clear DS
 obtain ⟨p1,e1,rfl,-⟩:=IRs ha.w1
 obtain ⟨p2,e2,rfl,-⟩:=IRs (E9 ha.o2)
 obtain ⟨p3,e3,rfl,-⟩:=IRs (E9 ha.o3)
 have hv:=ha.hr
 have B6:=C3 B5 hb6
 have al:=C5 w6 (.cells #[.slice p1 t.words.length e1,.slice p2 t.roots.length e2,.int .i64 t.old,.int .i64 t.eden,.int .i64 t.surv,.bool t.flip,.int .i64 t.hash,.slice p3 t.kept.length e3] 30)
 have XO:=Bx.new w6 (.slice p1 t.words.length e1) (.slice p2 t.roots.length e2) (.slice p3 t.kept.length e3) t 30
 replace hv:=hv.later al
 replace B6:=C3 B6 al
 clear ha hb6 al B5
 have SI2:=fun W hv=>Re (.agg #[.slice p1 t.words.length e1,.slice p2 t.roots.length e2,.int .i64 t.old,.int .i64 t.eden,.int .i64 t.surv,.bool t.flip,.int .i64 t.hash,.slice p3 t.kept.length e3]) t W hv (by omega) (by omega)
 have SS2:=fun W hv=>V4 (.agg #[.slice p1 t.words.length e1,.slice p2 t.roots.length e2,.int .i64 t.old,.int .i64 t.eden,.int .i64 t.surv,.bool t.flip,.int .i64 t.hash,.slice p3 t.kept.length e3]) t W hv (by omega) (by omega)
 have RI2:=fun W hv=>Tz (.agg #[.slice p1 t.words.length e1,.slice p2 t.roots.length e2,.int .i64 t.old,.int .i64 t.eden,.int .i64 t.surv,.bool t.flip,.int .i64 t.hash,.slice p3 t.kept.length e3]) t W hv (by omega) (by omega)
 have RS2:=fun W hv=>Y9 (.agg #[.slice p1 t.words.length e1,.slice p2 t.roots.length e2,.int .i64 t.old,.int .i64 t.eden,.int .i64 t.surv,.bool t.flip,.int .i64 t.hash,.slice p3 t.kept.length e3]) t W hv (by omega) (by omega)
 have HK2:=fun W hv=>N4 (.agg #[.slice p1 t.words.length e1,.slice p2 t.roots.length e2,.int .i64 t.old,.int .i64 t.eden,.int .i64 t.surv,.bool t.flip,.int .i64 t.hash,.slice p3 t.kept.length e3]) t W hv (by omega) (by omega)
 have SM:Hid _:=Jle t
 have SF:Hid (okC t=false->shC t=gr0/\reC t = -1):=fun k=>⟨by unfold shC;rw [k];rfl,by unfold reC;rw [k];rfl⟩
 have ST:Hid (okC t=true->reC t=((plc (shC t).nodes (shC t).nodes.length:Nat):Int)/\Ob (shC t)=decide (plc (shC t).nodes (shC t).nodes.length<=2000)):=fun k=>by
  have e:shC t=shP t:=by unfold shC;rw [if_pos k]
  rw [e]
  exact ⟨by unfold reC;rw [if_pos k,Jaw],Jda k⟩
 obtain ⟨c0,c1,c2,c3,c4,c5,c6,c7⟩:=id XO
 go_wp2_with fail
 refine (SI2 _ hv).mono ?_
 rintro x w7 ⟨⟨sv,rfl,gn⟩,hb7⟩
 have gs:=gn.grn.gr
 clear gn SI2 c0 c1 c2 c3 c4 c5 c6 c7
 generalize shC t=s at *
 obtain ⟨sr,fr,sn,fn,rfl,-,-⟩:=id gs.out
 have al:=C5 w7 (.cells #[.slice sr s.roots.length fr,.slice sn s.nodes.length fn,.int .i64 s.hash] 27)
 have hb:=C3 hb7 al
 have RS:=Qw w7 (.slice sr s.roots.length fr) (.slice sn s.nodes.length fn) s.hash 27
 replace gs:=gs.later al
 replace hv:=hv.later hb
 replace XO:=XO.later hb
 have B8:=C3 B6 hb
 clear hb7 al hb B6
 obtain ⟨sm1,sm2,sm3,sm4⟩:=SM.out
 have LG2:=fun v u W hv hu=>Ty v u s W hv hu (by omega) (by omega) (fun n hn=>by have:=sm4 n hn;omega)
 have CO:∀ W,Below (w7.alloc (.cells #[.slice sr s.roots.length fr,.slice sn s.nodes.length fn,.int .i64 s.hash] 27)).heap.size (w7.alloc (.cells #[.slice sr s.roots.length fr,.slice sn s.nodes.length fn,.int .i64 s.hash] 27)) W->W.cell? ⟨w6.heap.size,0,none⟩=some (.slice p1 t.words.length e1)/\W.cell? ⟨w6.heap.size,1,none⟩=some (.slice p2 t.roots.length e2)/\W.cell? ⟨w6.heap.size,2,none⟩=some (.int .i64 t.old)/\W.cell? ⟨w6.heap.size,3,none⟩=some (.int .i64 t.eden)/\W.cell? ⟨w6.heap.size,4,none⟩=some (.int .i64 t.surv)/\W.cell? ⟨w6.heap.size,5,none⟩=some (.bool t.flip)/\W.cell? ⟨w6.heap.size,6,none⟩=some (.int .i64 t.hash)/\W.cell? ⟨w6.heap.size,7,none⟩=some (.slice p3 t.kept.length e3):=fun W hb=>by
  obtain ⟨c0,c1,c2,c3,c4,c5,c6,c7⟩:=XO.later hb
  exact ⟨c0,c1,c2,c3,c4,c5,c6,c7⟩
 have CS:∀ W,Below (w7.alloc (.cells #[.slice sr s.roots.length fr,.slice sn s.nodes.length fn,.int .i64 s.hash] 27)).heap.size (w7.alloc (.cells #[.slice sr s.roots.length fr,.slice sn s.nodes.length fn,.int .i64 s.hash] 27)) W->W.cell? ⟨w7.heap.size,0,none⟩=some (.slice sr s.roots.length fr)/\W.cell? ⟨w7.heap.size,1,none⟩=some (.slice sn s.nodes.length fn)/\W.cell? ⟨w7.heap.size,2,none⟩=some (.int .i64 s.hash):=fun W hb=>E4 (RS.of_block (hb.block _ RS.lt))
 clear XO RS
 go_wp2_with fail
 generalize w7.alloc (.cells #[.slice sr s.roots.length fr,.slice sn s.nodes.length fn,.int .i64 s.hash] 27)=w8 at *
 generalize w6.heap.size=O6 at *
 generalize w7.heap.size=S7 at *
 have hs0:Below w8.heap.size w8 w8.drew:=(Below.refl _ _).drew
 refine Disk.z_plain 99 (fun W'=>Below w8.heap.size w8 W') hmx hs0 (fun hs=>?_)
 clear hs0
 generalize w8.drew=wd at hs ⊢
 refine Disk.zt 0 55 (v:=.agg #[.slice sr s.roots.length fr,.slice sn s.nodes.length fn,.int .i64 s.hash]) rfl rfl hs (fun W' hSw=>(by
  obtain ⟨s0,s1,s2⟩:=CS _ hSw
  go_simp;first|done|with_reducible rfl|with_reducible rfl)) ?_
 simp only [zA,zB,zC]
 refine Disk.zt 1 56 (v:=.agg #[.slice p1 t.words.length e1,.slice p2 t.roots.length e2,.int .i64 t.old,.int .i64 t.eden,.int .i64 t.surv,.bool t.flip,.int .i64 t.hash,.slice p3 t.kept.length e3]) rfl rfl hs (fun W' hSw=>(by
  obtain ⟨s0,s1,s2,s3,s4,s5,s6,s7⟩:=CO _ hSw
  go_simp;first|done|with_reducible rfl|with_reducible rfl)) ?_
 simp only [zA,zB,zC]
 refine Disk.z_call 2 57 rfl rfl (by kernel_rfl) (by rfl) (f:=13) (args:=#[.agg #[.slice p1 t.words.length e1,.slice p2 t.roots.length e2,.int .i64 t.old,.int .i64 t.eden,.int .i64 t.surv,.bool t.flip,.int .i64 t.hash,.slice p3 t.kept.length e3]]) (w0:=wd) (by go_simp;first|done|with_reducible rfl) ?_
 refine (SS2 wd (hv.later hs)).mono ?_
 rintro e wq1 ⟨⟨y,rfl,gn⟩,hbq⟩
 have hs1:=C3 hs hbq
 have gy:=gn.grn.gr
 obtain ⟨yr,yf,yn,ym,rfl,-,-⟩:=id gy.out
 clear gn
 clear hbq
 refine ⟨_,rfl,.inr hs1,?_⟩
 simp only [zA,zB,zC]
 refine Disk.z_call 3 58 rfl rfl (by kernel_rfl) (by rfl) (f:=10) (args:=#[.agg #[.slice sr s.roots.length fr,.slice sn s.nodes.length fn,.int .i64 s.hash],.agg #[.slice yr s.roots.length yf,.slice yn s.nodes.length ym,.int .i64 s.hash]]) (w0:=wq1) (by go_simp;first|done|with_reducible rfl) ?_
 refine (LG2 _ _ wq1 (gs.later hs1) gy).mono ?_
 rintro e wq2 ⟨rfl,hbq⟩
 have hs2:=C3 hs1 hbq
 clear gy
 clear hbq
 refine ⟨_,rfl,.inr hs2,?_⟩
 simp only [zA,zB,zC]
 refine Disk.zt 4 59 (v:=.bool false) rfl rfl hs2 (fun W' _=>(by
  go_simp;first|done|with_reducible rfl|with_reducible rfl)) ?_
 simp only [zA,zB,zC]
 refine Disk.zt 5 60 (v:=.bool false) rfl rfl hs2 (fun W' _=>(by
  go_simp;first|done|with_reducible rfl|with_reducible rfl)) ?_
 simp only [zA,zB,zC]
 refine Disk.zt 6 61 (v:=.agg #[.slice p1 t.words.length e1,.slice p2 t.roots.length e2,.int .i64 t.old,.int .i64 t.eden,.int .i64 t.surv,.bool t.flip,.int .i64 t.hash,.slice p3 t.kept.length e3]) rfl rfl hs2 (fun W' hSw=>(by
  obtain ⟨s0,s1,s2,s3,s4,s5,s6,s7⟩:=CO _ hSw
  go_simp;first|done|with_reducible rfl|with_reducible rfl)) ?_
 simp only [zA,zB,zC]
 refine Disk.zt 8 63 (v:=.agg #[.slice p1 t.words.length e1,.slice p2 t.roots.length e2,.int .i64 t.old,.int .i64 t.eden,.int .i64 t.surv,.bool t.flip,.int .i64 t.hash,.slice p3 t.kept.length e3]) rfl rfl hs2 (fun W' hSw=>(by
  obtain ⟨s0,s1,s2,s3,s4,s5,s6,s7⟩:=CO _ hSw
  go_simp;first|done|with_reducible rfl|with_reducible rfl)) ?_
 simp only [zA,zB,zC]
 refine Disk.z_call 7 62 rfl rfl (by kernel_rfl) (by rfl) (f:=14) (args:=#[.agg #[.slice p1 t.words.length e1,.slice p2 t.roots.length e2,.int .i64 t.old,.int .i64 t.eden,.int .i64 t.surv,.bool t.flip,.int .i64 t.hash,.slice p3 t.kept.length e3]]) (w0:=wq2) (by go_simp;first|done|with_reducible rfl) ?_
 refine (RI2 wq2 (hv.later hs2)).mono ?_
 rintro e wq3 ⟨rfl,hbq⟩
 have hs3:=C3 hs2 hbq
 clear hbq
 refine ⟨_,rfl,.inr hs3,?_⟩
 simp only [zA,zB,zC]
 refine Disk.z_call 9 64 rfl rfl (by kernel_rfl) (by rfl) (f:=15) (args:=#[.agg #[.slice p1 t.words.length e1,.slice p2 t.roots.length e2,.int .i64 t.old,.int .i64 t.eden,.int .i64 t.surv,.bool t.flip,.int .i64 t.hash,.slice p3 t.kept.length e3]]) (w0:=wq3) (by go_simp;first|done|with_reducible rfl) ?_
 refine (RS2 wq3 (hv.later hs3)).mono ?_
 rintro e wq4 ⟨rfl,hbq⟩
 have hs4:=C3 hs3 hbq
 clear hbq
 refine ⟨_,rfl,.inr hs4,?_⟩
 simp only [zA,zB,zC]
 refine Disk.zt 10 65 (v:=.bool false) rfl rfl hs4 (fun W' _=>(by
  go_simp;first|done|with_reducible rfl|with_reducible rfl)) ?_
 simp only [zA,zB,zC]
 refine Disk.zt 11 66 (v:=.bool false) rfl rfl hs4 (fun W' _=>(by
  go_simp;first|done|with_reducible rfl|with_reducible rfl)) ?_
 simp only [zA,zB,zC]
 refine Disk.z_done (by kernel_rfl) ?_ _
 clear hs hs1 hs2 hs3 SS2 RS2
 have hv9:=hv.later hs4
 obtain ⟨c0,c1,c2,c3,c4,c5,c6,c7⟩:=CO _ hs4
 go_wp2_with fail
 refine (HK2 _ hv9).mono ?_
 rintro x w10 ⟨rfl,hb10⟩
 have hs5:=C3 hs4 hb10
 clear hs4 hb10 HK2 hv9 c0 c1 c2 c3 c4 c5 c6 c7
 have B10:=C3 B8 hs5
 replace gs:=gs.later hs5
 replace hv:=hv.later hs5
 obtain ⟨c0,c1,c2,c3,c4,c5,c6,c7⟩:=CO _ hs5
 obtain ⟨r0,r1,r2⟩:=CS _ hs5
 cases hk:okC t
 ·obtain ⟨rfl,hrc⟩:=SF.out hk
  rw [hrc] at RI2
  clear hk SF ST SM hrc
  have gz:=fun W=>Jke W
  go_wp2_with fail
  refine (LG2 _ _ _ gs (gz _)).mono ?_
  rintro x w11 ⟨rfl,hb11⟩
  have hs6:=C3 hs5 hb11
  have B11:=C3 B10 hb11
  replace hv:=hv.later hb11
  clear c0 c1 c2 c3 c4 c5 c6 c7 r0 r1 r2 hb11
  obtain ⟨c0,c1,c2,c3,c4,c5,c6,c7⟩:=CO _ hs6
  go_wp2_with fail
  refine (RI2 _ hv).mono ?_
  rintro x w12 ⟨rfl,hb12⟩
  have B12:=C3 B11 hb12
  clear hb12 c0 c1 c2 c3 c4 c5 c6 c7
  go_wp2
  go_ret
  exact ⟨rfl,B12⟩
 ·obtain ⟨hrc,hgk⟩:=ST.out hk
  rw [hrc] at RI2
  have IB2:=fun W hv hT=>Ta (.agg #[.slice sr s.roots.length fr,.slice sn s.nodes.length fn,.int .i64 s.hash]) s W hv (by omega) (by omega) sm3 hT
  rw [hgk] at IB2
  have SHs:Hid (plc s.nodes s.nodes.length<=2000->shC (Rs s)=s/\reC (Rs s)=((plc s.nodes s.nodes.length:Nat):Int)/\(Rs s).roots.length<=1000/\(Rs s).kept.length<=1000):=fun hp=>by
   have k:Ob s=true:=by rw [hgk];exact decide_eq_true hp
   rw [Um k]
   refine ⟨Jbk (Rk k),Jiv (Rk k),?_,Nat.zero_le _⟩
   show (s.roots.map (rnI s.nodes)).length<=1000
   rw [List.length_map]
   omega
  have PB:Hid (∀ k,k<s.nodes.length->plc s.nodes (k+1)=plc s.nodes k+(4+(s.nodes.getD k nd0).fl.length)/\(s.nodes.getD k nd0).fl.length<=1000):=fun k h=>⟨Ox _ _ h,sm4 _ (by simp [h])⟩
  have PK:Hid (∀ k,k<=s.nodes.length->plc s.nodes k<=1004 * k):=fun k h=>Jci sm4 k h
  have P0:Hid (plc s.nodes 0=0):=(rfl:plc s.nodes 0=0)
  obtain ⟨_,_,e9,_,nr⟩:=id gs
  simp only [Value.agg.injEq,Array.mk.injEq,List.cons.injEq,and_true] at e9
  obtain ⟨rfl,rfl⟩:=e9
  clear hk SF ST SM hrc hgk sm3 sm4
  generalize hpl:plc s.nodes=pl at *
  generalize Rs s=y at *
  go_wp2
  go_loopw [10,11] (fun nv iv wr=>∃ k:Nat,k<=s.nodes.length/\iv=.int .i64 k/\nv=.int .i64 (pl k:Nat)/\wr=w10) (fun _ iv _=>s.nodes.length - (intOf iv).toNat)
  case atStart=>exact ⟨0,Nat.zero_le _,rfl,by rw [P0.out];rfl,rfl⟩
  case round =>
   obtain ⟨k,hk,rfl,rfl,rfl⟩:=hrel
   by_cases hlt:k<s.nodes.length
   ·obtain ⟨pb1,pb2⟩:=PB.out k hlt
    have pk:=PK.out k hk
    replace pb1:Hid _:=pb1
    obtain ⟨nb,no,ff,ffn,ffc,rfl,n0,n1,n2,nir⟩:=nr.at hlt
    obtain rfl:ffn=(s.nodes.getD k nd0).fl.length:=nir.len
    have hki:(k:Int)<(s.nodes.length:Int):=by omega
    generalize hfm:(s.nodes.getD k nd0).fl.length=fm at *
    clear nr PB PK P0 n0 n1 nir c0 c1 c2 c3 c4 c5 c6 c7 hfm
    go_wp2
    exact ⟨⟨k+1,by omega,by go_num,by rw [pb1.out];go_num,by first|trivial|rfl⟩,by simp [intOf];omega⟩
   ·obtain rfl:k=s.nodes.length:=by omega
    have pk:=PK.out s.nodes.length (Nat.le_refl _)
    generalize hpn:pl s.nodes.length=P at *
    clear PB PK P0 nr
    go_wp2_with fail
    refine (RI2 _ hv).mono ?_
    rintro x w11 ⟨rfl,hb11⟩
    have hs6:=C3 hs5 hb11
    have B11:=C3 B10 hb11
    replace gs:=gs.later hb11
    clear c0 c1 c2 c3 c4 c5 c6 c7 r0 r1 r2 hb11 hv
    obtain ⟨r0,r1,r2⟩:=CS _ hs6
    go_wp2_with fail
    refine (IB2 _ gs (HT.out.later B11)).mono ?_
    rintro x w12 ⟨⟨u,rfl,hn⟩,hb12⟩
    obtain ⟨m1,m4,m2,m5,m3,m6,rfl,-,-,-⟩:=id hn.sh
    have hu:=hn.hr
    have al:=C5 w12 (.cells #[.slice m1 y.words.length m4,.slice m2 y.roots.length m5,.int .i64 y.old,.int .i64 y.eden,.int .i64 y.surv,.bool y.flip,.int .i64 y.hash,.slice m3 y.kept.length m6] 30)
    have hb:=C3 hb12 al
    have XU:=Bx.new w12 (.slice m1 y.words.length m4) (.slice m2 y.roots.length m5) (.slice m3 y.kept.length m6) y 30
    replace hu:=hu.later al
    have hs7:=C3 hs6 hb
    have B13:=C3 B11 hb
    replace gs:=gs.later hb
    clear hn hb12 al hb r0 r1 r2 IB2 B10 B11 hs5 hs6
    have CU:∀ W,Below (w12.alloc (.cells #[.slice m1 y.words.length m4,.slice m2 y.roots.length m5,.int .i64 y.old,.int .i64 y.eden,.int .i64 y.surv,.bool y.flip,.int .i64 y.hash,.slice m3 y.kept.length m6] 30)).heap.size (w12.alloc (.cells #[.slice m1 y.words.length m4,.slice m2 y.roots.length m5,.int .i64 y.old,.int .i64 y.eden,.int .i64 y.surv,.bool y.flip,.int .i64 y.hash,.slice m3 y.kept.length m6] 30)) W->W.cell? ⟨w12.heap.size,0,none⟩=some (.slice m1 y.words.length m4)/\W.cell? ⟨w12.heap.size,1,none⟩=some (.slice m2 y.roots.length m5)/\W.cell? ⟨w12.heap.size,2,none⟩=some (.int .i64 y.old)/\W.cell? ⟨w12.heap.size,3,none⟩=some (.int .i64 y.eden)/\W.cell? ⟨w12.heap.size,4,none⟩=some (.int .i64 y.surv)/\W.cell? ⟨w12.heap.size,5,none⟩=some (.bool y.flip)/\W.cell? ⟨w12.heap.size,6,none⟩=some (.int .i64 y.hash)/\W.cell? ⟨w12.heap.size,7,none⟩=some (.slice m3 y.kept.length m6):=fun W hb=>by
     obtain ⟨c0,c1,c2,c3,c4,c5,c6,c7⟩:=XU.later hb
     exact ⟨c0,c1,c2,c3,c4,c5,c6,c7⟩
    have CT:∀ W,Below (w12.alloc (.cells #[.slice m1 y.words.length m4,.slice m2 y.roots.length m5,.int .i64 y.old,.int .i64 y.eden,.int .i64 y.surv,.bool y.flip,.int .i64 y.hash,.slice m3 y.kept.length m6] 30)).heap.size (w12.alloc (.cells #[.slice m1 y.words.length m4,.slice m2 y.roots.length m5,.int .i64 y.old,.int .i64 y.eden,.int .i64 y.surv,.bool y.flip,.int .i64 y.hash,.slice m3 y.kept.length m6] 30)) W->W.cell? ⟨S7,0,none⟩=some (.slice sr s.roots.length fr)/\W.cell? ⟨S7,1,none⟩=some (.slice sn s.nodes.length fn)/\W.cell? ⟨S7,2,none⟩=some (.int .i64 s.hash):=fun W hb=>CS W (C3 hs7 hb)
    clear XU
    by_cases hp:P<=2000
    ·obtain ⟨sh1,sh2,sh3,sh4⟩:=SHs.out hp
     replace sh1:Hid _:=sh1
     replace sh2:Hid _:=sh2
     have hpd:decide (P<=2000)=true:=decide_eq_true hp
     have hpi:decide ((P:Int)<=2000)=true:=decide_eq_true (by omega)
     rw [hpd]
     have SU:=fun W hv=>Re (.agg #[.slice m1 y.words.length m4,.slice m2 y.roots.length m5,.int .i64 y.old,.int .i64 y.eden,.int .i64 y.surv,.bool y.flip,.int .i64 y.hash,.slice m3 y.kept.length m6]) y W hv (by omega) (by omega)
     have RU:=fun W hv=>Tz (.agg #[.slice m1 y.words.length m4,.slice m2 y.roots.length m5,.int .i64 y.old,.int .i64 y.eden,.int .i64 y.surv,.bool y.flip,.int .i64 y.hash,.slice m3 y.kept.length m6]) y W hv (by omega) (by omega)
     clear SHs hpd
     go_wp2_with fail
     generalize w12.alloc (.cells #[.slice m1 y.words.length m4,.slice m2 y.roots.length m5,.int .i64 y.old,.int .i64 y.eden,.int .i64 y.surv,.bool y.flip,.int .i64 y.hash,.slice m3 y.kept.length m6] 30)=w13 at *
     generalize w12.heap.size=U12 at *
     have hs0:Below w13.heap.size w13 w13.drew:=(Below.refl _ _).drew
     refine Disk.z_plain 99 (fun W'=>Below w13.heap.size w13 W') hmx hs0 (fun hs=>?_)
     clear hs0
     generalize w13.drew=wd at hs ⊢
     refine Disk.zt 0 104 (v:=.bool true) rfl rfl hs (fun W' _=>(by
      go_simp;first|done|with_reducible rfl|with_reducible rfl)) ?_
     simp only [zA,zB,zC]
     refine Disk.zt 1 105 (v:=.int .i64 (P:Int)) rfl rfl hs (fun W' _=>(by
      go_simp;first|done|with_reducible rfl|with_reducible rfl)) ?_
     simp only [zA,zB,zC]
     refine Disk.zt 2 106 (v:=.bool true) rfl rfl hs (fun W' _=>(by
      go_simp;first|done|exact hpi|with_reducible rfl)) ?_
     simp only [zA,zB,zC]
     refine Disk.zt 3 107 (v:=.bool true) rfl rfl hs (fun W' _=>(by
      go_simp;first|done|with_reducible rfl|with_reducible rfl)) ?_
     simp only [zA,zB,zC]
     refine Disk.zt 4 108 (v:=.bool true) rfl rfl hs (fun W' _=>(by
      go_simp;first|done|with_reducible rfl|with_reducible rfl)) ?_
     simp only [zA,zB,zC]
     refine Disk.zt 5 109 (v:=.bool true) rfl rfl hs (fun W' _=>(by
      go_simp;first|done|with_reducible rfl|with_reducible rfl)) ?_
     simp only [zA,zB,zC]
     refine Disk.zt 6 110 (v:=.bool false) rfl rfl hs (fun W' _=>(by
      go_simp;first|done|with_reducible rfl|with_reducible rfl)) ?_
     simp only [zA,zB,zC]
     refine Disk.zt 7 111 (v:=.bool false) rfl rfl hs (fun W' _=>(by
      go_simp;first|done|with_reducible rfl|with_reducible rfl)) ?_
     simp only [zA,zB,zC]
     refine Disk.zt 8 112 (v:=.agg #[.slice m1 y.words.length m4,.slice m2 y.roots.length m5,.int .i64 y.old,.int .i64 y.eden,.int .i64 y.surv,.bool y.flip,.int .i64 y.hash,.slice m3 y.kept.length m6]) rfl rfl hs (fun W' hSw=>(by
      obtain ⟨s0,s1,s2,s3,s4,s5,s6,s7⟩:=CU _ hSw
      go_simp;first|done|with_reducible rfl|with_reducible rfl)) ?_
     simp only [zA,zB,zC]
     refine Disk.zt 10 114 (v:=.agg #[.slice sr s.roots.length fr,.slice sn s.nodes.length fn,.int .i64 s.hash]) rfl rfl hs (fun W' hSw=>(by
      obtain ⟨s0,s1,s2⟩:=CT _ hSw
      go_simp;first|done|with_reducible rfl|with_reducible rfl)) ?_
     simp only [zA,zB,zC]
     refine Disk.z_call 9 113 rfl rfl (by kernel_rfl) (by rfl) (f:=11) (args:=#[.agg #[.slice m1 y.words.length m4,.slice m2 y.roots.length m5,.int .i64 y.old,.int .i64 y.eden,.int .i64 y.surv,.bool y.flip,.int .i64 y.hash,.slice m3 y.kept.length m6]]) (w0:=wd) (by go_simp;first|done|with_reducible rfl) ?_
     refine (SU wd (hu.later hs)).mono ?_
     rintro e wq1 ⟨⟨z,rfl,gn⟩,hbq⟩
     have hs1:=C3 hs hbq
     rw [sh1.out] at gn
     have gz:=gn.grn.gr
     obtain ⟨yr,yf,yn,ym,rfl,-,-⟩:=id gz.out
     clear gn
     clear hbq
     refine ⟨_,rfl,.inr hs1,?_⟩
     simp only [zA,zB,zC]
     refine Disk.z_call 11 115 rfl rfl (by kernel_rfl) (by rfl) (f:=10) (args:=#[.agg #[.slice yr s.roots.length yf,.slice yn s.nodes.length ym,.int .i64 s.hash],.agg #[.slice sr s.roots.length fr,.slice sn s.nodes.length fn,.int .i64 s.hash]]) (w0:=wq1) (by go_simp;first|done|with_reducible rfl) ?_
     refine (LG2 _ _ wq1 gz (gs.later hs1)).mono ?_
     rintro e wq2 ⟨rfl,hbq⟩
     have hs2:=C3 hs1 hbq
     clear gz
     clear hbq
     refine ⟨_,rfl,.inr hs2,?_⟩
     simp only [zA,zB,zC]
     refine Disk.zt 12 116 (v:=.bool true) rfl rfl hs2 (fun W' _=>(by
      go_simp;first|done|with_reducible rfl|with_reducible rfl)) ?_
     simp only [zA,zB,zC]
     refine Disk.zt 13 117 (v:=.agg #[.slice m1 y.words.length m4,.slice m2 y.roots.length m5,.int .i64 y.old,.int .i64 y.eden,.int .i64 y.surv,.bool y.flip,.int .i64 y.hash,.slice m3 y.kept.length m6]) rfl rfl hs2 (fun W' hSw=>(by
      obtain ⟨s0,s1,s2,s3,s4,s5,s6,s7⟩:=CU _ hSw
      go_simp;first|done|with_reducible rfl|with_reducible rfl)) ?_
     simp only [zA,zB,zC]
     refine Disk.zt 15 119 (v:=.int .i64 (P:Int)) rfl rfl hs2 (fun W' _=>(by
      go_simp;first|done|with_reducible rfl|with_reducible rfl)) ?_
     simp only [zA,zB,zC]
     refine Disk.z_call 14 118 rfl rfl (by kernel_rfl) (by rfl) (f:=14) (args:=#[.agg #[.slice m1 y.words.length m4,.slice m2 y.roots.length m5,.int .i64 y.old,.int .i64 y.eden,.int .i64 y.surv,.bool y.flip,.int .i64 y.hash,.slice m3 y.kept.length m6]]) (w0:=wq2) (by go_simp;first|done|with_reducible rfl) ?_
     refine (RU wq2 (hu.later hs2)).mono ?_
     rintro e wq3 ⟨rfl,hbq⟩
     have hs3:=C3 hs2 hbq
     rw [sh2.out]
     clear hbq
     refine ⟨_,rfl,.inr hs3,?_⟩
     simp only [zA,zB,zC]
     refine Disk.zt 16 120 (v:=.bool true) rfl rfl hs3 (fun W' _=>(by
      go_simp;first|done|with_reducible rfl|with_reducible rfl)) ?_
     simp only [zA,zB,zC]
     refine Disk.zt 17 121 (v:=.bool true) rfl rfl hs3 (fun W' _=>(by
      go_simp;first|done|with_reducible rfl|with_reducible rfl)) ?_
     simp only [zA,zB,zC]
     refine Disk.zt 18 122 (v:=.bool true) rfl rfl hs3 (fun W' _=>(by
      go_simp;first|done|with_reducible rfl|with_reducible rfl)) ?_
     simp only [zA,zB,zC]
     refine Disk.zt 19 123 (v:=.bool true) rfl rfl hs3 (fun W' _=>(by
      go_simp;first|done|with_reducible rfl|with_reducible rfl)) ?_
     simp only [zA,zB,zC]
     refine Disk.zr 20 2 (v:=.bool true) rfl rfl (.inr hs3) ?_
     simp only [zA,zB,zC]
     refine Disk.z_done (by kernel_rfl) ?_ _
     have B14:=C3 B13 hs3
     clear hs hs1 hs2 hs3 hu gs CU CT SU RU sh1 sh2
     go_wp2
     go_ret
     exact ⟨rfl,B14⟩
    ·have hpd:decide (P<=2000)=false:=decide_eq_false hp
     have hpi:decide ((P:Int)<=2000)=false:=decide_eq_false (by omega)
     rw [hpd]
     clear SHs hpd
     go_wp2_with fail
     generalize w12.alloc (.cells #[.slice m1 y.words.length m4,.slice m2 y.roots.length m5,.int .i64 y.old,.int .i64 y.eden,.int .i64 y.surv,.bool y.flip,.int .i64 y.hash,.slice m3 y.kept.length m6] 30)=w13 at *
     generalize w12.heap.size=U12 at *
     have hs0:Below w13.heap.size w13 w13.drew:=(Below.refl _ _).drew
     refine Disk.z_plain 99 (fun W'=>Below w13.heap.size w13 W') hmx hs0 (fun hs=>?_)
     clear hs0
     generalize w13.drew=wd at hs ⊢
     refine Disk.zt 0 104 (v:=.bool false) rfl rfl hs (fun W' _=>(by
      go_simp;first|done|with_reducible rfl|with_reducible rfl)) ?_
     simp only [zA,zB,zC]
     refine Disk.zt 1 105 (v:=.int .i64 (P:Int)) rfl rfl hs (fun W' _=>(by
      go_simp;first|done|with_reducible rfl|with_reducible rfl)) ?_
     simp only [zA,zB,zC]
     refine Disk.zt 2 106 (v:=.bool false) rfl rfl hs (fun W' _=>(by
      go_simp;first|done|exact hpi|with_reducible rfl)) ?_
     simp only [zA,zB,zC]
     refine Disk.zt 3 107 (v:=.bool true) rfl rfl hs (fun W' _=>(by
      go_simp;first|done|with_reducible rfl|with_reducible rfl)) ?_
     simp only [zA,zB,zC]
     refine Disk.zt 4 108 (v:=.bool true) rfl rfl hs (fun W' _=>(by
      go_simp;first|done|with_reducible rfl|with_reducible rfl)) ?_
     simp only [zA,zB,zC]
     refine Disk.zt 5 109 (v:=.bool false) rfl rfl hs (fun W' _=>(by
      go_simp;first|done|with_reducible rfl|with_reducible rfl)) ?_
     simp only [zA,zB,zC]
     refine Disk.zt 6 110 (v:=.bool true) rfl rfl hs (fun W' _=>(by
      go_simp;first|done|with_reducible rfl|with_reducible rfl)) ?_
     simp only [zA,zB,zC]
     refine Disk.zt 7 111 (v:=.bool true) rfl rfl hs (fun W' _=>(by
      go_simp;first|done|with_reducible rfl|with_reducible rfl)) ?_
     simp only [zA,zB,zC]
     refine Disk.z_pass 8 112 rfl rfl (by kernel_rfl) (by kernel_rfl) (by kernel_rfl) (by kernel_rfl) (by rfl) hs ?_
     simp only [zA,zB,zC]
     refine Disk.z_pass 10 114 rfl rfl (by kernel_rfl) (by kernel_rfl) (by kernel_rfl) (by kernel_rfl) (by rfl) hs ?_
     simp only [zA,zB,zC]
     refine Disk.z_pass 9 113 rfl rfl (by kernel_rfl) (by kernel_rfl) (by kernel_rfl) (by kernel_rfl) (by rfl) hs ?_
     simp only [zA,zB,zC]
     refine Disk.z_pass 11 115 rfl rfl (by kernel_rfl) (by kernel_rfl) (by kernel_rfl) (by kernel_rfl) (by rfl) hs ?_
     simp only [zA,zB,zC]
     refine Disk.z_pass 12 116 rfl rfl (by kernel_rfl) (by kernel_rfl) (by kernel_rfl) (by kernel_rfl) (by rfl) hs ?_
     simp only [zA,zB,zC]
     refine Disk.z_pass 13 117 rfl rfl (by kernel_rfl) (by kernel_rfl) (by kernel_rfl) (by kernel_rfl) (by rfl) hs ?_
     simp only [zA,zB,zC]
     refine Disk.z_pass 15 119 rfl rfl (by kernel_rfl) (by kernel_rfl) (by kernel_rfl) (by kernel_rfl) (by rfl) hs ?_
     simp only [zA,zB,zC]
     refine Disk.z_pass 14 118 rfl rfl (by kernel_rfl) (by kernel_rfl) (by kernel_rfl) (by kernel_rfl) (by rfl) hs ?_
     simp only [zA,zB,zC]
     refine Disk.z_pass 16 120 rfl rfl (by kernel_rfl) (by kernel_rfl) (by kernel_rfl) (by kernel_rfl) (by rfl) hs ?_
     simp only [zA,zB,zC]
     refine Disk.z_pass 17 121 rfl rfl (by kernel_rfl) (by kernel_rfl) (by kernel_rfl) (by kernel_rfl) (by rfl) hs ?_
     simp only [zA,zB,zC]
     refine Disk.zt 18 122 (v:=.bool true) rfl rfl hs (fun W' _=>(by
      go_simp;first|done|with_reducible rfl|with_reducible rfl)) ?_
     simp only [zA,zB,zC]
     refine Disk.zt 19 123 (v:=.bool true) rfl rfl hs (fun W' _=>(by
      go_simp;first|done|with_reducible rfl|with_reducible rfl)) ?_
     simp only [zA,zB,zC]
     refine Disk.zr 20 2 (v:=.bool true) rfl rfl (.inr hs) ?_
     simp only [zA,zB,zC]
     refine Disk.z_done (by kernel_rfl) ?_ _
     have B14:=C3 B13 hs
     clear hs hu gs CU CT
     go_wp2
     go_ret
     exact ⟨rfl,B14⟩
end Go.Proofs.YtboiknllmnfipaaGreatDoor
/- A builder that keeps both what is listed of the variables and the world's shape; lists with one left out; four variables read. -/
namespace Go.Proofs.YtboiknllmnfipaaGreatDoor
open Go Go.RowKit Go.ChangeShapes
variable {H : Type} {enc : TypeId × Value -> H}
theorem Jbs {a:Assume} {C:Checked} {os:Os} {f:FuncId} {fn:Func} {s:ChangeSpec} {conds:List PathCond} {apart fresh handsOn again:Bool} {X:World->Array Value->Prop}
  (hX:∀ (w w' : World) (args:Array Value),w.heap=w'.heap->X w args->X w' args)
  (own:ownKnob C.prog.godebug=none) (started:os.Started) (noInit:C.prog.inits.idxOf? f=none) (hfn:C.prog.funcs[f]?=some fn)
  (witness:∃ (w:World) (tape:Tape) (i:Input),w.os=os/\(w.forCall tape i).Shaped C.prog/\i.vars=[]/\Input.okWide C.prog (w.forCall tape i) .any w.heap.size f i ∧
   ((s.pre enc C.prog fn conds apart (w.forCall tape i).memory i.args/\X (w.forCall tape i).memory i.args)/\sizedMet enc C.prog fn (OpenSpec.ofChange s) apart (w.forCall tape i).memory i.args)/\a.holds C.prog (lone (Frame.enter C.prog f i.args .normal) [] (w.forCall tape i)))
  (contract:∀ (W:World) (base:Nat) (args:Array Value) (ds gs:List (DataW H)) (before:List MemPlace),
   (∀ (j:Nat) t v,fn.params[j]?=some t->args[j]?=some v->Value.okWide C.prog W .any base t v) →
   DataW.Whole enc C.prog fn.params.toList s.vars apart W args.toList ds gs before →
   conds.all (PathCond.test C.prog ⟨fn.params.toList,ds,s.plain.varTypes C.prog,gs⟩)=true →
   (DataW.weightsEach C.prog (fn.params.toList ++ s.plain.varTypes C.prog) (ds ++ gs)).all (· <= reachBytes)=true->X W args->W.ShapedOpen C.prog →
   a.holds C.prog (lone (Frame.enter C.prog f args .normal) [] W) →
   Calls C.prog f args W fun e W'=>∃ v,e=.returned v/\s.post enc C.prog fn apart fresh handsOn again W args v W') :
  ReturnsInHanded a C os f .any (fun w args=>(s.pre enc C.prog fn conds apart w args/\X w args)/\sizedMet enc C.prog fn (OpenSpec.ofChange s) apart w args) (s.post enc C.prog fn apart fresh handsOn again):=by
 refine returnsInHanded_of_calls own started noInit witness ?_
 intro w tape i _ hsh _ hok hpre hholds
 obtain ⟨_,_,_,fn',hfn',_,_,_,_,hval⟩:=hok
 have e:fn' = fn:=Option.some.inj (hfn'.symm.trans hfn)
 subst e
 obtain ⟨⟨⟨ds,gs,before,hw,hc⟩,hx⟩,hz⟩:=hpre
 have hw':=DataW.Whole.of_heap (w':=w.forCall tape i) (by rfl) hw
 refine (contract (w.forCall tape i) w.heap.size i.args ds gs before hval hw' hc (hz.weights hw) (hX _ _ _ (by rfl) hx) hsh hholds).mono fun e W' ⟨v,he,hp⟩=>?_
 subst he
 exact ChangeSpec.post_blind hp
end Go.Proofs.YtboiknllmnfipaaGreatDoor
