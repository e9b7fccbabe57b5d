
import Derived.Test.YtboiknllmnfipaaGreatDoorZU9
import Derived.Test.YtboiknllmnfipaaGreatDoorZU20
import Derived.Test.YtboiknllmnfipaaGreatDoorZGLaid
import Derived.Test.YtboiknllmnfipaaGreatDoorZGShI
import Derived.Test.YtboiknllmnfipaaGreatDoorZU22
import Derived.Test.YtboiknllmnfipaaGreatDoorZU5
import Derived.Test.YtboiknllmnfipaaGreatDoorZU8
/- The walk of the law on NewHeap. -/
namespace Go.Proofs.YtboiknllmnfipaaGreatDoor
open Go.RowKit
theorem HN.out {B:Nat} {w:World} {v:Value} {h:Hp} (k:HN B w v h):∃ a1 c1 a2 c2 a3 c3,v=.agg #[.slice a1 h.words.length c1,.slice a2 h.roots.length c2,.int .i64 h.old,.int .i64 h.eden,.int .i64 h.surv,.bool h.flip,.int .i64 h.hash,.slice a3 h.kept.length c3] ∧
  (Disk.OS w 2 1 (.slice a1 h.words.length c1) h.words.length/\Disk.OS w 2 1 (.slice a2 h.roots.length c2) h.roots.length/\Disk.OS w 2 1 (.slice a3 h.kept.length c3) h.kept.length)/\(IR w (.slice a1 h.words.length c1) h.words/\IR w (.slice a2 h.roots.length c2) h.roots/\IR w (.slice a3 h.kept.length c3) h.kept) ∧
  ((∀ b,Disk.rowOf (.slice a1 h.words.length c1) h.words.length=some b->B<=b)/\(∀ b,Disk.rowOf (.slice a2 h.roots.length c2) h.roots.length=some b->B<=b)/\(∀ b,Disk.rowOf (.slice a3 h.kept.length c3) h.kept.length=some b->B<=b)) ∧
  (∀ b,Disk.rowOf (.slice a1 h.words.length c1) h.words.length=some b->Disk.rowOf (.slice a2 h.roots.length c2) h.roots.length ≠ some b)/\(∀ b,Disk.rowOf (.slice a1 h.words.length c1) h.words.length=some b->Disk.rowOf (.slice a3 h.kept.length c3) h.kept.length ≠ some b)/\(∀ b,Disk.rowOf (.slice a2 h.roots.length c2) h.roots.length=some b->Disk.rowOf (.slice a3 h.kept.length c3) h.kept.length ≠ some b):=by
 obtain ⟨v1,v2,v3,e,os,ir,rest⟩:=k.ex
 obtain ⟨a1,c1,rfl,_⟩:=IRs ir.1
 obtain ⟨a2,c2,rfl,_⟩:=IRs ir.2.1
 obtain ⟨a3,c3,rfl,_⟩:=IRs ir.2.2
 exact ⟨a1,c1,a2,c2,a3,c3,e,os,ir,rest⟩
end Go.Proofs.YtboiknllmnfipaaGreatDoor
/- Build and GraphOk of the program. -/
namespace Go.Proofs.YtboiknllmnfipaaGreatDoor
open Go.RowKit
theorem Jhh {h:Hp} {l:List Nat} (r:RightAt h l):U6 (shP h).nodes/\(shP h).roots.length<=20/\(shP h).nodes.length<=3200:=by
 refine ⟨fun n hn=>?_,?_,?_⟩
 ·have hn' : n ∈ (C8 h.words h.roots).map (J3 h.words (C8 h.words h.roots)):=hn
  obtain ⟨a,ha,rfl⟩:=List.mem_map.1 hn'
  have hal:=Sb r ha
  obtain ⟨_,_,hh⟩:=r.1.obj hal
  have hs:=L6 hh
  have hc:0<=gw h.words (a+1)/\gw h.words (a+1)<=99:=by
   unfold M7 at hh
   rw [Bool.and_eq_true,Bool.and_eq_true] at hh
   exact of_decide_eq_true hh.2.1
  have h1:=r.2.2.2.1 a hal
  have h2:=r.2.2.2.2.1.1 a hal
  have h3:=r.2.2.1
  have ol:=O7 r
  refine ⟨⟨⟨?_,?_⟩,⟨?_,?_⟩,fun x hx=>?_⟩,?_⟩
  ·show -9223372036854775808<=gw h.words (a+1);omega
  ·show gw h.words (a+1)<=9223372036854775807;omega
  ·show -9223372036854775808<=gw h.words (a+2);omega
  ·show gw h.words (a+2)<=9223372036854775807;omega
  ·have hx' : x ∈ (flds h.words a).map (ren (C8 h.words h.roots)):=hx
   obtain ⟨y,hy,rfl⟩:=List.mem_map.1 hx'
   have hf:=Qt r hal y hy
   unfold ren
   cases hk:isK 2 y
   ·simp only [Bool.false_eq_true,if_false]
    unfold I8 at hf
    rw [show decide (H8 y=2)=false from hk,Bool.false_and,Bool.or_false] at hf
    have q:H8 y=1:=of_decide_eq_true hf
    unfold H8 at q
    split at q
    ·split at q <;> omega
    ·split at q
     ·rename_i b
      have:=of_decide_eq_true b
      unfold g64
      omega
     ·omega
   ·simp only [if_true]
    have q:=List.idxOf_le_length (l:=C8 h.words h.roots) (a:=(y / 2).toNat)
    unfold g64
    omega
  ·show ((flds h.words a).map _).length<=10000000
   rw [List.length_map,N5]
   omega
 ·show (h.roots.map _).length<=20
  rw [List.length_map]
  exact r.2.2.2.2.2.1
 ·show ((C8 h.words h.roots).map _).length<=3200
  rw [List.length_map]
  exact O7 r
theorem Uz (a b:Gr):Qm a b=true ↔ a=b:=by
 unfold Qm V6
 rw [Bool.and_eq_true,Bool.and_eq_true]
 constructor
 ·rintro ⟨h1,h2,h3⟩
  have e1:=of_decide_eq_true h1
  have e2:=of_decide_eq_true h2
  have e3:=@of_decide_eq_true _ (Classical.propDecidable _) h3
  obtain ⟨ar,an,ah⟩:=a
  obtain ⟨br,bn,bh⟩:=b
  simp only at e1 e2 e3
  rw [e1,e2,e3]
 ·rintro rfl
  exact ⟨decide_eq_true rfl,decide_eq_true rfl,@decide_eq_true _ (Classical.propDecidable _) rfl⟩
noncomputable def Rs (g:Gr):Hp:=if Ob g=true then C4 g else Pz
theorem Jgz {g:Gr} (k:Ob g=false):Rs g=Pz:=by unfold Rs;rw [k];rfl
theorem Um {g:Gr} (k:Ob g=true):Rs g=C4 g:=by unfold Rs;rw [k];rfl
theorem Uk {g:Gr} {B:Nat} {w' : World} (k:Ob g=false) :
  Ending.returned (.tuple #[.agg #[.slice none 0 0,.slice none 0 0,.int .i64 0,.int .i64 0,.int .i64 0,.bool false,.int .i64 0,.slice none 0 0],.bool false])=.returned (.tuple #[.agg #[.slice none 0 0,.slice none 0 0,.int .i64 0,.int .i64 0,.int .i64 0,.bool false,.int .i64 0,.slice none 0 0],.bool (Ob g)])/\HN B w' (.agg #[.slice none 0 0,.slice none 0 0,.int .i64 0,.int .i64 0,.int .i64 0,.bool false,.int .i64 0,.slice none 0 0]) (Rs g):=by
 rw [k,Jgz k]
 exact ⟨rfl,Jkn _ _⟩
theorem Jef {B B' : Nat} {w:World} {v:Value} {h:Hp} (k:HN B w v h) (hb:B' <= B):HN B' w v h:=by
 obtain ⟨v1,v2,v3,e,s,r,⟨b1,b2,b3⟩,q⟩:=k.ex
 exact ⟨v1,v2,v3,e,s,r,⟨fun b x=>Nat.le_trans hb (b1 b x),fun b x=>Nat.le_trans hb (b2 b x),fun b x=>Nat.le_trans hb (b3 b x)⟩,q⟩
theorem Jep {B:Nat} {w w' : World} {v:Value} {h:Hp} {c:Nat} (k:HN B w v h) (hg:w.grownBy w' (some c)) (hc:c<B):HN B w' v h:=by
 obtain ⟨v1,v2,v3,e,⟨s1,s2,s3⟩,⟨r1,r2,r3⟩,⟨b1,b2,b3⟩,r⟩:=k.ex
 have hk:∀ b,B<=b->b<w.heap.size->w'.heap[b]?=w.heap[b]?:=fun b h1 h2=>hg.block b h2 (fun e=>by injection e;omega)
 have os:∀ {u:Value} {n:Nat},Disk.OS w 2 1 u n->(∀ b,Disk.rowOf u n=some b->B<=b)->Disk.OS w' 2 1 u n:=fun {u} {n} s q=>by
  obtain ⟨ao,cap,rfl,h⟩:=s
  refine ⟨ao,cap,rfl,?_⟩
  by_cases h0:n=0
  ·exact .inl h0
  ·obtain ⟨b,N,f,rfl,hN,hr⟩:=h.resolve_left h0
   exact .inr ⟨b,N,f,rfl,hN,hr.of_block (hk b (q b (by unfold Disk.rowOf;rw [if_neg h0];rfl)) hr.lt)⟩
 have row:∀ {u:Value} {l:List Int},IR w u l->Disk.OS w 2 1 u l.length->(∀ b,Disk.rowOf u l.length=some b->B<=b)->IR w' u l:=fun {u} {l} a s q=>by
  refine a.keep' fun ad n cp e hn=>?_
  subst e
  have el:n=l.length:=by
   obtain ⟨ao,cap,e2,_⟩:=IRs a
   simp only [Value.slice.injEq] at e2
   exact e2.2.1
  have q2:Disk.rowOf (.slice (some ad) n cp) l.length=some ad.block:=by
   unfold Disk.rowOf
   rw [if_neg (by omega)]
   rfl
  exact hk _ (q _ q2) (s.row _ q2)
 exact ⟨v1,v2,v3,e,⟨os s1 b1,os s2 b2,os s3 b3⟩,⟨row r1 s1 b1,row r2 s2 b2,row r3 s3 b3⟩,⟨b1,b2,b3⟩,r⟩
set_option maxRecDepth 100000 in
set_option maxHeartbeats 6400000 in
theorem Ta (v:Value) (g:Gr) (w:World) (hv:GR w v g) (l1:g.nodes.length<=10000000) (l3:g.roots.length<=10000000) (s64:U6 g.nodes) (ht:GTb w) :
  Calls Tryz.prog 6 #[v] w fun e w'=>(∃ u,e=.returned (.tuple #[u,.bool (Ob g)])/\HN w.heap.size w' u (Rs g))/\Below w.heap.size w w':=by
 obtain ⟨ra,rc,na,nc,rfl,hr,hn⟩:=hv.out
 have hb0:Below w.heap.size w ((w.alloc (.cells #[.slice ra g.roots.length rc,.slice na g.nodes.length nc,.int .i64 g.hash] 27)).alloc (.cells #[.slice none 0 0,.slice none 0 0,.int .i64 0,.int .i64 0,.int .i64 0,.bool false,.int .i64 0,.slice none 0 0] 30)):=C3 (C5 _ _) (C5 _ _)
 have LG:=Yt _ g _ (hv.later hb0) l1 (fun n q=>(s64 n q).2) l3
 obtain ⟨f,R0⟩:∃ f,((w.alloc (.cells #[.slice ra g.roots.length rc,.slice na g.nodes.length nc,.int .i64 g.hash] 27)).alloc (.cells #[.slice none 0 0,.slice none 0 0,.int .i64 0,.int .i64 0,.int .i64 0,.bool false,.int .i64 0,.slice none 0 0] 30)).rowIs (w.heap.size+1) 30 8 f:=by
  have q:=I0 (w.alloc (.cells #[.slice ra g.roots.length rc,.slice na g.nodes.length nc,.int .i64 g.hash] 27)) #[.slice none 0 0,.slice none 0 0,.int .i64 0,.int .i64 0,.int .i64 0,.bool false,.int .i64 0,.slice none 0 0] 30
  rw [World.size_alloc] at q
  exact ⟨_,q⟩
 have c0:=C2 (C5 (w.alloc (.cells #[.slice ra g.roots.length rc,.slice na g.nodes.length nc,.int .i64 g.hash] 27)) (.cells #[.slice none 0 0,.slice none 0 0,.int .i64 0,.int .i64 0,.int .i64 0,.bool false,.int .i64 0,.slice none 0 0] 30)) (E6 w #[.slice ra g.roots.length rc,.slice na g.nodes.length nc,.int .i64 g.hash] 27 _ rfl 0 _ rfl)
 have c1:=C2 (C5 (w.alloc (.cells #[.slice ra g.roots.length rc,.slice na g.nodes.length nc,.int .i64 g.hash] 27)) (.cells #[.slice none 0 0,.slice none 0 0,.int .i64 0,.int .i64 0,.int .i64 0,.bool false,.int .i64 0,.slice none 0 0] 30)) (E6 w #[.slice ra g.roots.length rc,.slice na g.nodes.length nc,.int .i64 g.hash] 27 _ rfl 1 _ rfl)
 have c2:=C2 (C5 (w.alloc (.cells #[.slice ra g.roots.length rc,.slice na g.nodes.length nc,.int .i64 g.hash] 27)) (.cells #[.slice none 0 0,.slice none 0 0,.int .i64 0,.int .i64 0,.int .i64 0,.bool false,.int .i64 0,.slice none 0 0] 30)) (E6 w #[.slice ra g.roots.length rc,.slice na g.nodes.length nc,.int .i64 g.hash] 27 _ rfl 2 _ rfl)
 have hmx:Tryz.prog.follows .mixedOrders=true:=by kernel_rfl
 go_enter Tryz.func6,Tryz.ntmps6
 go_wp2_with fail
 refine LG.mono ?_
 rintro e w1 ⟨lo,hb1⟩
 have hbw1:=C3 hb0 hb1
 have R1:=R0.of_block (hb1.block _ R0.lt)
 replace c0:=C2 hb1 c0
 replace c1:=C2 hb1 c1
 replace c2:=C2 hb1 c2
 have ltR:=R1.lt
 clear LG R0 hb0
 rcases lo with ⟨hp,u,rfl,hu⟩|⟨hq,rfl⟩
 ·obtain ⟨ho1,hc1,ho2,hc2,ho3,hc3,rfl,-⟩:=hu.out
  have al:=C5 w1 (.cells #[.slice ho1 (C4 g).words.length hc1,.slice ho2 (C4 g).roots.length hc2,.int .i64 (C4 g).old,.int .i64 (C4 g).eden,.int .i64 (C4 g).surv,.bool (C4 g).flip,.int .i64 (C4 g).hash,.slice ho3 (C4 g).kept.length hc3] 30)
  have hbA:=C3 hbw1 al
  have RA:=R1.of_block (al.block _ R1.lt)
  have huA:=hu.later al
  have HOK:=fun W hv=>Rz (.agg #[.slice ho1 (C4 g).words.length hc1,.slice ho2 (C4 g).roots.length hc2,.int .i64 (C4 g).old,.int .i64 (C4 g).eden,.int .i64 (C4 g).surv,.bool (C4 g).flip,.int .i64 (C4 g).hash,.slice ho3 (C4 g).kept.length hc3]) (C4 g) W hv (by show (g.roots.map _).length<=_;rw [List.length_map];omega) (Nat.zero_le _)
  have HSH:=fun W hv=>Re (.agg #[.slice ho1 (C4 g).words.length hc1,.slice ho2 (C4 g).roots.length hc2,.int .i64 (C4 g).old,.int .i64 (C4 g).eden,.int .i64 (C4 g).surv,.bool (C4 g).flip,.int .i64 (C4 g).hash,.slice ho3 (C4 g).kept.length hc3]) (C4 g) W hv (by show (g.roots.map _).length<=_;rw [List.length_map];omega) (Nat.zero_le _)
  have x0:=C2 al c0
  have x1:=C2 al c1
  have x2:=C2 al c2
  have SD:((w1.alloc (.cells #[.slice ho1 (C4 g).words.length hc1,.slice ho2 (C4 g).roots.length hc2,.int .i64 (C4 g).old,.int .i64 (C4 g).eden,.int .i64 (C4 g).surv,.bool (C4 g).flip,.int .i64 (C4 g).hash,.slice ho3 (C4 g).kept.length hc3] 30)).cell? ⟨w1.heap.size,0,none⟩=some (.slice ho1 (C4 g).words.length hc1)/\(w1.alloc (.cells #[.slice ho1 (C4 g).words.length hc1,.slice ho2 (C4 g).roots.length hc2,.int .i64 (C4 g).old,.int .i64 (C4 g).eden,.int .i64 (C4 g).surv,.bool (C4 g).flip,.int .i64 (C4 g).hash,.slice ho3 (C4 g).kept.length hc3] 30)).cell? ⟨w1.heap.size,1,none⟩=some (.slice ho2 (C4 g).roots.length hc2)/\(w1.alloc (.cells #[.slice ho1 (C4 g).words.length hc1,.slice ho2 (C4 g).roots.length hc2,.int .i64 (C4 g).old,.int .i64 (C4 g).eden,.int .i64 (C4 g).surv,.bool (C4 g).flip,.int .i64 (C4 g).hash,.slice ho3 (C4 g).kept.length hc3] 30)).cell? ⟨w1.heap.size,2,none⟩=some (.int .i64 (C4 g).old)/\(w1.alloc (.cells #[.slice ho1 (C4 g).words.length hc1,.slice ho2 (C4 g).roots.length hc2,.int .i64 (C4 g).old,.int .i64 (C4 g).eden,.int .i64 (C4 g).surv,.bool (C4 g).flip,.int .i64 (C4 g).hash,.slice ho3 (C4 g).kept.length hc3] 30)).cell? ⟨w1.heap.size,3,none⟩=some (.int .i64 (C4 g).eden)/\(w1.alloc (.cells #[.slice ho1 (C4 g).words.length hc1,.slice ho2 (C4 g).roots.length hc2,.int .i64 (C4 g).old,.int .i64 (C4 g).eden,.int .i64 (C4 g).surv,.bool (C4 g).flip,.int .i64 (C4 g).hash,.slice ho3 (C4 g).kept.length hc3] 30)).cell? ⟨w1.heap.size,4,none⟩=some (.int .i64 (C4 g).surv)/\(w1.alloc (.cells #[.slice ho1 (C4 g).words.length hc1,.slice ho2 (C4 g).roots.length hc2,.int .i64 (C4 g).old,.int .i64 (C4 g).eden,.int .i64 (C4 g).surv,.bool (C4 g).flip,.int .i64 (C4 g).hash,.slice ho3 (C4 g).kept.length hc3] 30)).cell? ⟨w1.heap.size,5,none⟩=some (.bool (C4 g).flip)/\(w1.alloc (.cells #[.slice ho1 (C4 g).words.length hc1,.slice ho2 (C4 g).roots.length hc2,.int .i64 (C4 g).old,.int .i64 (C4 g).eden,.int .i64 (C4 g).surv,.bool (C4 g).flip,.int .i64 (C4 g).hash,.slice ho3 (C4 g).kept.length hc3] 30)).cell? ⟨w1.heap.size,6,none⟩=some (.int .i64 (C4 g).hash)/\(w1.alloc (.cells #[.slice ho1 (C4 g).words.length hc1,.slice ho2 (C4 g).roots.length hc2,.int .i64 (C4 g).old,.int .i64 (C4 g).eden,.int .i64 (C4 g).surv,.bool (C4 g).flip,.int .i64 (C4 g).hash,.slice ho3 (C4 g).kept.length hc3] 30)).cell? ⟨w1.heap.size,7,none⟩=some (.slice ho3 (C4 g).kept.length hc3)/\(w1.alloc (.cells #[.slice ho1 (C4 g).words.length hc1,.slice ho2 (C4 g).roots.length hc2,.int .i64 (C4 g).old,.int .i64 (C4 g).eden,.int .i64 (C4 g).surv,.bool (C4 g).flip,.int .i64 (C4 g).hash,.slice ho3 (C4 g).kept.length hc3] 30)).cell? ⟨w.heap.size,0,none⟩=some (.slice ra g.roots.length rc)/\(w1.alloc (.cells #[.slice ho1 (C4 g).words.length hc1,.slice ho2 (C4 g).roots.length hc2,.int .i64 (C4 g).old,.int .i64 (C4 g).eden,.int .i64 (C4 g).surv,.bool (C4 g).flip,.int .i64 (C4 g).hash,.slice ho3 (C4 g).kept.length hc3] 30)).cell? ⟨w.heap.size,1,none⟩=some (.slice na g.nodes.length nc)/\(w1.alloc (.cells #[.slice ho1 (C4 g).words.length hc1,.slice ho2 (C4 g).roots.length hc2,.int .i64 (C4 g).old,.int .i64 (C4 g).eden,.int .i64 (C4 g).surv,.bool (C4 g).flip,.int .i64 (C4 g).hash,.slice ho3 (C4 g).kept.length hc3] 30)).cell? ⟨w.heap.size,2,none⟩=some (.int .i64 g.hash)):=⟨E6 w1 #[.slice ho1 (C4 g).words.length hc1,.slice ho2 (C4 g).roots.length hc2,.int .i64 (C4 g).old,.int .i64 (C4 g).eden,.int .i64 (C4 g).surv,.bool (C4 g).flip,.int .i64 (C4 g).hash,.slice ho3 (C4 g).kept.length hc3] 30 _ rfl 0 _ rfl,E6 w1 #[.slice ho1 (C4 g).words.length hc1,.slice ho2 (C4 g).roots.length hc2,.int .i64 (C4 g).old,.int .i64 (C4 g).eden,.int .i64 (C4 g).surv,.bool (C4 g).flip,.int .i64 (C4 g).hash,.slice ho3 (C4 g).kept.length hc3] 30 _ rfl 1 _ rfl,E6 w1 #[.slice ho1 (C4 g).words.length hc1,.slice ho2 (C4 g).roots.length hc2,.int .i64 (C4 g).old,.int .i64 (C4 g).eden,.int .i64 (C4 g).surv,.bool (C4 g).flip,.int .i64 (C4 g).hash,.slice ho3 (C4 g).kept.length hc3] 30 _ rfl 2 _ rfl,E6 w1 #[.slice ho1 (C4 g).words.length hc1,.slice ho2 (C4 g).roots.length hc2,.int .i64 (C4 g).old,.int .i64 (C4 g).eden,.int .i64 (C4 g).surv,.bool (C4 g).flip,.int .i64 (C4 g).hash,.slice ho3 (C4 g).kept.length hc3] 30 _ rfl 3 _ rfl,E6 w1 #[.slice ho1 (C4 g).words.length hc1,.slice ho2 (C4 g).roots.length hc2,.int .i64 (C4 g).old,.int .i64 (C4 g).eden,.int .i64 (C4 g).surv,.bool (C4 g).flip,.int .i64 (C4 g).hash,.slice ho3 (C4 g).kept.length hc3] 30 _ rfl 4 _ rfl,E6 w1 #[.slice ho1 (C4 g).words.length hc1,.slice ho2 (C4 g).roots.length hc2,.int .i64 (C4 g).old,.int .i64 (C4 g).eden,.int .i64 (C4 g).surv,.bool (C4 g).flip,.int .i64 (C4 g).hash,.slice ho3 (C4 g).kept.length hc3] 30 _ rfl 5 _ rfl,E6 w1 #[.slice ho1 (C4 g).words.length hc1,.slice ho2 (C4 g).roots.length hc2,.int .i64 (C4 g).old,.int .i64 (C4 g).eden,.int .i64 (C4 g).surv,.bool (C4 g).flip,.int .i64 (C4 g).hash,.slice ho3 (C4 g).kept.length hc3] 30 _ rfl 6 _ rfl,E6 w1 #[.slice ho1 (C4 g).words.length hc1,.slice ho2 (C4 g).roots.length hc2,.int .i64 (C4 g).old,.int .i64 (C4 g).eden,.int .i64 (C4 g).surv,.bool (C4 g).flip,.int .i64 (C4 g).hash,.slice ho3 (C4 g).kept.length hc3] 30 _ rfl 7 _ rfl,x0,x1,x2⟩
  cases hk:okC (C4 g)
  ·have GF:Ob g=false:=Ub (fun q=>by have:=Ym q;rw [hk] at this;cases this)
   have OKC:(#[.slice none 0 0,.slice none 0 0,.int .i64 0,.int .i64 0,.int .i64 0,.bool false,.int .i64 0,.slice none 0 0]:Array Value).all (·.oneCell')=true:=by simp [Value.oneCell']
   rw [hk] at HOK
   have h0:=huA.hr
   go_wp2_with fail
   refine Disk.z_plain 99 (fun W'=>(W'.cell? ⟨w1.heap.size,0,none⟩=some (.slice ho1 (C4 g).words.length hc1)/\W'.cell? ⟨w1.heap.size,1,none⟩=some (.slice ho2 (C4 g).roots.length hc2)/\W'.cell? ⟨w1.heap.size,2,none⟩=some (.int .i64 (C4 g).old)/\W'.cell? ⟨w1.heap.size,3,none⟩=some (.int .i64 (C4 g).eden)/\W'.cell? ⟨w1.heap.size,4,none⟩=some (.int .i64 (C4 g).surv)/\W'.cell? ⟨w1.heap.size,5,none⟩=some (.bool (C4 g).flip)/\W'.cell? ⟨w1.heap.size,6,none⟩=some (.int .i64 (C4 g).hash)/\W'.cell? ⟨w1.heap.size,7,none⟩=some (.slice ho3 (C4 g).kept.length hc3)/\W'.cell? ⟨w.heap.size,0,none⟩=some (.slice ra g.roots.length rc)/\W'.cell? ⟨w.heap.size,1,none⟩=some (.slice na g.nodes.length nc)/\W'.cell? ⟨w.heap.size,2,none⟩=some (.int .i64 g.hash))) hmx SD (fun hs=>?_)
   refine Disk.zt 0 11 (v:=.bool true) rfl rfl hs (fun W' hSw=>(by
    obtain ⟨s0,s1,s2,s3,s4,s5,s6,s7,s8,s9,s10⟩:=hSw
    go_simp;first|done|with_reducible rfl)) ?_
   simp only [zA,zB,zC]
   refine Disk.zt 1 12 (v:=.bool false) rfl rfl hs (fun W' hSw=>(by
    obtain ⟨s0,s1,s2,s3,s4,s5,s6,s7,s8,s9,s10⟩:=hSw
    go_simp;first|done|with_reducible rfl)) ?_
   simp only [zA,zB,zC]
   refine Disk.zt 2 13 (v:=.bool false) rfl rfl hs (fun W' hSw=>(by
    obtain ⟨s0,s1,s2,s3,s4,s5,s6,s7,s8,s9,s10⟩:=hSw
    go_simp;first|done|with_reducible rfl)) ?_
   simp only [zA,zB,zC]
   refine Disk.zt 3 14 (v:=.agg #[.slice ho1 (C4 g).words.length hc1,.slice ho2 (C4 g).roots.length hc2,.int .i64 (C4 g).old,.int .i64 (C4 g).eden,.int .i64 (C4 g).surv,.bool (C4 g).flip,.int .i64 (C4 g).hash,.slice ho3 (C4 g).kept.length hc3]) rfl rfl hs (fun W' hSw=>(by
    obtain ⟨s0,s1,s2,s3,s4,s5,s6,s7,s8,s9,s10⟩:=hSw
    go_simp;first|done|with_reducible rfl)) ?_
   simp only [zA,zB,zC]
   refine Disk.zc 4 15 rfl rfl (f:=19) (args:=#[.agg #[.slice ho1 (C4 g).words.length hc1,.slice ho2 (C4 g).roots.length hc2,.int .i64 (C4 g).old,.int .i64 (C4 g).eden,.int .i64 (C4 g).surv,.bool (C4 g).flip,.int .i64 (C4 g).hash,.slice ho3 (C4 g).kept.length hc3]]) (w0:=(w1.alloc (.cells #[.slice ho1 (C4 g).words.length hc1,.slice ho2 (C4 g).roots.length hc2,.int .i64 (C4 g).old,.int .i64 (C4 g).eden,.int .i64 (C4 g).surv,.bool (C4 g).flip,.int .i64 (C4 g).hash,.slice ho3 (C4 g).kept.length hc3] 30)).drew) ?_
   refine (HOK _ (h0.later (Below.refl _ _).drew)).mono ?_
   rintro e w2 ⟨rfl,hb2⟩
   have b2:=C3 (Below.refl (w1.alloc (.cells #[.slice ho1 (C4 g).words.length hc1,.slice ho2 (C4 g).roots.length hc2,.int .i64 (C4 g).old,.int .i64 (C4 g).eden,.int .i64 (C4 g).surv,.bool (C4 g).flip,.int .i64 (C4 g).hash,.slice ho3 (C4 g).kept.length hc3] 30)).heap.size (w1.alloc (.cells #[.slice ho1 (C4 g).words.length hc1,.slice ho2 (C4 g).roots.length hc2,.int .i64 (C4 g).old,.int .i64 (C4 g).eden,.int .i64 (C4 g).surv,.bool (C4 g).flip,.int .i64 (C4 g).hash,.slice ho3 (C4 g).kept.length hc3] 30))).drew hb2
   have hs2:(w2.cell? ⟨w1.heap.size,0,none⟩=some (.slice ho1 (C4 g).words.length hc1)/\w2.cell? ⟨w1.heap.size,1,none⟩=some (.slice ho2 (C4 g).roots.length hc2)/\w2.cell? ⟨w1.heap.size,2,none⟩=some (.int .i64 (C4 g).old)/\w2.cell? ⟨w1.heap.size,3,none⟩=some (.int .i64 (C4 g).eden)/\w2.cell? ⟨w1.heap.size,4,none⟩=some (.int .i64 (C4 g).surv)/\w2.cell? ⟨w1.heap.size,5,none⟩=some (.bool (C4 g).flip)/\w2.cell? ⟨w1.heap.size,6,none⟩=some (.int .i64 (C4 g).hash)/\w2.cell? ⟨w1.heap.size,7,none⟩=some (.slice ho3 (C4 g).kept.length hc3)/\w2.cell? ⟨w.heap.size,0,none⟩=some (.slice ra g.roots.length rc)/\w2.cell? ⟨w.heap.size,1,none⟩=some (.slice na g.nodes.length nc)/\w2.cell? ⟨w.heap.size,2,none⟩=some (.int .i64 g.hash)):=⟨C2 hb2 hs.1,C2 hb2 hs.2.1,C2 hb2 hs.2.2.1,C2 hb2 hs.2.2.2.1,C2 hb2 hs.2.2.2.2.1,C2 hb2 hs.2.2.2.2.2.1,C2 hb2 hs.2.2.2.2.2.2.1,C2 hb2 hs.2.2.2.2.2.2.2.1,C2 hb2 hs.2.2.2.2.2.2.2.2.1,C2 hb2 hs.2.2.2.2.2.2.2.2.2.1,C2 hb2 hs.2.2.2.2.2.2.2.2.2.2⟩
   refine ⟨_,rfl,.inr hs2,?_⟩
   simp only [zA,zB,zC]
   refine Disk.zr 5 16 (w':=w2) (v:=.bool true) rfl rfl (.inr hs2) ?_
   simp only [zA,zB,zC]
   refine Disk.zr 6 17 (w':=w2) (v:=.bool true) rfl rfl (.inr hs2) ?_
   simp only [zA,zB,zC]
   refine Disk.zr 7 18 (w':=w2) (v:=.bool true) rfl rfl (.inr hs2) ?_
   simp only [zA,zB,zC]
   refine Disk.z_pass 8 19 rfl rfl (by kernel_rfl) (by kernel_rfl) (by kernel_rfl) (by kernel_rfl) (by rfl) hs2 ?_
   simp only [zA,zB,zC]
   refine Disk.z_pass 10 21 rfl rfl (by kernel_rfl) (by kernel_rfl) (by kernel_rfl) (by kernel_rfl) (by rfl) hs2 ?_
   simp only [zA,zB,zC]
   refine Disk.z_pass 9 20 rfl rfl (by kernel_rfl) (by kernel_rfl) (by kernel_rfl) (by kernel_rfl) (by rfl) hs2 ?_
   simp only [zA,zB,zC]
   refine Disk.z_pass 11 22 rfl rfl (by kernel_rfl) (by kernel_rfl) (by kernel_rfl) (by kernel_rfl) (by rfl) hs2 ?_
   simp only [zA,zB,zC]
   refine Disk.z_pass 12 23 rfl rfl (by kernel_rfl) (by kernel_rfl) (by kernel_rfl) (by kernel_rfl) (by rfl) hs2 ?_
   simp only [zA,zB,zC]
   refine Disk.zr 13 24 (w':=w2) (v:=.bool true) rfl rfl (.inr hs2) ?_
   simp only [zA,zB,zC]
   refine Disk.z_done (by kernel_rfl) ?_ _
   have R2:=RA.of_block (b2.block _ RA.lt)
   have bel2:=C3 hbA b2
   clear hs hs2 SD h0 huA HOK HSH hb2 b2
   go_wp2_with ((with_reducible refine C9 _ ?_ (.tmp 2) (.tmp 25) 30 ?_ 30 (w.heap.size+1) 8 #[.slice none 0 0,.slice none 0 0,.int .i64 0,.int .i64 0,.int .i64 0,.bool false,.int .i64 0,.slice none 0 0] f ?_ ?_ R2 ?_ ?_ OKC ?_);rfl;rfl;rfl;rfl;rfl;kernel_rfl;intro w9 K9 G9;have r0:w9.cell? ⟨w.heap.size+1,0,none⟩=some (.slice none 0 0):=K9.cell (i:=0) (by omega);have r1:w9.cell? ⟨w.heap.size+1,1,none⟩=some (.slice none 0 0):=K9.cell (i:=1) (by omega);have r2:w9.cell? ⟨w.heap.size+1,2,none⟩=some (.int .i64 0):=K9.cell (i:=2) (by omega);have r3:w9.cell? ⟨w.heap.size+1,3,none⟩=some (.int .i64 0):=K9.cell (i:=3) (by omega);have r4:w9.cell? ⟨w.heap.size+1,4,none⟩=some (.int .i64 0):=K9.cell (i:=4) (by omega);have r5:w9.cell? ⟨w.heap.size+1,5,none⟩=some (.bool false):=K9.cell (i:=5) (by omega);have r6:w9.cell? ⟨w.heap.size+1,6,none⟩=some (.int .i64 0):=K9.cell (i:=6) (by omega);have r7:w9.cell? ⟨w.heap.size+1,7,none⟩=some (.slice none 0 0):=K9.cell (i:=7) (by omega))
   have B9:Below w.heap.size w w9:=Below.grown bel2 G9 (bel2).size (fun k hk=>by cases hk;omega)
   exact bodyPost_ret (v:=.tuple #[.agg #[.slice none 0 0,.slice none 0 0,.int .i64 0,.int .i64 0,.int .i64 0,.bool false,.int .i64 0,.slice none 0 0],.bool false]) (by simp [results,Tryz.results6,go_sem,r0,r1,r2,r3,r4,r5,r6,r7]) rfl ⟨⟨_,Uk GF⟩,B9⟩
  ·have rgt:=Oa hk
   have SC:shC (C4 g)=shP (C4 g):=by unfold shC;rw [hk];rfl
   obtain ⟨n64,sr,sn⟩:=Jhh rgt
   have h0:=huA.hr
   rw [hk] at HOK
   rw [SC] at HSH
   go_wp2_with fail
   refine Disk.z_plain 99 (fun W'=>(W'.cell? ⟨w1.heap.size,0,none⟩=some (.slice ho1 (C4 g).words.length hc1)/\W'.cell? ⟨w1.heap.size,1,none⟩=some (.slice ho2 (C4 g).roots.length hc2)/\W'.cell? ⟨w1.heap.size,2,none⟩=some (.int .i64 (C4 g).old)/\W'.cell? ⟨w1.heap.size,3,none⟩=some (.int .i64 (C4 g).eden)/\W'.cell? ⟨w1.heap.size,4,none⟩=some (.int .i64 (C4 g).surv)/\W'.cell? ⟨w1.heap.size,5,none⟩=some (.bool (C4 g).flip)/\W'.cell? ⟨w1.heap.size,6,none⟩=some (.int .i64 (C4 g).hash)/\W'.cell? ⟨w1.heap.size,7,none⟩=some (.slice ho3 (C4 g).kept.length hc3)/\W'.cell? ⟨w.heap.size,0,none⟩=some (.slice ra g.roots.length rc)/\W'.cell? ⟨w.heap.size,1,none⟩=some (.slice na g.nodes.length nc)/\W'.cell? ⟨w.heap.size,2,none⟩=some (.int .i64 g.hash))) hmx SD (fun hs=>?_)
   refine Disk.zt 0 11 (v:=.bool true) rfl rfl hs (fun W' hSw=>(by
    obtain ⟨s0,s1,s2,s3,s4,s5,s6,s7,s8,s9,s10⟩:=hSw
    go_simp;first|done|with_reducible rfl)) ?_
   simp only [zA,zB,zC]
   refine Disk.zt 1 12 (v:=.bool false) rfl rfl hs (fun W' hSw=>(by
    obtain ⟨s0,s1,s2,s3,s4,s5,s6,s7,s8,s9,s10⟩:=hSw
    go_simp;first|done|with_reducible rfl)) ?_
   simp only [zA,zB,zC]
   refine Disk.zt 2 13 (v:=.bool false) rfl rfl hs (fun W' hSw=>(by
    obtain ⟨s0,s1,s2,s3,s4,s5,s6,s7,s8,s9,s10⟩:=hSw
    go_simp;first|done|with_reducible rfl)) ?_
   simp only [zA,zB,zC]
   refine Disk.zt 3 14 (v:=.agg #[.slice ho1 (C4 g).words.length hc1,.slice ho2 (C4 g).roots.length hc2,.int .i64 (C4 g).old,.int .i64 (C4 g).eden,.int .i64 (C4 g).surv,.bool (C4 g).flip,.int .i64 (C4 g).hash,.slice ho3 (C4 g).kept.length hc3]) rfl rfl hs (fun W' hSw=>(by
    obtain ⟨s0,s1,s2,s3,s4,s5,s6,s7,s8,s9,s10⟩:=hSw
    go_simp;first|done|with_reducible rfl)) ?_
   simp only [zA,zB,zC]
   refine Disk.zc 4 15 rfl rfl (f:=19) (args:=#[.agg #[.slice ho1 (C4 g).words.length hc1,.slice ho2 (C4 g).roots.length hc2,.int .i64 (C4 g).old,.int .i64 (C4 g).eden,.int .i64 (C4 g).surv,.bool (C4 g).flip,.int .i64 (C4 g).hash,.slice ho3 (C4 g).kept.length hc3]]) (w0:=(w1.alloc (.cells #[.slice ho1 (C4 g).words.length hc1,.slice ho2 (C4 g).roots.length hc2,.int .i64 (C4 g).old,.int .i64 (C4 g).eden,.int .i64 (C4 g).surv,.bool (C4 g).flip,.int .i64 (C4 g).hash,.slice ho3 (C4 g).kept.length hc3] 30)).drew) ?_
   refine (HOK _ (h0.later (Below.refl _ _).drew)).mono ?_
   rintro e w2 ⟨rfl,hb2⟩
   have b2:=C3 (Below.refl (w1.alloc (.cells #[.slice ho1 (C4 g).words.length hc1,.slice ho2 (C4 g).roots.length hc2,.int .i64 (C4 g).old,.int .i64 (C4 g).eden,.int .i64 (C4 g).surv,.bool (C4 g).flip,.int .i64 (C4 g).hash,.slice ho3 (C4 g).kept.length hc3] 30)).heap.size (w1.alloc (.cells #[.slice ho1 (C4 g).words.length hc1,.slice ho2 (C4 g).roots.length hc2,.int .i64 (C4 g).old,.int .i64 (C4 g).eden,.int .i64 (C4 g).surv,.bool (C4 g).flip,.int .i64 (C4 g).hash,.slice ho3 (C4 g).kept.length hc3] 30))).drew hb2
   have hs2:(w2.cell? ⟨w1.heap.size,0,none⟩=some (.slice ho1 (C4 g).words.length hc1)/\w2.cell? ⟨w1.heap.size,1,none⟩=some (.slice ho2 (C4 g).roots.length hc2)/\w2.cell? ⟨w1.heap.size,2,none⟩=some (.int .i64 (C4 g).old)/\w2.cell? ⟨w1.heap.size,3,none⟩=some (.int .i64 (C4 g).eden)/\w2.cell? ⟨w1.heap.size,4,none⟩=some (.int .i64 (C4 g).surv)/\w2.cell? ⟨w1.heap.size,5,none⟩=some (.bool (C4 g).flip)/\w2.cell? ⟨w1.heap.size,6,none⟩=some (.int .i64 (C4 g).hash)/\w2.cell? ⟨w1.heap.size,7,none⟩=some (.slice ho3 (C4 g).kept.length hc3)/\w2.cell? ⟨w.heap.size,0,none⟩=some (.slice ra g.roots.length rc)/\w2.cell? ⟨w.heap.size,1,none⟩=some (.slice na g.nodes.length nc)/\w2.cell? ⟨w.heap.size,2,none⟩=some (.int .i64 g.hash)):=⟨C2 hb2 hs.1,C2 hb2 hs.2.1,C2 hb2 hs.2.2.1,C2 hb2 hs.2.2.2.1,C2 hb2 hs.2.2.2.2.1,C2 hb2 hs.2.2.2.2.2.1,C2 hb2 hs.2.2.2.2.2.2.1,C2 hb2 hs.2.2.2.2.2.2.2.1,C2 hb2 hs.2.2.2.2.2.2.2.2.1,C2 hb2 hs.2.2.2.2.2.2.2.2.2.1,C2 hb2 hs.2.2.2.2.2.2.2.2.2.2⟩
   refine ⟨_,rfl,.inr hs2,?_⟩
   simp only [zA,zB,zC]
   refine Disk.zr 5 16 (w':=w2) (v:=.bool false) rfl rfl (.inr hs2) ?_
   simp only [zA,zB,zC]
   refine Disk.zr 6 17 (w':=w2) (v:=.bool false) rfl rfl (.inr hs2) ?_
   simp only [zA,zB,zC]
   refine Disk.zr 7 18 (w':=w2) (v:=.bool false) rfl rfl (.inr hs2) ?_
   simp only [zA,zB,zC]
   refine Disk.zt 8 19 (v:=.agg #[.slice ho1 (C4 g).words.length hc1,.slice ho2 (C4 g).roots.length hc2,.int .i64 (C4 g).old,.int .i64 (C4 g).eden,.int .i64 (C4 g).surv,.bool (C4 g).flip,.int .i64 (C4 g).hash,.slice ho3 (C4 g).kept.length hc3]) rfl rfl hs2 (fun W' hSw=>(by
    obtain ⟨s0,s1,s2,s3,s4,s5,s6,s7,s8,s9,s10⟩:=hSw
    go_simp;first|done|with_reducible rfl)) ?_
   simp only [zA,zB,zC]
   refine Disk.zt 10 21 (v:=.agg #[.slice ra g.roots.length rc,.slice na g.nodes.length nc,.int .i64 g.hash]) rfl rfl hs2 (fun W' hSw=>(by
    obtain ⟨s0,s1,s2,s3,s4,s5,s6,s7,s8,s9,s10⟩:=hSw
    go_simp;first|done|with_reducible rfl)) ?_
   simp only [zA,zB,zC]
   refine Disk.zc 9 20 rfl rfl (f:=11) (args:=#[.agg #[.slice ho1 (C4 g).words.length hc1,.slice ho2 (C4 g).roots.length hc2,.int .i64 (C4 g).old,.int .i64 (C4 g).eden,.int .i64 (C4 g).surv,.bool (C4 g).flip,.int .i64 (C4 g).hash,.slice ho3 (C4 g).kept.length hc3]]) (w0:=w2) ?_
   refine (HSH _ (h0.later b2)).mono ?_
   rintro e w3 ⟨⟨vs,rfl,hvs⟩,hb3⟩
   have b3:=C3 b2 hb3
   have hs3:(w3.cell? ⟨w1.heap.size,0,none⟩=some (.slice ho1 (C4 g).words.length hc1)/\w3.cell? ⟨w1.heap.size,1,none⟩=some (.slice ho2 (C4 g).roots.length hc2)/\w3.cell? ⟨w1.heap.size,2,none⟩=some (.int .i64 (C4 g).old)/\w3.cell? ⟨w1.heap.size,3,none⟩=some (.int .i64 (C4 g).eden)/\w3.cell? ⟨w1.heap.size,4,none⟩=some (.int .i64 (C4 g).surv)/\w3.cell? ⟨w1.heap.size,5,none⟩=some (.bool (C4 g).flip)/\w3.cell? ⟨w1.heap.size,6,none⟩=some (.int .i64 (C4 g).hash)/\w3.cell? ⟨w1.heap.size,7,none⟩=some (.slice ho3 (C4 g).kept.length hc3)/\w3.cell? ⟨w.heap.size,0,none⟩=some (.slice ra g.roots.length rc)/\w3.cell? ⟨w.heap.size,1,none⟩=some (.slice na g.nodes.length nc)/\w3.cell? ⟨w.heap.size,2,none⟩=some (.int .i64 g.hash)):=⟨C2 hb3 hs2.1,C2 hb3 hs2.2.1,C2 hb3 hs2.2.2.1,C2 hb3 hs2.2.2.2.1,C2 hb3 hs2.2.2.2.2.1,C2 hb3 hs2.2.2.2.2.2.1,C2 hb3 hs2.2.2.2.2.2.2.1,C2 hb3 hs2.2.2.2.2.2.2.2.1,C2 hb3 hs2.2.2.2.2.2.2.2.2.1,C2 hb3 hs2.2.2.2.2.2.2.2.2.2.1,C2 hb3 hs2.2.2.2.2.2.2.2.2.2.2⟩
   refine ⟨_,rfl,.inr hs3,?_⟩
   simp only [zA,zB,zC]
   have bw3:=C3 hbA b3
   have SG:=Uq vs _ (shP (C4 g)) g w3 (GN.grn hvs).gr (hv.later bw3) ⟨by omega,by omega⟩ (by omega) n64 s64 (ht.later bw3)
   refine Disk.zc 11 22 rfl rfl (f:=20) (args:=#[vs,.agg #[.slice ra g.roots.length rc,.slice na g.nodes.length nc,.int .i64 g.hash]]) (w0:=w3) ?_
   refine SG.mono ?_
   rintro e w4 ⟨rfl,hb4⟩
   have b4:=C3 b3 hb4
   have hs4:(w4.cell? ⟨w1.heap.size,0,none⟩=some (.slice ho1 (C4 g).words.length hc1)/\w4.cell? ⟨w1.heap.size,1,none⟩=some (.slice ho2 (C4 g).roots.length hc2)/\w4.cell? ⟨w1.heap.size,2,none⟩=some (.int .i64 (C4 g).old)/\w4.cell? ⟨w1.heap.size,3,none⟩=some (.int .i64 (C4 g).eden)/\w4.cell? ⟨w1.heap.size,4,none⟩=some (.int .i64 (C4 g).surv)/\w4.cell? ⟨w1.heap.size,5,none⟩=some (.bool (C4 g).flip)/\w4.cell? ⟨w1.heap.size,6,none⟩=some (.int .i64 (C4 g).hash)/\w4.cell? ⟨w1.heap.size,7,none⟩=some (.slice ho3 (C4 g).kept.length hc3)/\w4.cell? ⟨w.heap.size,0,none⟩=some (.slice ra g.roots.length rc)/\w4.cell? ⟨w.heap.size,1,none⟩=some (.slice na g.nodes.length nc)/\w4.cell? ⟨w.heap.size,2,none⟩=some (.int .i64 g.hash)):=⟨C2 hb4 hs3.1,C2 hb4 hs3.2.1,C2 hb4 hs3.2.2.1,C2 hb4 hs3.2.2.2.1,C2 hb4 hs3.2.2.2.2.1,C2 hb4 hs3.2.2.2.2.2.1,C2 hb4 hs3.2.2.2.2.2.2.1,C2 hb4 hs3.2.2.2.2.2.2.2.1,C2 hb4 hs3.2.2.2.2.2.2.2.2.1,C2 hb4 hs3.2.2.2.2.2.2.2.2.2.1,C2 hb4 hs3.2.2.2.2.2.2.2.2.2.2⟩
   refine ⟨_,rfl,.inr hs4,?_⟩
   simp only [zA,zB,zC]
   refine Disk.zr 12 23 (w':=w4) (v:=.bool (!(Qm (shP (C4 g)) g))) rfl rfl (.inr hs4) ?_
   simp only [zA,zB,zC]
   refine Disk.zr 13 24 (w':=w4) (v:=.bool (!(Qm (shP (C4 g)) g))) rfl rfl (.inr hs4) ?_
   simp only [zA,zB,zC]
   refine Disk.z_done (by kernel_rfl) ?_ _
   have R4:=RA.of_block (b4.block _ RA.lt)
   have bel4:=C3 hbA b4
   have hu4:=huA.later b4
   clear HOK HSH hb2 hb3 hb4 b2 b3 SG hvs h0 SD hs hs2 hs3
   cases hge:Qm (shP (C4 g)) g
   ·have GF:Ob g=false:=Ub (fun q=>by have:=(Uz _ _).2 q.2;rw [hge] at this;cases this)
    have OKC:(#[.slice none 0 0,.slice none 0 0,.int .i64 0,.int .i64 0,.int .i64 0,.bool false,.int .i64 0,.slice none 0 0]:Array Value).all (·.oneCell')=true:=by simp [Value.oneCell']
    clear hs4
    go_wp2_with ((with_reducible refine C9 _ ?_ (.tmp 2) (.tmp 25) 30 ?_ 30 (w.heap.size+1) 8 #[.slice none 0 0,.slice none 0 0,.int .i64 0,.int .i64 0,.int .i64 0,.bool false,.int .i64 0,.slice none 0 0] f ?_ ?_ R4 ?_ ?_ OKC ?_);rfl;rfl;rfl;rfl;rfl;kernel_rfl;intro w9 K9 G9;have r0:w9.cell? ⟨w.heap.size+1,0,none⟩=some (.slice none 0 0):=K9.cell (i:=0) (by omega);have r1:w9.cell? ⟨w.heap.size+1,1,none⟩=some (.slice none 0 0):=K9.cell (i:=1) (by omega);have r2:w9.cell? ⟨w.heap.size+1,2,none⟩=some (.int .i64 0):=K9.cell (i:=2) (by omega);have r3:w9.cell? ⟨w.heap.size+1,3,none⟩=some (.int .i64 0):=K9.cell (i:=3) (by omega);have r4:w9.cell? ⟨w.heap.size+1,4,none⟩=some (.int .i64 0):=K9.cell (i:=4) (by omega);have r5:w9.cell? ⟨w.heap.size+1,5,none⟩=some (.bool false):=K9.cell (i:=5) (by omega);have r6:w9.cell? ⟨w.heap.size+1,6,none⟩=some (.int .i64 0):=K9.cell (i:=6) (by omega);have r7:w9.cell? ⟨w.heap.size+1,7,none⟩=some (.slice none 0 0):=K9.cell (i:=7) (by omega))
    have B9:Below w.heap.size w w9:=Below.grown bel4 G9 (bel4).size (fun k hk=>by cases hk;omega)
    exact bodyPost_ret (v:=.tuple #[.agg #[.slice none 0 0,.slice none 0 0,.int .i64 0,.int .i64 0,.int .i64 0,.bool false,.int .i64 0,.slice none 0 0],.bool false]) (by simp [results,Tryz.results6,go_sem,r0,r1,r2,r3,r4,r5,r6,r7]) rfl ⟨⟨_,Uk GF⟩,B9⟩
   ·have GT:Ob g=true:=Zt (Jha hp hk ((Uz _ _).1 hge))
    have OKC:(#[.slice ho1 (C4 g).words.length hc1,.slice ho2 (C4 g).roots.length hc2,.int .i64 (C4 g).old,.int .i64 (C4 g).eden,.int .i64 (C4 g).surv,.bool (C4 g).flip,.int .i64 (C4 g).hash,.slice ho3 (C4 g).kept.length hc3]:Array Value).all (·.oneCell')=true:=by simp [Value.oneCell']
    obtain ⟨s0,s1,s2,s3,s4,s5,s6,s7,s8,s9,s10⟩:=hs4
    go_wp2_with ((with_reducible refine C9 _ ?_ (.tmp 2) (.tmp 26) 30 ?_ 30 (w.heap.size+1) 8 #[.slice ho1 (C4 g).words.length hc1,.slice ho2 (C4 g).roots.length hc2,.int .i64 (C4 g).old,.int .i64 (C4 g).eden,.int .i64 (C4 g).surv,.bool (C4 g).flip,.int .i64 (C4 g).hash,.slice ho3 (C4 g).kept.length hc3] f ?_ ?_ R4 ?_ ?_ OKC ?_);rfl;rfl;rfl;rfl;rfl;kernel_rfl;intro w9 K9 G9;have r0:w9.cell? ⟨w.heap.size+1,0,none⟩=some (.slice ho1 (C4 g).words.length hc1):=K9.cell (i:=0) (by omega);have r1:w9.cell? ⟨w.heap.size+1,1,none⟩=some (.slice ho2 (C4 g).roots.length hc2):=K9.cell (i:=1) (by omega);have r2:w9.cell? ⟨w.heap.size+1,2,none⟩=some (.int .i64 (C4 g).old):=K9.cell (i:=2) (by omega);have r3:w9.cell? ⟨w.heap.size+1,3,none⟩=some (.int .i64 (C4 g).eden):=K9.cell (i:=3) (by omega);have r4:w9.cell? ⟨w.heap.size+1,4,none⟩=some (.int .i64 (C4 g).surv):=K9.cell (i:=4) (by omega);have r5:w9.cell? ⟨w.heap.size+1,5,none⟩=some (.bool (C4 g).flip):=K9.cell (i:=5) (by omega);have r6:w9.cell? ⟨w.heap.size+1,6,none⟩=some (.int .i64 (C4 g).hash):=K9.cell (i:=6) (by omega);have r7:w9.cell? ⟨w.heap.size+1,7,none⟩=some (.slice ho3 (C4 g).kept.length hc3):=K9.cell (i:=7) (by omega))
    have B9:Below w.heap.size w w9:=Below.grown bel4 G9 (bel4).size (fun k hk=>by cases hk;omega)
    have HF:HN w.heap.size w9 (.agg #[.slice ho1 (C4 g).words.length hc1,.slice ho2 (C4 g).roots.length hc2,.int .i64 (C4 g).old,.int .i64 (C4 g).eden,.int .i64 (C4 g).surv,.bool (C4 g).flip,.int .i64 (C4 g).hash,.slice ho3 (C4 g).kept.length hc3]) (Rs g):=by
     rw [Um GT]
     exact Jef (Jep hu4 G9 (by simp)) (by simp;omega)
    exact bodyPost_ret (v:=.tuple #[.agg #[.slice ho1 (C4 g).words.length hc1,.slice ho2 (C4 g).roots.length hc2,.int .i64 (C4 g).old,.int .i64 (C4 g).eden,.int .i64 (C4 g).surv,.bool (C4 g).flip,.int .i64 (C4 g).hash,.slice ho3 (C4 g).kept.length hc3],.bool true]) (by simp [results,Tryz.results6,go_sem,r0,r1,r2,r3,r4,r5,r6,r7]) rfl ⟨⟨_,by rw [GT],HF⟩,B9⟩
 ·have GF:Ob g=false:=Ub (fun q=>by have:=q.1.2.2.2.2.2.2;omega)
  have al:=C5 w1 (.cells #[.slice none 0 0,.slice none 0 0,.int .i64 0,.int .i64 0,.int .i64 0,.bool false,.int .i64 0,.slice none 0 0] 30)
  have hbA:=C3 hbw1 al
  have RA:=R1.of_block (al.block _ R1.lt)
  have OKC:(#[.slice none 0 0,.slice none 0 0,.int .i64 0,.int .i64 0,.int .i64 0,.bool false,.int .i64 0,.slice none 0 0]:Array Value).all (·.oneCell')=true:=by simp [Value.oneCell']
  go_wp2_with fail
  refine Disk.z_plain 99 (fun _=>True) hmx trivial (fun hs=>?_)
  refine Disk.zt 0 11 (v:=.bool false) rfl rfl hs (fun W' hSw=>(by
   go_simp;first|done|with_reducible rfl)) ?_
  simp only [zA,zB,zC]
  refine Disk.zt 1 12 (v:=.bool true) rfl rfl hs (fun W' hSw=>(by
   go_simp;first|done|with_reducible rfl)) ?_
  simp only [zA,zB,zC]
  refine Disk.zt 2 13 (v:=.bool true) rfl rfl hs (fun W' hSw=>(by
   go_simp;first|done|with_reducible rfl)) ?_
  simp only [zA,zB,zC]
  refine Disk.z_pass 3 14 rfl rfl (by kernel_rfl) (by kernel_rfl) (by kernel_rfl) (by kernel_rfl) (by rfl) hs ?_
  simp only [zA,zB,zC]
  refine Disk.z_pass 4 15 rfl rfl (by kernel_rfl) (by kernel_rfl) (by kernel_rfl) (by kernel_rfl) (by rfl) hs ?_
  simp only [zA,zB,zC]
  refine Disk.z_pass 5 16 rfl rfl (by kernel_rfl) (by kernel_rfl) (by kernel_rfl) (by kernel_rfl) (by rfl) hs ?_
  simp only [zA,zB,zC]
  refine Disk.zt 6 17 (v:=.bool true) rfl rfl hs (fun W' hSw=>(by
   go_simp;first|done|with_reducible rfl)) ?_
  simp only [zA,zB,zC]
  refine Disk.zt 7 18 (v:=.bool true) rfl rfl hs (fun W' hSw=>(by
   go_simp;first|done|with_reducible rfl)) ?_
  simp only [zA,zB,zC]
  refine Disk.z_pass 8 19 rfl rfl (by kernel_rfl) (by kernel_rfl) (by kernel_rfl) (by kernel_rfl) (by rfl) hs ?_
  simp only [zA,zB,zC]
  refine Disk.z_pass 9 20 rfl rfl (by kernel_rfl) (by kernel_rfl) (by kernel_rfl) (by kernel_rfl) (by rfl) hs ?_
  simp only [zA,zB,zC]
  refine Disk.z_pass 10 21 rfl rfl (by kernel_rfl) (by kernel_rfl) (by kernel_rfl) (by kernel_rfl) (by rfl) hs ?_
  simp only [zA,zB,zC]
  refine Disk.z_pass 11 22 rfl rfl (by kernel_rfl) (by kernel_rfl) (by kernel_rfl) (by kernel_rfl) (by rfl) hs ?_
  simp only [zA,zB,zC]
  refine Disk.z_pass 12 23 rfl rfl (by kernel_rfl) (by kernel_rfl) (by kernel_rfl) (by kernel_rfl) (by rfl) hs ?_
  simp only [zA,zB,zC]
  refine Disk.zt 13 24 (v:=.bool true) rfl rfl hs (fun W' hSw=>(by
   go_simp;first|done|with_reducible rfl)) ?_
  simp only [zA,zB,zC]
  refine Disk.z_done (by kernel_rfl) ?_ _
  have RD:(w1.alloc (.cells #[.slice none 0 0,.slice none 0 0,.int .i64 0,.int .i64 0,.int .i64 0,.bool false,.int .i64 0,.slice none 0 0] 30)).drew.rowIs (w.heap.size+1) 30 8 f:=RA.drew
  have belD:=hbA.drew
  go_wp2_with ((with_reducible refine C9 _ ?_ (.tmp 2) (.tmp 25) 30 ?_ 30 (w.heap.size+1) 8 #[.slice none 0 0,.slice none 0 0,.int .i64 0,.int .i64 0,.int .i64 0,.bool false,.int .i64 0,.slice none 0 0] f ?_ ?_ RD ?_ ?_ OKC ?_);rfl;rfl;rfl;rfl;rfl;kernel_rfl;intro w9 K9 G9;have r0:w9.cell? ⟨w.heap.size+1,0,none⟩=some (.slice none 0 0):=K9.cell (i:=0) (by omega);have r1:w9.cell? ⟨w.heap.size+1,1,none⟩=some (.slice none 0 0):=K9.cell (i:=1) (by omega);have r2:w9.cell? ⟨w.heap.size+1,2,none⟩=some (.int .i64 0):=K9.cell (i:=2) (by omega);have r3:w9.cell? ⟨w.heap.size+1,3,none⟩=some (.int .i64 0):=K9.cell (i:=3) (by omega);have r4:w9.cell? ⟨w.heap.size+1,4,none⟩=some (.int .i64 0):=K9.cell (i:=4) (by omega);have r5:w9.cell? ⟨w.heap.size+1,5,none⟩=some (.bool false):=K9.cell (i:=5) (by omega);have r6:w9.cell? ⟨w.heap.size+1,6,none⟩=some (.int .i64 0):=K9.cell (i:=6) (by omega);have r7:w9.cell? ⟨w.heap.size+1,7,none⟩=some (.slice none 0 0):=K9.cell (i:=7) (by omega))
  have B9:Below w.heap.size w w9:=Below.grown belD G9 (belD).size (fun k hk=>by cases hk;omega)
  exact bodyPost_ret (v:=.tuple #[.agg #[.slice none 0 0,.slice none 0 0,.int .i64 0,.int .i64 0,.int .i64 0,.bool false,.int .i64 0,.slice none 0 0],.bool false]) (by simp [results,Tryz.results6,go_sem,r0,r1,r2,r3,r4,r5,r6,r7]) rfl ⟨⟨_,Uk GF⟩,B9⟩
end Go.Proofs.YtboiknllmnfipaaGreatDoor
