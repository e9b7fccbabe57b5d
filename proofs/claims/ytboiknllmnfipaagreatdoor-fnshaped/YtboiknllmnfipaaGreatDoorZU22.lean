
import Derived.Test.YtboiknllmnfipaaGreatDoorZU5
import Derived.Test.YtboiknllmnfipaaGreatDoorZU7
/- l6Word of the model. -/
namespace Go.Proofs.YtboiknllmnfipaaGreatDoor
open Go.RowKit
theorem Wy (x:Int) (n:Nat) (w:World) (hx:x<=9223372036854775807) :
  Calls Tryz.prog 45 #[.int .i64 x,.int .i64 (n:Int)] w fun e w'=>e=.returned (.bool (M9 n x))/\w' = w:=by
 by_cases h:x % 2=0
 ·have G:Hid (M9 n x=Pn x):=(by unfold M9;rw [if_pos h]:M9 n x=Pn x)
  have t:(x.tmod 2 == 0)=true:=by rw [L9];exact decide_eq_true h
  clear h
  go_enter Tryz.func45,Tryz.ntmps45
  go_wp2_with fail
  refine (Oq _ _).mono ?_
  rintro e w1 ⟨rfl,rfl⟩
  go_wp2
  go_ret
  exact ⟨E7 (by rw [G.out]),rfl⟩
 ·have t:(x.tmod 2 == 0)=false:=by rw [L9];exact decide_eq_false h
  have t2:(x % 2 == 0)=false:=decide_eq_false h
  by_cases h0:0<x
  ·have e:x.tdiv 2=x / 2:=Int.tdiv_eq_ediv_of_nonneg (by omega)
   have G:Hid (M9 n x=decide (x / 2<(n:Int))):=(by
    unfold M9
    rw [if_neg h]
    by_cases k:x / 2<(n:Int)
    ·rw [decide_eq_true k,decide_eq_true ⟨h0,k⟩]
    ·rw [decide_eq_false k,decide_eq_false (fun q=>k q.2)]:M9 n x=decide (x / 2<(n:Int)))
   rw [<- e] at G
   have r0:0<=x.tdiv 2:=by rw [e];omega
   have r1:x.tdiv 2<=4611686018427387904:=by rw [e];omega
   have d0:decide (0<x)=true:=decide_eq_true h0
   clear h e
   go_enter Tryz.func45,Tryz.ntmps45
   go_wp2
   go_ret
   exact ⟨E7 (by rw [G.out]),rfl⟩
  ·have G:Hid (M9 n x=false):=(by
    unfold M9
    rw [if_neg h,decide_eq_false (fun q=>h0 q.1)]:M9 n x=false)
   have d0:decide (0<x)=false:=decide_eq_false h0
   clear h
   go_enter Tryz.func45,Tryz.ntmps45
   go_wp2
   go_ret
   exact ⟨E7 (by rw [G.out]),rfl⟩
end Go.Proofs.YtboiknllmnfipaaGreatDoor
/- SameGraph of the program and of the model. -/
namespace Go.Proofs.YtboiknllmnfipaaGreatDoor
open Go.RowKit
set_option maxHeartbeats 400000 in
theorem Jdk (v u:Value) (ss tt:List Int) (w:World) (hv:IR w v ss) (hu:IR w u tt) (h1:ss.length<=1000000000000000) (_h2:tt.length<=1000000000000000) :
  Calls Tryz.prog 42 #[v,u] w fun e w'=>e=.returned (.bool (decide (ss=tt)))/\Below w.heap.size w w':=by
 obtain ⟨ao,cap,rfl,_,hv⟩:=hv
 obtain ⟨bo,cbp,rfl,_,hu⟩:=hu
 by_cases hl:ss.length=tt.length
 ·have hl' : ((ss.length:Int) != (tt.length:Int))=false:=by simp [hl]
  have HL:Hid (ss.length=tt.length):=hl
  go_enter Tryz.func42,Tryz.ntmps42
  go_wp2
  go_loopw [13] (fun a wr=>∃ (k:Nat),a=.int .i64 k/\k<=ss.length/\Hid (∀ j,j<k->ss.getD j 0=tt.getD j 0)/\∃ n,wr=w.drewN n) (fun a _=>(ss.length - (intOf a).toNat))
  case atStart=>exact ⟨0,rfl,Nat.zero_le _,fun j hj=>absurd hj (by omega),0,rfl⟩
  case round =>
   obtain ⟨k,rfl,hk,hj,n,rfl⟩:=hrel
   by_cases hlt:k<ss.length
   ·obtain ⟨b,o,rfl,hc⟩:=hv k hlt
    obtain ⟨b',o',rfl,hc'⟩:=hu k (by omega)
    have hlt' : k<tt.length:=by omega
    generalize hs:ss.getD k 0=s at *
    generalize ht:tt.getD k 0=t at *
    have HS:Hid (ss.getD k 0=s):=hs
    have HT:Hid (tt.getD k 0=t):=ht
    clear hs ht hv hu hl
    go_wp2
    go_region
    all_goals go_wp2
    ·have hne:s ≠ t:=by simpa using ‹(s != t)=true›
     go_ret
     exact ⟨J7 (decide_eq_false (fun e=>hne (by rw [<- HS.out,← HT.out,e]))).symm,H6 (Below.refl _ _) _⟩
    ·have he:s=t:=by simpa using ‹(s != t)=false›
     go_roundw
     case rel=>exact ⟨k+1,by go_num,by omega,J9 hj.out (by rw [HS.out,HT.out,he]),_,rfl⟩
     case measure=>simp [intOf];omega
   ·go_wp2
    go_ret
    exact ⟨J7 (decide_eq_true (Ps hl (fun j hj'=>hj.out j (by omega)))).symm,H6 (Below.refl _ _) _⟩
 ·have hl' : ((ss.length:Int) != (tt.length:Int))=true:=by simp;omega
  go_enter Tryz.func42,Tryz.ntmps42
  go_wp2
  go_ret
  exact ⟨J7 (decide_eq_false (fun e=>hl (by rw [e]))).symm,Below.refl _ _⟩
set_option maxHeartbeats 400000 in
theorem Vx (v u:Value) (ss tt:List Int) (w:World) (hv:IR w v ss) (hu:IR w u tt) (h1:ss.length<=1000000000000000) (_h2:tt.length<=1000000000000000) :
  Calls Tryz.prog 35 #[v,u] w fun e w'=>e=.returned (.bool (decide (ss=tt)))/\Below w.heap.size w w':=by
 obtain ⟨ao,cap,rfl,_,hv⟩:=hv
 obtain ⟨bo,cbp,rfl,_,hu⟩:=hu
 by_cases hl:ss.length=tt.length
 ·have hl' : ((ss.length:Int) != (tt.length:Int))=false:=by simp [hl]
  have HL:Hid (ss.length=tt.length):=hl
  go_enter Tryz.func35,Tryz.ntmps35
  go_wp2
  go_loopw [5] (fun a wr=>∃ (k:Nat),a=.int .i64 k/\k<=ss.length/\Hid (∀ j,j<k->ss.getD j 0=tt.getD j 0)/\∃ n,wr=w.drewN n) (fun a _=>(ss.length - (intOf a).toNat))
  case atStart=>exact ⟨0,rfl,Nat.zero_le _,fun j hj=>absurd hj (by omega),0,rfl⟩
  case round =>
   obtain ⟨k,rfl,hk,hj,n,rfl⟩:=hrel
   by_cases hlt:k<ss.length
   ·obtain ⟨b,o,rfl,hc⟩:=hv k hlt
    obtain ⟨b',o',rfl,hc'⟩:=hu k (by omega)
    have hlt' : k<tt.length:=by omega
    generalize hs:ss.getD k 0=s at *
    generalize ht:tt.getD k 0=t at *
    have HS:Hid (ss.getD k 0=s):=hs
    have HT:Hid (tt.getD k 0=t):=ht
    clear hs ht hv hu hl
    go_wp2
    go_region
    all_goals go_wp2
    ·have hne:s ≠ t:=by simpa using ‹(s != t)=true›
     go_ret
     exact ⟨J7 (decide_eq_false (fun e=>hne (by rw [<- HS.out,← HT.out,e]))).symm,H6 (Below.refl _ _) _⟩
    ·have he:s=t:=by simpa using ‹(s != t)=false›
     go_roundw
     case rel=>exact ⟨k+1,by go_num,by omega,J9 hj.out (by rw [HS.out,HT.out,he]),_,rfl⟩
     case measure=>simp [intOf];omega
   ·go_wp2
    go_ret
    exact ⟨J7 (decide_eq_true (Ps hl (fun j hj'=>hj.out j (by omega)))).symm,H6 (Below.refl _ _) _⟩
 ·have hl' : ((ss.length:Int) != (tt.length:Int))=true:=by simp;omega
  go_enter Tryz.func35,Tryz.ntmps35
  go_wp2
  go_ret
  exact ⟨J7 (decide_eq_false (fun e=>hl (by rw [e]))).symm,Below.refl _ _⟩
noncomputable def Qm (a b:Gr):Bool:=decide (a.hash=b.hash) && (decide (a.roots=b.roots) && V6 a.nodes b.nodes)
theorem gboxes (w:World) (u0 u1 x0 x1:Value) (h0 h1:Int) (t:TypeId):((w.alloc (.cells #[u0,u1,.int .i64 h0] t)).alloc (.cells #[x0,x1,.int .i64 h1] t)).rowIs w.heap.size t 3 (grF u0 u1 h0)/\((w.alloc (.cells #[u0,u1,.int .i64 h0] t)).alloc (.cells #[x0,x1,.int .i64 h1] t)).rowIs (w.heap.size+1) t 3 (grF x0 x1 h1)/\Below w.heap.size w ((w.alloc (.cells #[u0,u1,.int .i64 h0] t)).alloc (.cells #[x0,x1,.int .i64 h1] t)):=by
 refine ⟨(Qw w u0 u1 h0 t).of_block ((C5 _ (.cells #[x0,x1,.int .i64 h1] t)).block _ (by simp)),?_,C3 (C5 _ _) (C5 _ _)⟩
 have q:=Qw (w.alloc (.cells #[u0,u1,.int .i64 h0] t)) x0 x1 h1 t
 rwa [World.size_alloc] at q
set_option maxHeartbeats 1600000 in
theorem Uq (v u:Value) (a b:Gr) (w:World) (hv:GR w v a) (hu:GR w u b) (ha:a.roots.length<=1000000000/\a.nodes.length<=1000000000) (hb:b.roots.length<=1000000000) (sa:U6 a.nodes) (sb:U6 b.nodes) (ht:GTb w) :
  Calls Tryz.prog 20 #[v,u] w fun e w'=>e=.returned (.bool (Qm a b))/\Below w.heap.size w w':=by
 obtain ⟨ra,rc,na,nc,rfl,ar,an⟩:=hv.out
 obtain ⟨sa',sc,ma,mc,rfl,br,bn⟩:=hu.out
 obtain ⟨R0,R1,bb⟩:=gboxes w (.slice ra a.roots.length rc) (.slice na a.nodes.length nc) (.slice sa' b.roots.length sc) (.slice ma b.nodes.length mc) a.hash b.hash 27
 obtain ⟨p0,p1,p2⟩:=Uw R0
 obtain ⟨q0,q1,q2⟩:=Uw R1
 have E1:=Jdk _ _ a.roots b.roots _ (ar.later bb) (br.later bb) (by omega) (by omega)
 have E2:=fun W (q:Below w.heap.size w W)=>Yx _ _ a.nodes b.nodes W (an.later q) (bn.later q) ha.2 sa sb (ht.later q)
 have GE:Hid (Qm a b=(decide (a.hash=b.hash) && (decide (a.roots=b.roots) && V6 a.nodes b.nodes))):=rfl
 have K:Hid (∀ W,Below ((w.alloc (.cells #[.slice ra a.roots.length rc,.slice na a.nodes.length nc,.int .i64 a.hash] 27)).alloc (.cells #[.slice sa' b.roots.length sc,.slice ma b.nodes.length mc,.int .i64 b.hash] 27)).heap.size ((w.alloc (.cells #[.slice ra a.roots.length rc,.slice na a.nodes.length nc,.int .i64 a.hash] 27)).alloc (.cells #[.slice sa' b.roots.length sc,.slice ma b.nodes.length mc,.int .i64 b.hash] 27)) W->W.cell? ⟨w.heap.size,1,none⟩=some (.slice na a.nodes.length nc)/\W.cell? ⟨w.heap.size+1,1,none⟩=some (.slice ma b.nodes.length mc)):=fun W q=>⟨C2 q p1,C2 q q1⟩
 clear ar an br bn R0 R1
 by_cases h0:a.hash=b.hash
 ·have t0:(a.hash == b.hash)=true:=by simp [h0]
  rw [decide_eq_true h0,Bool.true_and] at GE
  clear h0
  by_cases h1:a.roots=b.roots
  ·rw [decide_eq_true h1,Bool.true_and] at GE
   rw [decide_eq_true h1] at E1
   clear h1
   generalize V6 a.nodes b.nodes=r at *
   go_enter Tryz.func20,Tryz.ntmps20
   go_wp2_with fail
   refine E1.mono ?_
   rintro e w1 ⟨rfl,hb1⟩
   obtain ⟨k0,k1⟩:=K.out w1 hb1
   go_wp2_with fail
   refine (E2 w1 (C3 bb hb1)).mono ?_
   rintro e w2 ⟨rfl,hb2⟩
   go_wp2
   go_ret
   exact ⟨J7 GE.out.symm,C3 (C3 bb hb1) hb2⟩
  ·rw [decide_eq_false h1,Bool.false_and] at GE
   rw [decide_eq_false h1] at E1
   clear h1
   go_enter Tryz.func20,Tryz.ntmps20
   go_wp2_with fail
   refine E1.mono ?_
   rintro e w1 ⟨rfl,hb1⟩
   go_wp2
   go_ret
   exact ⟨J7 GE.out.symm,C3 bb hb1⟩
 ·have t0:(a.hash == b.hash)=false:=by simp [h0]
  rw [decide_eq_false h0,Bool.false_and] at GE
  clear h0
  go_enter Tryz.func20,Tryz.ntmps20
  go_wp2
  go_ret
  exact ⟨J7 GE.out.symm,bb⟩
end Go.Proofs.YtboiknllmnfipaaGreatDoor
