
import Derived.WalkKit
import Derived.WalkSpells
import Derived.WalkLawsBesides
import Derived.Deep.RegionWith
import Derived.ProofKit
import Derived.Test.YtboiknllmnfipaaGreatDoorZU7
import Derived.Test.YtboiknllmnfipaaGreatDoorZU6
import Derived.Maps.AppendAt
import Derived.Deep.RegionHeld
import Derived.RangeFuncCalls
import Derived.OrdersIn
import Derived.TacticsIn
/- The scavenger's loops in plain words. -/
namespace Go.Proofs.YtboiknllmnfipaaGreatDoor
open Go.RowKit
def QA (l:List Nat) (s:SV):Prop:=∀ d,d ∈ s.q->∀ k,d+4<=k->k<nx s.W d->I8 l (gw s.W k)=true
def QC (l:List Nat) (s:SV) (i f:Nat):Prop:=∀ j,i<=j->j<s.q.length->∀ k,s.q.getD j 0+4<=k->(j=i->f<=k)->k<nx s.W (s.q.getD j 0)->I8 l (gw s.W k)=true
def lowAs (h:Hp) (s:SV) (f:Nat):Prop:=∀ j,f<=j->j<h.old.toNat->gw s.W j=gw h.words j
theorem P5 {q:List Nat} {i:Nat} (h:i<q.length):q.getD i 0 ∈ q:=by simp [h]
theorem Mvd.in {h:Hp} {l:List Nat} {s s' : SV} (S:SI h l s) (M:Mvd h l s s') {d:Nat} (hd:d ∈ s.q) {k:Nat} (h1:d<=k) (h2:k<nx s.W d):gw s'.W k=gw s.W k:=by
 have q:=S.ar d hd
 have t3:=Oc h
 have:=S.old1
 have:=S.to1
 have:=S.to0
 refine M.out k ?_ ?_ <;> omega
theorem Mvd.nxe {h:Hp} {l:List Nat} {s s' : SV} (S:SI h l s) (M:Mvd h l s s') {d:Nat} (hd:d ∈ s.q):nx s'.W d=nx s.W d:=by
 have e:nx s.W d=d+4+(gw s.W d).toNat:=rfl
 unfold nx
 rw [M.in S hd (Nat.le_refl _) (by omega)]
theorem Mvd.low {h:Hp} {l:List Nat} {s s' : SV} (S:SI h l s) (M:Mvd h l s s') {f:Nat} (L:lowAs h s f):lowAs h s' f:=fun j h1 h2=>by
 have:=S.old0
 have:=S.to0
 have t3:=Oc h
 have o0:s.old<=2000:=S.old1
 rw [M.out j (by omega) (by omega)]
 exact L j h1 h2
theorem Mvd.len {h:Hp} {l:List Nat} {s s' : SV} (M:Mvd h l s s'):s.q.length<=s'.q.length/\∀ j,j<s.q.length->s'.q.getD j 0=s.q.getD j 0:=by
 rcases M.q with e|⟨d,e,_⟩
 ·rw [e]
  exact ⟨Nat.le_refl _,fun _ _=>rfl⟩
 ·rw [e]
  refine ⟨by simp,fun j hj=>?_⟩
  simp only [List.getD_eq_getElem?_getD]
  rw [List.getElem?_append_left hj]
theorem Mvd.qa {h:Hp} {l:List Nat} {s s' : SV} (S:SI h l s) (M:Mvd h l s s') (A:QA l s):QA l s':=by
 intro d hd k k1 k2
 have old:d ∈ s.q->I8 l (gw s'.W k)=true:=fun hd=>by
  rw [M.nxe S hd] at k2
  rw [M.in S hd (by omega) k2]
  exact A d hd k k1 k2
 rcases M.q with e|⟨d',e,F⟩
 ·rw [e] at hd
  exact old hd
 ·rw [e,List.mem_append,List.mem_singleton] at hd
  rcases hd with hd|rfl
  ·exact old hd
  ·exact F k k1 k2
theorem Mvd.qc {h:Hp} {l:List Nat} {s s' : SV} (S:SI h l s) (M:Mvd h l s s') {i f:Nat} (A:QC l s i f):QC l s' i f:=by
 intro j ij jl k k1 kf k2
 by_cases hj:j<s.q.length
 ·rw [M.len.2 j hj] at k1 k2
  have hd:=P5 hj
  rw [M.nxe S hd] at k2
  rw [M.in S hd (by omega) k2]
  exact A j ij hj k k1 kf k2
 ·rcases M.q with e|⟨d',e,F⟩
  ·rw [e] at jl
   exact absurd jl hj
  ·have jj:j=s.q.length:=by
    rw [e] at jl
    simp at jl
    omega
   have ed:s'.q.getD j 0=d':=by
    rw [e,jj]
    simp
   rw [ed] at k1 k2
   exact F k k1 k2
def fd1 (lim:Nat) (t:SV) (f:Nat):SV:={ (mv lim t (gw t.W f)).1 with W:=(mv lim t (gw t.W f)).1.W.set f (mv lim t (gw t.W f)).2 }
def fdS (lim:Nat) (s:SV) (f:Nat):Nat->SV
 | 0=>s
 | k+1=>fd1 lim (fdS lim s f k) (f+k)
theorem Jmp {h:Hp} {l:List Nat} (R:RightAt h l) {s:SV} (S:SI h l s) {f:Nat} {a:Nat} (ha:a ∈ l) (a2:a<2000) (f1:a+4<=f) (f2:f<nx h.words a) (L:lowAs h s f) (A:QA l s) :
  SI h l (fd1 (tb h+300) s f)/\lowAs h (fd1 (tb h+300) s f) (f+1)/\QA l (fd1 (tb h+300) s f):=by
 have ff:=R.2.2.2.2.2.2.2.1 a ha f f1 f2
 have hf:f<h.old.toNat:=by have:=Sz R ha a2;omega
 have e:=L f (Nat.le_refl _) hf
 have m:=Tr R S (x:=gw s.W f) (by rw [e];exact ff)
 have ss:=Jbo R m.1.si (f:=f) (y:=(mv (tb h+300) s (gw s.W f)).2) (.inl ⟨a,ha,a2,f1,f2⟩) m.2
 have L1:=m.1.low S L
 have A1:=m.1.qa S A
 refine ⟨ss.1,fun j h1 h2=>?_,fun d hd k k1 k2=>?_⟩
 ·show gw ((mv (tb h+300) s (gw s.W f)).1.W.set f (mv (tb h+300) s (gw s.W f)).2) j=_
  rw [ss.2.1,if_neg (by omega)]
  exact L1 j (by omega) h2
 ·have hd' : d ∈ (mv (tb h+300) s (gw s.W f)).1.q:=hd
  have k2' : k<nx ((mv (tb h+300) s (gw s.W f)).1.W.set f (mv (tb h+300) s (gw s.W f)).2) d:=k2
  rw [ss.2.2 d hd'] at k2'
  show I8 l (gw ((mv (tb h+300) s (gw s.W f)).1.W.set f (mv (tb h+300) s (gw s.W f)).2) k)=true
  have:=m.1.si.ar d hd'
  have t3:=Oc h
  have ho:h.old.toNat<=2000:=by have:=S.old0;have:=S.old1;omega
  rw [ss.2.1,if_neg (by omega)]
  exact A1 d hd' k k1 k2'
def frB (h:Hp) (a:Int):Bool:=decide (2000<=a/\a<2600) || decide ((H9 h.flip:Int)<=a/\a<(H9 h.flip:Int)+300)
def qd1 (h:Hp) (t:SV) (f:Nat):SV:=if (!decide (gw t.W f % 2=0) && frB h (gw t.W f / 2))=true then fd1 (tb h+300) t f else t
def qdS (h:Hp) (s:SV) (f:Nat):Nat->SV
 | 0=>s
 | k+1=>qd1 h (qdS h s f k) (f+k)
theorem Jkf {h:Hp} {l:List Nat} (R:RightAt h l) {s:SV} (S:SI h l s) {i f:Nat} (hi:i<s.q.length) (h1:s.q.getD i 0+4<=f) (h2:f<nx s.W (s.q.getD i 0)) (C:QC l s i f) :
  SI h l (qd1 h s f)/\QC l (qd1 h s f) i (f+1)/\s.q.length<=(qd1 h s f).q.length/\(qd1 h s f).q.getD i 0=s.q.getD i 0/\nx (qd1 h s f).W (s.q.getD i 0)=nx s.W (s.q.getD i 0):=by
 have ff:=C i (Nat.le_refl _) hi f h1 (fun _=>Nat.le_refl _) h2
 unfold qd1
 by_cases g:(!decide (gw s.W f % 2=0) && frB h (gw s.W f / 2))=true
 ·rw [if_pos g]
  have m:=Tr R S (x:=gw s.W f) ff
  have hd:=P5 hi
  have len:=m.1.len
  have hd1:s.q.getD i 0 ∈ (mv (tb h+300) s (gw s.W f)).1.q:=by
   rw [<- len.2 i hi]
   exact P5 (by omega)
  have n1:=m.1.nxe S hd
  have ss:=Jbo R m.1.si (f:=f) (y:=(mv (tb h+300) s (gw s.W f)).2) (.inr ⟨_,hd1,h1,by rw [n1];exact h2⟩) m.2
  have C1:=m.1.qc S C
  refine ⟨ss.1,fun j ij jl k k1 kf k2=>?_,len.1,len.2 i hi,?_⟩
  ·have jl' : j<(mv (tb h+300) s (gw s.W f)).1.q.length:=jl
   have hj:=P5 jl'
   have k2' : k<nx ((mv (tb h+300) s (gw s.W f)).1.W.set f (mv (tb h+300) s (gw s.W f)).2) ((mv (tb h+300) s (gw s.W f)).1.q.getD j 0):=k2
   rw [ss.2.2 _ hj] at k2'
   have k1' : (mv (tb h+300) s (gw s.W f)).1.q.getD j 0+4<=k:=k1
   show I8 l (gw ((mv (tb h+300) s (gw s.W f)).1.W.set f (mv (tb h+300) s (gw s.W f)).2) k)=true
   have ne:k ≠ f:=by
    intro e
    subst e
    by_cases ji:j=i
    ·have:=kf ji
     omega
    ·have P:=List.pairwise_iff_getElem.1 m.1.si.dis i j (by omega) jl' (by omega)
     have ei:(mv (tb h+300) s (gw s.W k)).1.q[i]'(by omega)=s.q.getD i 0:=by
      rw [<- len.2 i hi]
      simp [List.getD_eq_getElem?_getD,show i<(mv (tb h+300) s (gw s.W k)).1.q.length from by omega]
     have ej:(mv (tb h+300) s (gw s.W k)).1.q[j]'jl' = (mv (tb h+300) s (gw s.W k)).1.q.getD j 0:=by
      simp [List.getD_eq_getElem?_getD,jl']
     rw [ei,ej,n1] at P
     omega
   rw [ss.2.1,if_neg ne]
   exact C1 j ij jl' k k1' (fun e=>by have:=kf e;omega) k2'
  ·show nx ((mv (tb h+300) s (gw s.W f)).1.W.set f (mv (tb h+300) s (gw s.W f)).2) _=_
   rw [ss.2.2 _ hd1,n1]
 ·rw [if_neg g]
  exact ⟨S,fun j ij jl k k1 kf k2=>C j ij jl k k1 (fun e=>by have:=kf e;omega) k2,Nat.le_refl _,rfl,rfl⟩
end Go.Proofs.YtboiknllmnfipaaGreatDoor
/- The scavenger in plain words: the beginning, the loops' states. -/
namespace Go.Proofs.YtboiknllmnfipaaGreatDoor
open Go.RowKit
theorem Sg {W:List Int} {f:Nat}:∀ {n t:Nat},Goes W f t n->∀ j,f<=j->j<t->∃ a,a ∈ its W f n/\a<=j/\j<nx W a
 | 0,t,g,j,h1,h2=>by
  have:=g.1
  have e:it W f 0=f:=rfl
  omega
 | n+1,t,g,j,h1,h2=>by
  have e:it W f (n+1)=nx W (it W f n):=rfl
  rcases Nat.lt_or_ge j (it W f n) with k|k
  ·obtain ⟨a,ha,p,q⟩:=Sg (n:=n) (t:=it W f n) ⟨rfl,fun i hi=>g.2 i (by omega)⟩ j h1 k
   obtain ⟨i,hi,e⟩:=mem_its.1 ha
   exact ⟨a,mem_its.2 ⟨i,by omega,e⟩,p,q⟩
  ·refine ⟨it W f n,mem_its.2 ⟨n,by omega,rfl⟩,k,?_⟩
   have:=g.1
   omega
theorem Jbr {h:Hp} {l:List Nat} (P:PartsAt h l) {j:Nat} (hj:Pg h j):∃ a,a ∈ l/\a<=j/\j<nx h.words a:=by
 obtain ⟨_,r0,r1,r2,n0,n1,n2,g0,g1,g2,rfl⟩:=P
 rcases hj with k|k|k
 ·obtain ⟨a,ha,p,q⟩:=Sg g0 j (Nat.zero_le _) (by omega)
  exact ⟨a,by simp [ha],p,q⟩
 ·obtain ⟨a,ha,p,q⟩:=Sg g1 j k.1 (by omega)
  exact ⟨a,by simp [ha],p,q⟩
 ·obtain ⟨a,ha,p,q⟩:=Sg g2 j k.1 (by omega)
  exact ⟨a,by simp [ha],p,q⟩
theorem Jbn {h:Hp} {l:List Nat} (R:RightAt h l) (j:Nat):Ov (gw h.words j):=by
 by_cases hj:Pg h j
 ·obtain ⟨a,ha,p,q⟩:=Jbr R.1 hj
  obtain ⟨o1,o2,o3⟩:=R.1.obj ha
  by_cases k:a+4<=j
  ·exact Rp (R.2.2.2.2.2.2.2.1 a ha j k q)
  ·have h1:=R.2.2.2.1 a ha
   have h2:=R.2.2.2.2.1.1 a ha
   have h3:=R.2.2.1
   unfold M7 at o3
   rw [Bool.and_eq_true,Bool.and_eq_true] at o3
   have e0:=of_decide_eq_true o3.1
   have e1:=of_decide_eq_true o3.2.1
   have e3:=of_decide_eq_true o3.2.2
   have:j=a ∨ j=a+1 ∨ j=a+2 ∨ j=a+3:=by omega
   unfold Ov
   rcases this with rfl|rfl|rfl|rfl <;> omega
 ·have e:gw h.words j=0:=by
   by_cases k:j<3200
   ·exact R.2.1 j k hj
   ·unfold gw
    have:=R.1.1
    simp [List.getD_eq_getElem?_getD,show h.words[j]?=none from List.getElem?_eq_none (by omega)]
  rw [e]
  unfold Ov
  omega
def went0:List Nat:=List.replicate 3200 0
theorem Zq:went0.length=3200:=List.length_replicate
theorem Vn (a:Nat):went0.getD a 0=0:=by
 unfold went0
 rw [List.getD_eq_getElem?_getD,List.getElem?_replicate]
 split <;> rfl
def sv0 (h:Hp):SV:=⟨h.words,h.old.toNat,tb h,went0,[],false⟩
theorem Jmi {h:Hp} {l:List Nat} (R:RightAt h l):SI h l (sv0 h)/\lowAs h (sv0 h) 0/\QA l (sv0 h):=by
 have o:=R.1.2.1
 refine ⟨⟨R.1.1,Zq,fun _ _=>rfl,Nat.le_refl _,by show h.old.toNat<=2000;omega,Nat.le_refl _,by show tb h<=_;omega,fun a=>?_,fun d hd=>absurd hd List.not_mem_nil,List.Pairwise.nil,by show 4 * 0+h.old.toNat+tb h<=h.old.toNat+tb h;omega,Jbn R,?_,⟨0,⟨rfl,fun i hi=>absurd hi (Nat.not_lt_zero i)⟩,fun d hd=>absurd hd List.not_mem_nil⟩,fun j j1 j2=>?_,fun j j1 j2=>?_⟩,fun _ _ _=>rfl,fun d hd=>absurd hd List.not_mem_nil⟩
 ·show went0.getD a 0<=3200
  rw [Vn]
  omega
 ·obtain ⟨_,r0,r1,r2,n0,n1,n2,g0,g1,g2,e⟩:=R.1
  have hs:2600<=H9 h.flip:=by unfold H9;split <;> omega
  refine ⟨n0,g0,fun a ha a2=>⟨?_,rfl⟩,fun d hd=>absurd hd List.not_mem_nil⟩
  rw [e,List.mem_append,List.mem_append] at ha
  rcases ha with (ha|ha)|ha
  ·exact ha
  ·have:=J5 g1 ha;omega
  ·have:=J5 g2 ha;omega
 ·refine R.2.1 j (by omega) ?_
  have hs:2600<=H9 h.flip:=by unfold H9;split <;> omega
  have j1' : h.old.toNat<=j:=j1
  unfold Pg
  omega
 ·have t3:=Oc h
  have j1' : tb h<=j:=j1
  have r1:=R.1.2.2.1
  have r2:=R.1.2.2.2.1
  refine R.2.1 j (by omega) ?_
  unfold Pg
  omega
def rtS (h:Hp):Nat->SV
 | 0=>sv0 h
 | i+1=>(mv (tb h+300) (rtS h i) (h.roots.getD i 0)).1
def rtY (h:Hp) (i:Nat):Int:=(mv (tb h+300) (rtS h i) (h.roots.getD i 0)).2
def rtL (h:Hp) (i:Nat):List Int:=(List.range i).map (rtY h) ++ h.roots.drop i
theorem Z2 (h:Hp) {i:Nat} (hi:i<=h.roots.length):(rtL h i).length=h.roots.length:=by simp [rtL];omega
theorem Jki (h:Hp) {i:Nat} (hi:i<h.roots.length):(rtL h i).set i (rtY h i)=rtL h (i+1):=by
 unfold rtL
 rw [List.set_append_right _ _ (by simp),List.length_map,List.length_range,Nat.sub_self,List.drop_eq_getElem_cons hi,List.set_cons_zero,List.range_succ,List.map_append]
 simp
def PA (h:Hp) (l:List Nat) (s:SV) (f:Nat):Prop:=SI h l s/\lowAs h s f/\QA l s
theorem Jkj {h:Hp} {l:List Nat} (R:RightAt h l) {i:Nat} (hi:i<h.roots.length) (P:PA h l (rtS h i) 0):PA h l (rtS h (i+1)) 0/\Ov (rtY h i):=by
 have m:=Tr R P.1 (x:=h.roots.getD i 0) (R.2.2.2.2.2.2.1 _ (by simp [hi]))
 exact ⟨⟨m.1.si,m.1.low P.1 P.2.1,m.1.qa P.1 P.2.2⟩,m.2⟩
theorem Jkp {h:Hp} {l:List Nat} (R:RightAt h l) {a:Nat} (ha:a ∈ l) (hy:a<2000) {s:SV} {j:Nat} (hj:(j:Int)<gw h.words a) (P:PA h l (fdS (tb h+300) s (a+4) j) (a+4+j)):PA h l (fdS (tb h+300) s (a+4) (j+1)) (a+4+(j+1))/\Ov (mv (tb h+300) (fdS (tb h+300) s (a+4) j) (gw (fdS (tb h+300) s (a+4) j).W (a+4+j))).2:=by
 have o:=Sz R ha hy
 have lt:=Xj R ha hj
 have ff:=R.2.2.2.2.2.2.2.1 a ha (a+4+j) (by omega) lt.1
 have q:=Jmp R P.1 (f:=a+4+j) ha hy (by omega) lt.1 P.2.1 P.2.2
 have e:=P.2.1 (a+4+j) (Nat.le_refl _) (by omega)
 exact ⟨q,(Tr R P.1 (x:=gw (fdS (tb h+300) s (a+4) j).W (a+4+j)) (by rw [e];exact ff)).2⟩
def kpS (h:Hp):Nat->SV
 | 0=>rtS h h.roots.length
 | i+1=>fdS (tb h+300) (kpS h i) ((h.kept.getD i 0).toNat+4) (gw h.words (h.kept.getD i 0).toNat).toNat
theorem W7 {h:Hp} {l:List Nat} (R:RightAt h l) {x:Int} (hx:x ∈ h.kept):∃ a:Nat,x=a/\a ∈ l/\a<2000:=by
 rw [<- R.2.2.2.2.2.2.2.2] at hx
 unfold N9 at hx
 obtain ⟨a,ha,rfl⟩:=List.mem_map.1 hx
 obtain ⟨h1,h2⟩:=List.mem_filter.1 ha
 rw [Bool.and_eq_true] at h2
 exact ⟨a,rfl,h1,of_decide_eq_true h2.1⟩
theorem Jjk {h:Hp} {l:List Nat} (R:RightAt h l) {i j:Nat} (hj:j<h.kept.length) (hij:i<j):h.kept.getD i 0<h.kept.getD j 0:=by
 have so:=((Th R.1.1).1 R).1.sorted
 have P:h.kept.Pairwise (· < ·):=by
  rw [<- R.2.2.2.2.2.2.2.2]
  unfold N9 ints
  rw [List.pairwise_map]
  exact (so.filter _).imp (fun q=>by omega)
 have:=List.pairwise_iff_getElem.1 P i j (by omega) hj hij
 simpa [List.getD_eq_getElem?_getD,hj,show i<h.kept.length from by omega] using this
theorem lowAs.up {h:Hp} {s:SV} {f g:Nat} (L:lowAs h s f) (k:f<=g):lowAs h s g:=fun j h1 h2=>L j (by omega) h2
def quS (h:Hp):Nat->SV
 | 0=>kpS h h.kept.length
 | i+1=>if i<(quS h i).q.length then qdS h (quS h i) ((quS h i).q.getD i 0+4) (gw (quS h i).W ((quS h i).q.getD i 0)).toNat else quS h i
def PC (h:Hp) (l:List Nat) (s:SV) (i f:Nat):Prop:=SI h l s/\QC l s i f
theorem Jgv {h:Hp} {l:List Nat} {s:SV} {f:Nat} (P:PA h l s f):PC h l s 0 0:=⟨P.1,fun _ _ jl k k1 _ k2=>P.2.2 _ (P5 jl) k k1 k2⟩
theorem Jna {h:Hp} {l:List Nat} {s:SV} {i:Nat} (P:PC h l s i 0):PC h l s i (s.q.getD i 0+4):=⟨P.1,fun j ij jl k k1 _ k2=>P.2 j ij jl k k1 (fun _=>Nat.zero_le _) k2⟩
theorem Jla {h:Hp} {l:List Nat} {s:SV} {i f:Nat} (P:PC h l s i f):PC h l s (i+1) 0:=⟨P.1,fun j ij jl k k1 _ k2=>P.2 j (by omega) jl k k1 (fun e=>by omega) k2⟩
end Go.Proofs.YtboiknllmnfipaaGreatDoor
/- The scavenger in plain words: the heap at its end. -/
namespace Go.Proofs.YtboiknllmnfipaaGreatDoor
open Go.RowKit
def zr (W:List Int) (lo hi:Nat):List Int:=(List.range W.length).map fun j=>if lo<=j/\j<hi then 0 else gw W j
theorem Oo (W:List Int) (lo hi:Nat):(zr W lo hi).length=W.length:=by simp [zr]
theorem Xw (W:List Int) (lo hi j:Nat):gw (zr W lo hi) j=if lo<=j/\j<hi then 0 else gw W j:=by
 by_cases h:j<W.length
 ·unfold zr
  show ((List.range W.length).map _).getD j 0=_
  simp [List.getD_eq_getElem?_getD,h]
 ·have e:gw W j=0:=by
   unfold gw
   simp [List.getD_eq_getElem?_getD,show W[j]?=none from List.getElem?_eq_none (by omega)]
  have e2:gw (zr W lo hi) j=0:=by
   unfold gw
   simp [List.getD_eq_getElem?_getD,show (zr W lo hi)[j]?=none from List.getElem?_eq_none (by rw [Oo];omega)]
  rw [e,e2]
  split <;> rfl
theorem Jal (W:List Int) (lo:Nat):zr W lo lo=W:=by
 refine Ps (Oo _ _ _) fun j _=>?_
 have q:=Xw W lo lo j
 rw [if_neg (by omega)] at q
 exact q
theorem Jhg (W:List Int) (lo i:Nat) (h:lo<=i) (hi:i<W.length):(zr W lo i).set i 0=zr W lo (i+1):=by
 refine Ps (by rw [List.length_set,Oo,Oo]) fun j _=>?_
 show gw ((zr W lo i).set i 0) j=gw (zr W lo (i+1)) j
 rw [Uf _ _ _ _ (by rw [Oo];exact hi),Xw,Xw]
 by_cases e:j=i
 ·rw [if_pos e,if_pos (by omega)]
 ·rw [if_neg e]
  by_cases k:lo<=j/\j<i
  ·rw [if_pos k,if_pos (by omega)]
  ·rw [if_neg k,if_neg (by omega)]
def Pb (h:Hp) (W:List Int):List Int:=zr (zr W 2000 2600) (H9 h.flip) (H9 h.flip+300)
theorem Jkq (h:Hp) (W:List Int) (j:Nat):(frm h j->gw (Pb h W) j=0)/\(¬ frm h j->gw (Pb h W) j=gw W j):=by
 unfold Pb frm
 rw [Xw,Xw]
 constructor
 ·intro k
  split
  ·rfl
  ·rw [if_pos (by omega)]
 ·intro k
  rw [if_neg (by omega),if_neg (by omega)]
def Sl (h:Hp) (s:SV) (rl:List Int) (kp:List Int):Hp:={ words:=Pb h s.W,roots:=rl,old:=s.old,eden:=2000,surv:=s.to,flip:=!h.flip,hash:=h.hash,kept:=kp }
theorem Jfm {h:Hp} {l:List Nat} {s:SV} (S:SI h l s) (rl kp:List Int):∃ m,PartsAt (Sl h s rl kp) m:=by
 obtain ⟨m0,g0,q1,q2⟩:=S.g0
 obtain ⟨m2,g2,q3⟩:=S.g2
 have t3:=Oc h
 have oo:=S.old1
 have t0:=S.to0
 have t1:=S.to1
 have nf:∀ j,¬ frm h j->gw (Pb h s.W) j=gw s.W j:=fun j=>(Jkq h s.W j).2
 have G0:=Og (V:=Pb h s.W) g0 (fun a ha k hk=>nf _ (fun q=>by have:=P7 q;have:=J5 g0 ha;omega))
 have G2:=Og (V:=Pb h s.W) g2 (fun a ha k hk=>nf _ (fun q=>by have:=(P7 q).2;have:=J5 g2 ha;omega))
 have e:H9 (!h.flip)=tb h:=rfl
 refine ⟨_,by show (Pb h s.W).length=3200;unfold Pb;rw [Oo,Oo];exact S.len,⟨by show (0:Int)<=(s.old:Int);omega,by show (s.old:Int)<=2000;omega⟩,⟨Int.le_refl _,by show (2000:Int)<=2600;omega⟩,⟨by show ((H9 (!h.flip):Nat):Int)<=(s.to:Int);rw [e];omega,by show (s.to:Int)<=((H9 (!h.flip):Nat):Int)+300;rw [e];omega⟩,m0,0,m2,?_,⟨rfl,fun i hi=>absurd hi (Nat.not_lt_zero i)⟩,?_,rfl⟩
 ·show Goes (Pb h s.W) 0 ((s.old:Int)).toNat m0
  rw [Int.toNat_natCast]
  exact G0.1
 ·show Goes (Pb h s.W) (H9 (!h.flip)) ((s.to:Int)).toNat m2
  rw [Int.toNat_natCast]
  exact G2.1
theorem Jfk {h:Hp} {l:List Nat} {s:SV} (S:SI h l s) (j:Nat):Ov (gw (Pb h s.W) j):=by
 unfold Pb
 rw [Xw,Xw]
 split
 ·unfold Ov;omega
 split
 ·unfold Ov;omega
 ·exact S.sm j
theorem W9 {x:Int} (h:Ov x) : -4611686018427387904<=x.tdiv 2/\x.tdiv 2<=4611686018427387904:=by
 obtain ⟨h1,h2⟩:=h
 rcases Int.le_total 0 x with k|k
 ·rw [Int.tdiv_eq_ediv_of_nonneg k]
  omega
 ·have e:x.tdiv 2 = -((-x) / 2):=by
   rw [show x = -(-x) from by omega,Int.neg_tdiv,Int.tdiv_eq_ediv_of_nonneg (by omega),Int.neg_neg]
  omega
end Go.Proofs.YtboiknllmnfipaaGreatDoor
/- The compacting collector in plain words: what is reached, where it goes, what is written. -/
namespace Go.Proofs.YtboiknllmnfipaaGreatDoor
open Go.RowKit
theorem Wi {l:List Nat} {x:Int} (hf:I8 l x=true) (ho:¬ x % 2=0):∃ a:Nat,a ∈ l/\x / 2=a/\x.tdiv 2=a/\x=2 * (a:Int)+1:=by
 have k:=Pl hf
 have k2:H8 x=2:=by
  rw [Qh ho] at k ⊢
  split at k
  ·rename_i q;rw [if_pos q]
  ·exact absurd rfl k
 rw [Z1 (decide_eq_true k2),List.contains_iff_mem] at hf
 obtain ⟨a,ha,e⟩:=List.mem_map.1 hf
 refine ⟨a,ha,e.symm,?_,by omega⟩
 rw [Int.tdiv_eq_ediv_of_nonneg (by omega)]
 exact e.symm
def rc1 (W:List Int) (s:List Int × List Bool) (i:Nat):List Int × List Bool :=
 if s.1.getD i 0 % 2=0 then s else if s.2.getD (s.1.getD i 0 / 2).toNat false=true then s
 else (s.1 ++ flds W (s.1.getD i 0 / 2).toNat,s.2.set (s.1.getD i 0 / 2).toNat true)
def seen0:List Bool:=List.replicate 3200 false
theorem Jfb:seen0.length=3200:=List.length_replicate
def rcS (h:Hp):Nat->List Int × List Bool
 | 0=>(h.roots,seen0)
 | i+1=>if i<(rcS h i).1.length then rc1 h.words (rcS h i) i else rcS h i
structure RC (h:Hp) (l:List Nat) (s:List Int × List Bool):Prop where
 fit:∀ x,x ∈ s.1->I8 l x=true
 len:s.2.length=3200
 cnt:s.1.length<=h.roots.length+60 * s.2.count true
theorem Zf:∀ (s:List Bool) (a:Nat),a<s.length->s.getD a false=false->(s.set a true).count true=s.count true+1
 | [],a,h,_=>absurd h (Nat.not_lt_zero a)
 | b::s,0,_,e=>by
  have e' : b=false:=e
  subst e'
  rw [List.set_cons_zero,List.count_cons,List.count_cons]
  simp
 | b::s,a+1,h,e=>by
  have q:=Zf s a (by simpa using h) (by simpa using e)
  rw [List.set_cons_succ,List.count_cons,List.count_cons,q]
  omega
theorem RC.short {h:Hp} {l:List Nat} {s:List Int × List Bool} (R:RightAt h l) (k:RC h l s):s.1.length<=192020:=by
 have a:=R.2.2.2.2.2.1
 have b:s.2.count true<=s.2.length:=List.count_le_length
 have c:=k.cnt
 have d:=k.len
 omega
theorem Jit {h:Hp} {l:List Nat} (R:RightAt h l):RC h l (rcS h 0) :=
 ⟨R.2.2.2.2.2.2.1,Jfb,by show h.roots.length<=_;omega⟩
theorem Xz (W:List Int) (a:Nat):(flds W a).length=(gw W a).toNat:=by simp [flds]
theorem Jji {h:Hp} {l:List Nat} (R:RightAt h l) {s:List Int × List Bool} (k:RC h l s) {i:Nat} (hi:i<s.1.length):RC h l (rc1 h.words s i):=by
 unfold rc1
 split
 ·exact k
 split
 ·exact k
 ·rename_i h1 h2
  have hx:s.1.getD i 0 ∈ s.1:=by simp [hi]
  obtain ⟨a,ha,e,_,_⟩:=Wi (k.fit _ hx) h1
  rw [e,Int.toNat_natCast] at h2 ⊢
  obtain ⟨o1,o2,o3⟩:=R.1.obj ha
  have sz:=L6 o3
  refine ⟨fun x hx=>?_,by show (s.2.set a true).length=3200;rw [List.length_set];exact k.len,?_⟩
  ·have hx' : x ∈ s.1 ++ flds h.words a:=hx
   rw [List.mem_append] at hx'
   rcases hx' with q|q
   ·exact k.fit x q
   ·exact fld_mem.2 (R.2.2.2.2.2.2.2.1 a ha) x q
  ·show (s.1 ++ flds h.words a).length<=h.roots.length+60 * (s.2.set a true).count true
   rw [Zf _ _ (by rw [k.len];omega) (by simpa using h2),List.length_append,Xz]
   have:=k.cnt
   omega
def gt1 (W:List Int) (sn:List Bool) (s:List Nat × Nat) (a:Nat):List Nat × Nat :=
 if sn.getD a false=true then (s.1.set a (s.2+1),s.2+4+(gw W a).toNat) else s
def gtS (W:List Int) (sn:List Bool) (l:List Nat):Nat->List Nat × Nat
 | 0=>(went0,0)
 | i+1=>gt1 W sn (gtS W sn l i) (l.getD i 0)
structure GT (W:List Int) (l:List Nat) (s:List Nat × Nat) (i:Nat):Prop where
 len:s.1.length=3200
 top:s.2<=64 * i
 le:∀ a,s.1.getD a 0<=s.2+1
 at_:∀ j,j<i->s.1.getD (l.getD j 0) 0=0 ∨ s.1.getD (l.getD j 0) 0+3+(gw W (l.getD j 0)).toNat<=s.2
 z:∀ a,(∀ j,j<i->l.getD j 0 ≠ a)->s.1.getD a 0=0
theorem Zz (s:List Nat) (a b x:Nat) (h:a<s.length):(s.set a x).getD b 0=if a=b then x else s.getD b 0:=by
 simp only [List.getD_eq_getElem?_getD,List.getElem?_set]
 by_cases e:a=b
 ·subst e
  rw [if_pos rfl,if_pos h,if_pos rfl]
  rfl
 ·rw [if_neg e,if_neg e]
theorem Zp {l:List Nat} (so:l.Pairwise (· < ·)) {i j:Nat} (hi:i<l.length) (hj:j<i):l.getD j 0 ≠ l.getD i 0:=by
 have P:=List.pairwise_iff_getElem.1 so j i (by omega) hi hj
 simp only [List.getD_eq_getElem?_getD,List.getElem?_eq_getElem hi,List.getElem?_eq_getElem (show j<l.length from by omega),Option.getD_some]
 omega
theorem Jgq (W:List Int) (sn:List Bool) (l:List Nat):GT W l (gtS W sn l 0) 0 :=
 ⟨Zq,Nat.le_refl _,fun a=>by show went0.getD a 0<=_;rw [Vn];omega,fun j hj=>absurd hj (Nat.not_lt_zero j),fun a _=>Vn a⟩
theorem Jjr {h:Hp} {l:List Nat} (R:RightAt h l) (sn:List Bool) {s:List Nat × Nat} {i:Nat} (k:GT h.words l s i) (hi:i<l.length):GT h.words l (gt1 h.words sn s (l.getD i 0)) (i+1):=by
 have so:=((Th R.1.1).1 R).1.sorted
 have ha:l.getD i 0 ∈ l:=P5 hi
 obtain ⟨o1,o2,o3⟩:=R.1.obj ha
 have sz:=L6 o3
 have top:=k.top
 unfold gt1
 split
 ·have S:∀ b,(s.1.set (l.getD i 0) (s.2+1)).getD b 0=if l.getD i 0=b then s.2+1 else s.1.getD b 0:=fun b=>Zz _ _ _ _ (by rw [k.len];omega)
  refine ⟨by show (s.1.set _ _).length=3200;rw [List.length_set];exact k.len,by show s.2+4+_<=_;omega,fun a=>?_,fun j hj=>?_,fun a q=>?_⟩
  ·show (s.1.set _ _).getD a 0<=s.2+4+_+1
   rw [S]
   have:=k.le a
   split <;> omega
  ·show (s.1.set _ _).getD (l.getD j 0) 0=0 ∨ (s.1.set _ _).getD (l.getD j 0) 0+3+_<=s.2+4+_
   rw [S]
   by_cases e:j=i
   ·subst e
    rw [if_pos rfl]
    right
    omega
   ·rw [if_neg (fun e2=>Zp so hi (show j<i from by omega) e2.symm)]
    rcases k.at_ j (by omega) with q|q
    ·exact .inl q
    ·right;omega
  ·show (s.1.set _ _).getD a 0=0
   rw [S,if_neg (q i (by omega))]
   exact k.z a fun j hj=>q j (by omega)
 ·refine ⟨k.len,by omega,k.le,fun j hj=>?_,fun a q=>k.z a fun j hj=>q j (by omega)⟩
  by_cases e:j=i
  ·subst e
   exact .inl (k.z _ fun j' hj'=>Zp so hi hj')
  ·exact k.at_ j (by omega)
def cw (went:List Nat) (x:Int):Int:=if x % 2=0 then x else 2 * (((went.getD (x / 2).toNat 0:Nat):Int) - 1)+1
def cf (W:List Int) (went:List Nat) (V:List Int) (a to:Nat):Nat->List Int
 | 0=>V
 | k+1=>(cf W went V a to k).set (to+k) (if 4<=k then cw went (gw W (a+k)) else gw W (a+k))
def cfS (W:List Int) (went:List Nat) (l:List Nat):Nat->List Int
 | 0=>List.replicate 3200 0
 | i+1=>if went.getD (l.getD i 0) 0=0 then cfS W went l i else cf W went (cfS W went l i) (l.getD i 0) (went.getD (l.getD i 0) 0 - 1) (4+(gw W (l.getD i 0)).toNat)
theorem Jde (W:List Int) (went:List Nat) (V:List Int) (a to:Nat):∀ k,(cf W went V a to k).length=V.length
 | 0=>rfl
 | k+1=>by rw [cf,List.length_set];exact Jde W went V a to k
theorem Ti (W:List Int) (went:List Nat) (l:List Nat):∀ i,(cfS W went l i).length=3200
 | 0=>List.length_replicate
 | i+1=>by
  rw [cfS]
  split
  ·exact Ti W went l i
  ·rw [Jde];exact Ti W went l i
def coH (h:Hp) (l went:List Nat) (e:Nat):Hp:={ words:=cfS h.words went l l.length,roots:=h.roots.map (cw went),old:=e,eden:=2000,surv:=2600,flip:=false,hash:=h.hash,kept:=[] }
end Go.Proofs.YtboiknllmnfipaaGreatDoor
/- Appending numbers to a row of the call's own, and where the new row lies. -/
namespace Go.Proofs.YtboiknllmnfipaaGreatDoor
open Go.RowKit
theorem Sj (ty:TypeId) (g cap n sc:Nat) (sp:Option Addr) (hle:n<=cap) (w:World) :
  (Builtin.append_ #[24,24] ty #[.slice (some ⟨g,0,none⟩) n cap,.slice sp 0 sc]).run Tryz.prog w=.ok (.slice (some ⟨g,0,none⟩) n cap) w:=by
 obtain ⟨i,hi,hzz⟩:=Option.map_eq_some_iff.1 Tryz.infoI
 have hu:Tryz.prog.underlying 24=some (.slice 2):=Tryz.underlying24
 have hl:∀ (x:Addr),(loadCells x 0).run Tryz.prog w=.ok #[] w:=fun x=>by simpa using run_loadCells_list (P:=Tryz.prog) w x [] (by simp)
 cases sp <;> simp [Builtin.append_,run_underlying hu,Builtin.lenOf,Builtin.firstCells,sizeOf,typeInfo,hi,hle,hl,storeCells]
theorem Tc {ops:Array Oper} {rest:List Oper} {o:Oper} {a:Act} {Q:Exit->Act->World->Prop} (w:World) (hgd:o.guard=none) (s x:Operand)
  (ho:o.op=.call { callee:=.builtin .append,args:=#[s,x],argTypes:=#[24,24] })
  (g cap n:Nat) (m:List Int) (hs:a.eval s=.slice (some ⟨g,0,none⟩) n cap) (hm:n=m.length) (hR:RI w g m cap) (hmm:m.length<=1000000000000) (hcap:cap<=maxLen)
  (sp:Option Addr) (sc k:Nat) (l:List Int) (hx:a.eval x=.slice sp k sc) (hk:k=l.length) (hI:IR w (.slice sp k sc) l) (hl:l.length<=1000000000000)
  (h:∀ g' c' w',RI w' g' (m ++ l) c' -> w.grownBy w' (some g)->(g' = g ∨ (g' = w.heap.size/\w.heap.size<w'.heap.size))->c' <= maxLen->wpList Tryz.prog ops Q rest (a.put o.dst (.slice (some ⟨g',0,none⟩) (n+k) c')) w') :
  wpList Tryz.prog ops Q (o::rest) a w:=by
 subst hm
 subst hk
 by_cases h0:l.length=0
 ·obtain rfl:l=[]:=List.eq_nil_of_length_eq_zero h0
  refine wpList_plain hgd fun K hK=>?_
  have hrun:=Sj o.type g cap m.length sc sp hR.le w
  unfold Oper.wp
  simp only [List.length_nil] at hx
  simp [execOp,ho,resolve,invoke,builtin,hs,hx,hrun,Result.andThen]
  exact hK _ _ (h g cap w (by rw [List.append_nil];exact hR) ⟨rfl,rfl,rfl,Nat.le_refl _,fun _ _ _=>rfl⟩ (.inl rfl) hcap)
 ·obtain ⟨i,hi,hzz⟩:=Option.map_eq_some_iff.1 Tryz.infoI
  simp only [Prod.mk.injEq] at hzz
  obtain ⟨hz,hsz,hby⟩:=hzz
  obtain ⟨ao,cp,e1,_,hc⟩:=hI
  simp only [Value.slice.injEq,true_and] at e1
  obtain ⟨rfl,rfl⟩:=e1
  obtain ⟨b,q,rfl,_⟩:=hc 0 (by omega)
  have hle:=hR.le
  have hlt:=hR.lt
  refine wpList_append_own_at w hgd s x 24 ho 0 2 i _ 1 8 Tryz.underlying24 hi hz hsz hby rfl (by omega) _ m.length (icells m) hs (hR.owns (Nat.zero_le _) hcap) ⟨b,q,none⟩ l.length sc (icells l) hx (by simp [icells]) (fun j u hj=>?_) (fun u hu=>?_) (by unfold maxLen;omega) (by omega) (Nat.zero_le _) (fun v' w' h1 h2 h3 h4=>?_)
  ·have hj' : j<l.length:=by
    rcases Nat.lt_or_ge j l.length with k|k
    ·exact k
    ·rw [List.getElem?_eq_none (by rw [Od];exact k)] at hj;cases hj
   obtain ⟨b',q',e2,hcell⟩:=hc j hj'
   simp only [Option.some.injEq,Addr.mk.injEq,and_true] at e2
   obtain ⟨rfl,rfl⟩:=e2
   have hu:u=.int .i64 (l.getD j 0):=by
    simp [icells,hj'] at hj
    rw [<- hj]
    simp [hj']
   rw [hu,← hcell]
   unfold Addr.add
   split
   ·subst j;rfl
   ·simp
  ·obtain ⟨z,_,rfl⟩:=List.mem_map.1 hu
   rfl
  ·have e3:icells m ++ icells l=icells (m ++ l):=by simp [icells]
   have e4:m.length+l.length=(m ++ l).length:=by simp
   rw [e3,e4] at h1
   obtain ⟨g',c',rfl⟩:∃ g' c',v' = .slice (some ⟨g',0,none⟩) (m ++ l).length c':=by
    rcases h1.2 with ⟨_,e⟩|⟨g',c',cur,e,_⟩
    ·rw [<- e4] at e;omega
    ·exact ⟨g',c',e⟩
   have hn:=(RI.of_owns h1).1
   have hw:=h g' c' w' hn h2 (by
    rcases h4 with e|e
    ·left;simpa [Value.ownBlock] using e
    ·right
     have e' : g' = w.heap.size:=by simpa [Value.ownBlock] using e
     exact ⟨e',by have:=hn.lt;omega⟩) (RI.of_owns h1).2.2
   rw [e4] at hw
   exact hw
theorem Jcf (w:World):RI (w.alloc (.cells #[] 2)) w.heap.size [] 0:=by
 refine ⟨fun _=>undef,?_,Nat.le_refl _,fun i hi=>absurd hi (Nat.not_lt_zero i)⟩
 have q:=World.rowIs_alloc w #[] 2 (fun _=>undef) (fun i hi=>absurd hi (Nat.not_lt_zero i))
 exact q
end Go.Proofs.YtboiknllmnfipaaGreatDoor
/- A heap is copied by the model: what is known on the way. -/
namespace Go.Proofs.YtboiknllmnfipaaGreatDoor
open Go.RowKit
theorem Sw {w:World} {n:Nat} (h:w.heap.size=n):RI (w.alloc (.cells #[] 2)) n [] 0:=by
 subst h
 exact Jcf w
theorem Disk.cell_set {w:World} {b t n i:Nat} {f:Nat->Value} (h:w.rowIs b t n f) (hi:i<n) (u:Value):(w.setCell ⟨b,i,none⟩ u).cell? ⟨b,i,none⟩=some u:=by
 rw [(h.set i u).cell hi,if_pos rfl]
structure CS (w W:World) (u0 u1 u2 u3 u4 u5 u6 u7:Value):Prop where
 bel:Below w.heap.size w W
 lt:w.heap.size+1<W.heap.size
 c0:W.cell? ⟨w.heap.size,0,none⟩=some u0
 c1:W.cell? ⟨w.heap.size,1,none⟩=some u1
 c2:W.cell? ⟨w.heap.size,2,none⟩=some u2
 c3:W.cell? ⟨w.heap.size,3,none⟩=some u3
 c4:W.cell? ⟨w.heap.size,4,none⟩=some u4
 c5:W.cell? ⟨w.heap.size,5,none⟩=some u5
 c6:W.cell? ⟨w.heap.size,6,none⟩=some u6
 c7:W.cell? ⟨w.heap.size,7,none⟩=some u7
 box:∃ f,W.rowIs w.heap.size 30 8 f
 res:∃ f,W.rowIs (w.heap.size+1) 30 8 f
theorem CS.set0 {w W:World} {u0 u1 u2 u3 u4 u5 u6 u7:Value} (h:CS w W u0 u1 u2 u3 u4 u5 u6 u7) (u:Value):CS w (W.setCell ⟨w.heap.size,0,none⟩ u) u u1 u2 u3 u4 u5 u6 u7:=by
 obtain ⟨f,F⟩:=h.box
 obtain ⟨g,G⟩:=h.res
 have e:∀ o v,o ≠ 0->W.cell? ⟨w.heap.size,o,none⟩=some v->(W.setCell ⟨w.heap.size,0,none⟩ u).cell? ⟨w.heap.size,o,none⟩=some v:=fun o v ho q=>by
  rw [World.cell?_setCell_other]
  ·exact q
  ·intro k
   simp at k <;> omega
 exact ⟨h.bel.setCell (p:=⟨w.heap.size,0,none⟩) (Nat.le_refl _) _,by have:=h.lt;simpa using this,Disk.cell_set F (by omega) u,e _ _ (by omega) h.c1,e _ _ (by omega) h.c2,e _ _ (by omega) h.c3,e _ _ (by omega) h.c4,e _ _ (by omega) h.c5,e _ _ (by omega) h.c6,e _ _ (by omega) h.c7,⟨_,F.set 0 u⟩,⟨_,G.setOther (a:=⟨w.heap.size,0,none⟩) (Nat.succ_ne_self _) u⟩⟩
theorem CS.set1 {w W:World} {u0 u1 u2 u3 u4 u5 u6 u7:Value} (h:CS w W u0 u1 u2 u3 u4 u5 u6 u7) (u:Value):CS w (W.setCell ⟨w.heap.size,1,none⟩ u) u0 u u2 u3 u4 u5 u6 u7:=by
 obtain ⟨f,F⟩:=h.box
 obtain ⟨g,G⟩:=h.res
 have e:∀ o v,o ≠ 1->W.cell? ⟨w.heap.size,o,none⟩=some v->(W.setCell ⟨w.heap.size,1,none⟩ u).cell? ⟨w.heap.size,o,none⟩=some v:=fun o v ho q=>by
  rw [World.cell?_setCell_other]
  ·exact q
  ·intro k
   simp at k <;> omega
 exact ⟨h.bel.setCell (p:=⟨w.heap.size,1,none⟩) (Nat.le_refl _) _,by have:=h.lt;simpa using this,e _ _ (by omega) h.c0,Disk.cell_set F (by omega) u,e _ _ (by omega) h.c2,e _ _ (by omega) h.c3,e _ _ (by omega) h.c4,e _ _ (by omega) h.c5,e _ _ (by omega) h.c6,e _ _ (by omega) h.c7,⟨_,F.set 1 u⟩,⟨_,G.setOther (a:=⟨w.heap.size,1,none⟩) (Nat.succ_ne_self _) u⟩⟩
theorem CS.later {w W W' : World} {u0 u1 u2 u3 u4 u5 u6 u7:Value} (h:CS w W u0 u1 u2 u3 u4 u5 u6 u7) (hb:Below W.heap.size W W'):CS w W' u0 u1 u2 u3 u4 u5 u6 u7:=by
 obtain ⟨f,F⟩:=h.box
 obtain ⟨g,G⟩:=h.res
 exact ⟨h.bel.trans (hb.mono h.bel.size),by have:=h.lt;have:=hb.size;omega,C2 hb h.c0,C2 hb h.c1,C2 hb h.c2,C2 hb h.c3,C2 hb h.c4,C2 hb h.c5,C2 hb h.c6,C2 hb h.c7,⟨_,F.of_block (hb.block _ F.lt)⟩,⟨_,G.of_block (hb.block _ G.lt)⟩⟩
theorem CS.grown {w W W' : World} {g:Nat} {u0 u1 u2 u3 u4 u5 u6 u7:Value} (h:CS w W u0 u1 u2 u3 u4 u5 u6 u7) (hg:W.grownBy W' (some g)) (hr:w.heap.size+1<g):CS w W' u0 u1 u2 u3 u4 u5 u6 u7:=by
 obtain ⟨f,F⟩:=h.box
 obtain ⟨k,G⟩:=h.res
 have n1:some w.heap.size ≠ some g:=fun e=>by cases e;omega
 have n2:some (w.heap.size+1) ≠ some g:=fun e=>by injection e;omega
 exact ⟨Below.grown h.bel hg h.bel.size (fun k hk=>by cases hk;omega),by have:=h.lt;have:=hg.size;omega,hg.cell h.c0 n1,hg.cell h.c1 n1,hg.cell h.c2 n1,hg.cell h.c3 n1,hg.cell h.c4 n1,hg.cell h.c5 n1,hg.cell h.c6 n1,hg.cell h.c7 n1,⟨_,F.of_block (hg.block _ F.lt n1)⟩,⟨_,G.of_block (hg.block _ G.lt n2)⟩⟩
theorem CS.new (w:World) (u0 u1 u2 u3 u4 u5 u6 u7:Value):CS w ((w.alloc (.cells #[u0,u1,u2,u3,u4,u5,u6,u7] 30)).alloc (.cells #[.slice none 0 0,.slice none 0 0,.int .i64 0,.int .i64 0,.int .i64 0,.bool false,.int .i64 0,.slice none 0 0] 30)) u0 u1 u2 u3 u4 u5 u6 u7:=by
 have q:=I0 w #[u0,u1,u2,u3,u4,u5,u6,u7] 30
 have q':=I0 (w.alloc (.cells #[u0,u1,u2,u3,u4,u5,u6,u7] 30)) #[.slice none 0 0,.slice none 0 0,.int .i64 0,.int .i64 0,.int .i64 0,.bool false,.int .i64 0,.slice none 0 0] 30
 rw [World.size_alloc] at q'
 have b:=C5 (w.alloc (.cells #[u0,u1,u2,u3,u4,u5,u6,u7] 30)) (.cells #[.slice none 0 0,.slice none 0 0,.int .i64 0,.int .i64 0,.int .i64 0,.bool false,.int .i64 0,.slice none 0 0] 30)
 exact ⟨C3 (C5 _ _) b,by simp,C2 b (E6 w _ _ _ rfl 0 _ rfl),C2 b (E6 w _ _ _ rfl 1 _ rfl),C2 b (E6 w _ _ _ rfl 2 _ rfl),C2 b (E6 w _ _ _ rfl 3 _ rfl),C2 b (E6 w _ _ _ rfl 4 _ rfl),C2 b (E6 w _ _ _ rfl 5 _ rfl),C2 b (E6 w _ _ _ rfl 6 _ rfl),C2 b (E6 w _ _ _ rfl 7 _ rfl),⟨_,q.of_block (b.block _ q.lt)⟩,⟨_,q'⟩⟩
set_option maxRecDepth 100000 in
set_option maxHeartbeats 3200000 in
theorem Qx (v:Value) (h:Hp) (w:World) (hv:HR w v h) (hwo:h.words.length<=1000000000000) (hro:h.roots.length<=1000000000000) (hke:h.kept.length<=1000000000000) :
  Calls Tryz.prog 87 #[v] w fun x w'=>(∃ g1 d1 g2 d2 g3 d3,x=.returned (.agg #[.slice (some ⟨g1,0,none⟩) h.words.length d1,.slice (some ⟨g2,0,none⟩) h.roots.length d2,.int .i64 h.old,.int .i64 h.eden,.int .i64 h.surv,.bool h.flip,.int .i64 h.hash,.slice (some ⟨g3,0,none⟩) h.kept.length d3])/\(RI w' g1 h.words d1/\RI w' g2 h.roots d2/\RI w' g3 h.kept d3)/\(w.heap.size<=g1/\g1<g2/\g2<g3)/\(d1<=maxLen/\d2<=maxLen/\d3<=maxLen))/\Below w.heap.size w w':=by
 obtain ⟨v1,v2,v3,rfl,i1,i2,i3⟩:=id hv
 obtain ⟨a1,c1,rfl,-⟩:=IRs i1
 obtain ⟨a2,c2,rfl,-⟩:=IRs i2
 obtain ⟨a3,c3,rfl,-⟩:=IRs i3
 have S0:=(CS.new w (.slice a1 h.words.length c1) (.slice a2 h.roots.length c2) (.int .i64 h.old) (.int .i64 h.eden) (.int .i64 h.surv) (.bool h.flip) (.int .i64 h.hash) (.slice a3 h.kept.length c3)).later (C5 _ (.cells #[] 2))
 have E1:RI (((w.alloc (.cells #[.slice a1 h.words.length c1,.slice a2 h.roots.length c2,.int .i64 h.old,.int .i64 h.eden,.int .i64 h.surv,.bool h.flip,.int .i64 h.hash,.slice a3 h.kept.length c3] 30)).alloc (.cells #[.slice none 0 0,.slice none 0 0,.int .i64 0,.int .i64 0,.int .i64 0,.bool false,.int .i64 0,.slice none 0 0] 30)).alloc (.cells #[] 2)) (w.heap.size+1+1) [] 0:=Sw (by simp)
 have I1:=i1.later S0.bel
 have s0:(((w.alloc (.cells #[.slice a1 h.words.length c1,.slice a2 h.roots.length c2,.int .i64 h.old,.int .i64 h.eden,.int .i64 h.surv,.bool h.flip,.int .i64 h.hash,.slice a3 h.kept.length c3] 30)).alloc (.cells #[.slice none 0 0,.slice none 0 0,.int .i64 0,.int .i64 0,.int .i64 0,.bool false,.int .i64 0,.slice none 0 0] 30)).alloc (.cells #[] 2)).heap.size=w.heap.size+1+1+1:=by simp
 clear hv
 go_enter Tryz.func87,Tryz.ntmps87
 go_wp2_with (first
  | (at_builtin;refine Tc _ rfl _ _ rfl (w.heap.size+1+1) 0 0 [] rfl rfl E1 (Nat.zero_le _) (Nat.zero_le _) a1 c1 h.words.length h.words rfl rfl I1 hwo ?_;intro g1 d1 w1 P1 G1 wh1 mx1;rw [List.nil_append] at P1;rw [s0] at wh1;have lg1:=P1.lt;have sz1:=G1.size;rw [s0] at sz1;have ng1:w.heap.size+1<g1:=(by rcases wh1 with e|e <;> omega);have S1:=S0.grown G1 (by omega);have S1':=(S1.set0 (.slice (some ⟨g1,0,none⟩) h.words.length d1)).later (C5 _ (.cells #[] 2));have E2:RI ((w1.setCell ⟨w.heap.size,0,none⟩ (.slice (some ⟨g1,0,none⟩) h.words.length d1)).alloc (.cells #[] 2)) w1.heap.size [] 0:=Sw (by simp);have I2:=i2.later S1'.bel;have s1:((w1.setCell ⟨w.heap.size,0,none⟩ (.slice (some ⟨g1,0,none⟩) h.words.length d1)).alloc (.cells #[] 2)).heap.size=w1.heap.size+1:=(by simp);have P1a:=(P1.setOther (b:=w.heap.size) (i:=0) (by omega) (.slice (some ⟨g1,0,none⟩) h.words.length d1)).later (C5 _ (.cells #[] 2));clear P1 G1 wh1 I1 E1 S0;obtain ⟨f1,F1⟩:=S1.box;have fz1:=fun i=>F1.frozen i;have x0:=S1.c0;have x1:=S1.c1;have lw1:w.heap.size<w1.heap.size:=(by omega);clear F1 S1)
  | (at_builtin;refine Tc _ rfl _ _ rfl w1.heap.size 0 0 [] rfl rfl E2 (Nat.zero_le _) (Nat.zero_le _) a2 c2 h.roots.length h.roots rfl rfl I2 hro ?_;intro g2 d2 w2 P2 G2 wh2 mx2;rw [List.nil_append] at P2;rw [s1] at wh2;have lg2:=P2.lt;have sz2:=G2.size;rw [s1] at sz2;have ng2:w1.heap.size<=g2:=(by rcases wh2 with e|e <;> omega);have S2:=S1'.grown G2 (by omega);have S2':=(S2.set1 (.slice (some ⟨g2,0,none⟩) h.roots.length d2)).later (C5 _ (.cells #[] 2));have E3:RI ((w2.setCell ⟨w.heap.size,1,none⟩ (.slice (some ⟨g2,0,none⟩) h.roots.length d2)).alloc (.cells #[] 2)) w2.heap.size [] 0:=Sw (by simp);have I3:=i3.later S2'.bel;have s2:((w2.setCell ⟨w.heap.size,1,none⟩ (.slice (some ⟨g2,0,none⟩) h.roots.length d2)).alloc (.cells #[] 2)).heap.size=w2.heap.size+1:=(by simp);have P1b:=((P1a.grown G2 (by simp <;> omega)).setOther (b:=w.heap.size) (i:=1) (by omega) (.slice (some ⟨g2,0,none⟩) h.roots.length d2)).later (C5 _ (.cells #[] 2));have P2a:=(P2.setOther (b:=w.heap.size) (i:=1) (by omega) (.slice (some ⟨g2,0,none⟩) h.roots.length d2)).later (C5 _ (.cells #[] 2));clear P1a P2 G2 wh2 I2 E2 S1' x0 x1 fz1;obtain ⟨f2,F2⟩:=S2.box;have fz2:=fun i=>F2.frozen i;have x1:=S2.c1;have x7:=S2.c7;have lw2:w.heap.size<w2.heap.size:=(by omega);clear F2 S2)
  | (at_builtin;refine Tc _ rfl _ _ rfl w2.heap.size 0 0 [] rfl rfl E3 (Nat.zero_le _) (Nat.zero_le _) a3 c3 h.kept.length h.kept rfl rfl I3 hke ?_;intro g3 d3 w3 P3 G3 wh3 mx3;rw [List.nil_append] at P3;rw [s2] at wh3;have lg3:=P3.lt;have sz3:=G3.size;rw [s2] at sz3;have ng3:w2.heap.size<=g3:=(by rcases wh3 with e|e <;> omega);have S3:=S2'.grown G3 (by omega);have P1c:=P1b.grown G3 (by simp <;> omega);have P2b:=P2a.grown G3 (by simp <;> omega);clear P1b P2a G3 wh3 I3 E3 S2' x1 x7 fz2;obtain ⟨f3,F3⟩:=S3.box;have fz3:=fun i=>F3.frozen i;obtain ⟨k3,K3⟩:=S3.res;have fr3:=fun i=>K3.frozen i;have r0:=K3.cell (i:=0) (by omega);have o0:=S3.c0;have r1:=K3.cell (i:=1) (by omega);have o1:=S3.c1;have r2:=K3.cell (i:=2) (by omega);have o2:=S3.c2;have r3:=K3.cell (i:=3) (by omega);have o3:=S3.c3;have r4:=K3.cell (i:=4) (by omega);have o4:=S3.c4;have r5:=K3.cell (i:=5) (by omega);have o5:=S3.c5;have r6:=K3.cell (i:=6) (by omega);have o6:=S3.c6;have r7:=K3.cell (i:=7) (by omega);have o7:=S3.c7;have lw3:w.heap.size<w3.heap.size:=(by omega);have lw3' : w.heap.size+1<w3.heap.size:=(by omega);have bG3:=S3.bel;clear F3 K3 S3))
 have T1:RI (((((((((w3.setCell ⟨w.heap.size,7,none⟩ (.slice (some ⟨g3,0,none⟩) h.kept.length d3)).setCell ⟨w.heap.size+1,0,none⟩ (.slice (some ⟨g1,0,none⟩) h.words.length d1)).setCell ⟨w.heap.size+1,1,none⟩ (.slice (some ⟨g2,0,none⟩) h.roots.length d2)).setCell ⟨w.heap.size+1,2,none⟩ (.int .i64 h.old)).setCell ⟨w.heap.size+1,3,none⟩ (.int .i64 h.eden)).setCell ⟨w.heap.size+1,4,none⟩ (.int .i64 h.surv)).setCell ⟨w.heap.size+1,5,none⟩ (.bool h.flip)).setCell ⟨w.heap.size+1,6,none⟩ (.int .i64 h.hash)).setCell ⟨w.heap.size+1,7,none⟩ (.slice (some ⟨g3,0,none⟩) h.kept.length d3)) g1 h.words d1:=(RI.setOther (RI.setOther (RI.setOther (RI.setOther (RI.setOther (RI.setOther (RI.setOther (RI.setOther (P1c.setOther (b:=w.heap.size) (i:=7) (by omega) (.slice (some ⟨g3,0,none⟩) h.kept.length d3)) (by omega) _) (by omega) _) (by omega) _) (by omega) _) (by omega) _) (by omega) _) (by omega) _) (by omega) _)
 have T2:RI (((((((((w3.setCell ⟨w.heap.size,7,none⟩ (.slice (some ⟨g3,0,none⟩) h.kept.length d3)).setCell ⟨w.heap.size+1,0,none⟩ (.slice (some ⟨g1,0,none⟩) h.words.length d1)).setCell ⟨w.heap.size+1,1,none⟩ (.slice (some ⟨g2,0,none⟩) h.roots.length d2)).setCell ⟨w.heap.size+1,2,none⟩ (.int .i64 h.old)).setCell ⟨w.heap.size+1,3,none⟩ (.int .i64 h.eden)).setCell ⟨w.heap.size+1,4,none⟩ (.int .i64 h.surv)).setCell ⟨w.heap.size+1,5,none⟩ (.bool h.flip)).setCell ⟨w.heap.size+1,6,none⟩ (.int .i64 h.hash)).setCell ⟨w.heap.size+1,7,none⟩ (.slice (some ⟨g3,0,none⟩) h.kept.length d3)) g2 h.roots d2:=(RI.setOther (RI.setOther (RI.setOther (RI.setOther (RI.setOther (RI.setOther (RI.setOther (RI.setOther (P2b.setOther (b:=w.heap.size) (i:=7) (by omega) (.slice (some ⟨g3,0,none⟩) h.kept.length d3)) (by omega) _) (by omega) _) (by omega) _) (by omega) _) (by omega) _) (by omega) _) (by omega) _) (by omega) _)
 have T3:RI (((((((((w3.setCell ⟨w.heap.size,7,none⟩ (.slice (some ⟨g3,0,none⟩) h.kept.length d3)).setCell ⟨w.heap.size+1,0,none⟩ (.slice (some ⟨g1,0,none⟩) h.words.length d1)).setCell ⟨w.heap.size+1,1,none⟩ (.slice (some ⟨g2,0,none⟩) h.roots.length d2)).setCell ⟨w.heap.size+1,2,none⟩ (.int .i64 h.old)).setCell ⟨w.heap.size+1,3,none⟩ (.int .i64 h.eden)).setCell ⟨w.heap.size+1,4,none⟩ (.int .i64 h.surv)).setCell ⟨w.heap.size+1,5,none⟩ (.bool h.flip)).setCell ⟨w.heap.size+1,6,none⟩ (.int .i64 h.hash)).setCell ⟨w.heap.size+1,7,none⟩ (.slice (some ⟨g3,0,none⟩) h.kept.length d3)) g3 h.kept d3:=(RI.setOther (RI.setOther (RI.setOther (RI.setOther (RI.setOther (RI.setOther (RI.setOther (RI.setOther (P3.setOther (b:=w.heap.size) (i:=7) (by omega) (.slice (some ⟨g3,0,none⟩) h.kept.length d3)) (by omega) _) (by omega) _) (by omega) _) (by omega) _) (by omega) _) (by omega) _) (by omega) _) (by omega) _)
 have B9:Below w.heap.size w (((((((((w3.setCell ⟨w.heap.size,7,none⟩ (.slice (some ⟨g3,0,none⟩) h.kept.length d3)).setCell ⟨w.heap.size+1,0,none⟩ (.slice (some ⟨g1,0,none⟩) h.words.length d1)).setCell ⟨w.heap.size+1,1,none⟩ (.slice (some ⟨g2,0,none⟩) h.roots.length d2)).setCell ⟨w.heap.size+1,2,none⟩ (.int .i64 h.old)).setCell ⟨w.heap.size+1,3,none⟩ (.int .i64 h.eden)).setCell ⟨w.heap.size+1,4,none⟩ (.int .i64 h.surv)).setCell ⟨w.heap.size+1,5,none⟩ (.bool h.flip)).setCell ⟨w.heap.size+1,6,none⟩ (.int .i64 h.hash)).setCell ⟨w.heap.size+1,7,none⟩ (.slice (some ⟨g3,0,none⟩) h.kept.length d3)):=by
  repeat (refine Below.setCell ?_ (p:=⟨w.heap.size+1,_,none⟩) (Nat.le_succ _) _)
  exact bG3.setCell (p:=⟨w.heap.size,7,none⟩) (Nat.le_refl _) _
 exact bodyPost_ret (v:=.agg #[.slice (some ⟨g1,0,none⟩) h.words.length d1,.slice (some ⟨g2,0,none⟩) h.roots.length d2,.int .i64 h.old,.int .i64 h.eden,.int .i64 h.surv,.bool h.flip,.int .i64 h.hash,.slice (some ⟨g3,0,none⟩) h.kept.length d3]) (by simp [results,Tryz.results87,go_sem,r0,r1,r2,r3,r4,r5,r6,r7]) rfl ⟨⟨g1,d1,g2,d2,g3,d3,rfl,⟨T1,T2,T3⟩,⟨by omega,by omega,by omega⟩,mx1,mx2,mx3⟩,B9⟩
end Go.Proofs.YtboiknllmnfipaaGreatDoor
/- A drawing region in a round of a range over a function, by the laws of a region outside of one: where no operation defers. -/
namespace Go.Proofs.YtboiknllmnfipaaGreatDoor.Disk
open Go
def Ends (R:Act->World->Prop):Exit->Act->World->Prop
 | .normal,a,w=>R a w
 | _,_,_=>False
theorem Xd {R:Act->World->Prop} {dst:Option Tmp} {v:Value}:∀ (c:List PanicEntry) (a:Act) (w:World),Ends R (.panic c) (a.put dst v) w->Ends R (.panic c) a w:=fun _ _ _ h=>h
theorem wpOp_of {P:Program} {ops:Array Oper} {Q:Exit->Act->World->Prop} {i:Nat} {oi:Oper} {K:Act->World->Prop} {a:Act} {w:World} (hi:ops[i]?=some oi) (hw:Region.wanted oi (yielded ops a.tmps)=true) (h:oi.wp P a w K Q):wpOp P ops Q i K a w:=by
 unfold wpOp
 simp only [hi]
 rw [if_pos hw]
 exact .inl h
end Go.Proofs.YtboiknllmnfipaaGreatDoor.Disk
/- Regions that draw their order and end with a store (x = append(x, ..)): a condition on the world that holds till the last operation, which waits for all that is taken first. -/
namespace Go.Proofs.YtboiknllmnfipaaGreatDoor.Disk
open Go
section
variable {P : Program} {md : Region.Mode} {ops : Array Oper} {Q : Exit -> Act -> World -> Prop} {R : Act -> World -> Prop} {S : World -> Prop} {z : Nat}
def wpAnyZ (P:Program) (md:Region.Mode) (ops:Array Oper) (Q:Exit->Act->World->Prop) (z:Nat) (S:World->Prop):Nat->Array Bool->Act->World->Prop
 | 0,listed,a,w=>Region.ready md ops listed=[]/\Q .normal a w
 | fuel+1,listed,a,w =>
  (Region.ready md ops listed=[]->Q .normal a w) ∧
  ∀ i ∈ Region.ready md ops listed,wpOp P ops Q i (fun a' w'=>(i=z ∨ S w')/\wpAnyZ P md ops Q z S fuel (listed.setIfInBounds i true) a' w') a w
theorem Yp:∀ (fuel:Nat) (listed:Array Bool) (a:Act) (w:World),wpAnyZ P md ops Q z S fuel listed a w->wpAny P md ops Q fuel listed a w
 | 0,_,_,_,h=>h
 | fuel+1,_,_,_,h=>⟨h.1,fun i hi=>wpOp_mono (fun a' w' h'=>Yp fuel _ a' w' h'.2) (h.2 i hi)⟩
def Uc (md:Region.Mode) (ops:Array Oper) (z i:Nat):Bool:=match ops[z]? with|none=>true|some oz=>oz.after.toList.any fun e=>Region.binds md e && e.on == i
theorem Jnc {listed:Array Bool} {i j:Nat} (hz:Uc md ops z i=true) (hi:listed.getD i true=false) (hj:j ∈ Region.ready md ops listed):j ≠ z:=by
 rintro rfl
 obtain ⟨_,o,ho,hall⟩:=mem_ready.1 hj
 unfold Uc at hz
 rw [ho] at hz
 obtain ⟨e,he,hb⟩:=List.any_eq_true.1 hz
 simp only [Bool.and_eq_true,beq_iff_eq] at hb
 have h1:=hall e (by simpa using he) hb.1
 rw [hb.2] at h1
 rcases Nat.lt_or_ge i listed.size with h' | h'
 ·simp [h'] at hi h1;rw [hi] at h1;cases h1
 ·simp [Array.getElem?_eq_none h'] at h1
theorem Un {i:Nat} {oi:Oper} {v:Value} (hi:ops[i]?=some oi) (hz:Uc md ops z i=true) (hsel:∀ (j:Nat) (o:Oper) cs b,ops[j]?=some o->o.op ≠ .select cs b)
  (hQ:∀ c a w,Q (.panic c) (a.put oi.dst v) w->Q (.panic c) a w) :
  ∀ (fuel:Nat) (listed:Array Bool) (a:Act) (w:World),
   (∀ j oj,ops[j]?=some oj->j ≠ i->listed.getD j true=false->(∀ e ∈ oj.after,Region.binds md e=true->e.on ≠ i)->oi.apart ops oj=true) →
   i ∈ Region.ready md ops listed->YieldsIf P ops S oi v a->S w →
   wpAnyZ P md ops Q z S fuel (listed.setIfInBounds i true) (a.put oi.dst v) w->wpAnyZ P md ops Q z S (fuel+1) listed a w:=by
 intro fuel
 induction fuel with
 | zero =>
  intro listed a w _ hr hy hS H
  refine ⟨fun h=>(by rw [h] at hr;cases hr),fun j hj=>?_⟩
  by_cases hji:j=i
  ·subst hji;exact hy.wpOp hi hS ⟨.inr hS,H⟩
  ·have h1:=ready_mono hj hji
   rw [H.1] at h1
   cases h1
 | succ fuel ih =>
  intro listed a w hfree hr hy hS H
  refine ⟨fun h=>(by rw [h] at hr;cases hr),fun j hj=>?_⟩
  by_cases hji:j=i
  ·subst hji;exact hy.wpOp hi hS ⟨.inr hS,H⟩
  ·have h1:=H.2 j (ready_mono hj hji)
   have hun:listed.getD i true=false:=(mem_ready.1 hr).1
   have hjz:j ≠ z:=Jnc hz hun hj
   obtain ⟨hjun,oj,hoj,hall⟩:=mem_ready.1 hj
   have hnot:∀ e ∈ oj.after,Region.binds md e=true->e.on ≠ i:=fun e he hb heq=>by
    have h2:=hall e he hb
    rw [heq] at h2
    rcases Nat.lt_or_ge i listed.size with h' | h'
    ·simp [h'] at hun h2;rw [hun] at h2;cases h2
    ·simp [Array.getElem?_eq_none h'] at h2
   have h2:=wpOp_putIf hoj (hfree j oj hoj hji hjun hnot) (fun cs b=>hsel i oi cs b hi) (fun cs b=>hsel j oj cs b hoj) hQ hy h1
   refine wpOp_mono (fun a' w' h3=>?_) h2
   have hS' : S w':=h3.2.1.resolve_left hjz
   refine ⟨.inr hS',ih (listed.setIfInBounds j true) a' w' (fun k ok hk hki hu hno=>?_) (ready_mono hr (Ne.symm hji)) h3.1 hS' ?_⟩
   ·refine hfree k ok hk hki ?_ hno
    by_cases hjk:j=k
    ·subst hjk;exact hjun
    ·rw [getD_set_ne true hjk] at hu;exact hu
   ·rw [Array.setIfInBounds_comm _ _ hji]
    exact h3.2.2
theorem z_done {listed:Array Bool} {a:Act} {w:World} (hr:Region.ready md ops listed=[]) (h:R a w):∀ fuel,wpAnyZ P md ops (Ends R) z S fuel listed a w
 | 0=>⟨hr,h⟩
 | _+1=>⟨fun _=>h,by rw [hr];simp⟩
theorem Jjg (i d:Nat) {oi:Oper} {v:Value} {fuel:Nat} {listed:Array Bool} {T:Array Value} {D:List Deferred} {w:World} (hi:ops[i]?=some oi) (hd:oi.dst=some d)
  (hz:Uc md ops z i=true) (hs:Region.noSelect ops=true) (hf:Region.free md ops listed i=true) (hr:(Region.ready md ops listed).contains i=true)
  (hw:Region.wanted oi (yielded ops T)=true) (hS:S w) (hy:∀ w,S w->(execOp (Act.eval ⟨T,D⟩) oi).run P w=.ok (.value v) w)
  (h:wpAnyZ P md ops (Ends R) z S fuel (listed.setIfInBounds i true) ⟨T.setIfInBounds d v,D⟩ w):wpAnyZ P md ops (Ends R) z S (fuel+1) listed ⟨T,D⟩ w :=
 Un hi hz (Region.noSelect_spec hs) Xd fuel listed _ w (Region.free_spec hi hf) (by simpa using hr) (Or.inl ⟨hw,hy⟩) hS (by rw [hd];exact h)
theorem zt (i d:Nat) {oi:Oper} {v:Value} {fuel:Nat} {listed:Array Bool} {T:Array Value} {D:List Deferred} {w:World} (hi:ops[i]?=some oi) (hd:oi.dst=some d) (hS:S w) (hy:∀ w,S w->(execOp (Act.eval ⟨T,D⟩) oi).run P w=.ok (.value v) w)
  (h:wpAnyZ P md ops (Ends R) z S fuel (listed.setIfInBounds i true) ⟨T.setIfInBounds d v,D⟩ w) (hz:Uc md ops z i=true:=by kernel_rfl) (hs:Region.noSelect ops=true:=by kernel_rfl) (hf:Region.free md ops listed i=true:=by kernel_rfl) (hr:(Region.ready md ops listed).contains i=true:=by kernel_rfl)
  (hw:Region.wanted oi (yielded ops T)=true:=by rfl):wpAnyZ P md ops (Ends R) z S (fuel+1) listed ⟨T,D⟩ w:=Jjg i d hi hd hz hs hf hr hw hS hy h
theorem zt0 (i d:Nat) {oi:Oper} {v:Value} {fuel:Nat} {listed:Array Bool} {T:Array Value} {D:List Deferred} {w:World} (hi:ops[i]?=some oi) (hd:oi.dst=some d) (hS:S w)
  (h:wpAnyZ P md ops (Ends R) z S fuel (listed.setIfInBounds i true) ⟨T.setIfInBounds d v,D⟩ w) (hy:∀ w,S w->(execOp (Act.eval ⟨T,D⟩) oi).run P w=.ok (.value v) w:=by (intro W' _;go_simp;first|done|with_reducible rfl)) (hz:Uc md ops z i=true:=by kernel_rfl) (hs:Region.noSelect ops=true:=by kernel_rfl) (hf:Region.free md ops listed i=true:=by kernel_rfl) (hr:(Region.ready md ops listed).contains i=true:=by kernel_rfl)
  (hw:Region.wanted oi (yielded ops T)=true:=by rfl):wpAnyZ P md ops (Ends R) z S (fuel+1) listed ⟨T,D⟩ w:=Jjg i d hi hd hz hs hf hr hw hS hy h
theorem Jic {i fuel:Nat} {listed:Array Bool} {a:Act} {w:World} (hr:Region.ready md ops listed=[i])
  (h:wpOp P ops Q i (fun a' w'=>(i=z ∨ S w')/\wpAnyZ P md ops Q z S fuel (listed.setIfInBounds i true) a' w') a w):wpAnyZ P md ops Q z S (fuel+1) listed a w:=by
 refine ⟨fun h0=>(by rw [hr] at h0;cases h0),fun j hj=>?_⟩
 rw [hr] at hj
 obtain rfl:j=i:=by simpa using hj
 exact h
theorem z_run (i d:Nat) {oi:Oper} {v:Value} {fuel:Nat} {listed:Array Bool} {T:Array Value} {D:List Deferred} {w w' : World} (hi:ops[i]?=some oi) (hd:oi.dst=some d)
  (hr:Region.ready md ops listed=[i]) (hw:Region.wanted oi (yielded ops T)=true) (hy:(execOp (Act.eval ⟨T,D⟩) oi).run P w=.ok (.value v) w') (hS:i=z ∨ S w')
  (h:wpAnyZ P md ops (Ends R) z S fuel (listed.setIfInBounds i true) ⟨T.setIfInBounds d v,D⟩ w'):wpAnyZ P md ops (Ends R) z S (fuel+1) listed ⟨T,D⟩ w :=
 Jic hr (by
  refine wpOp_of hi hw ?_
  unfold Oper.wp
  rw [hy]
  refine ⟨hS,?_⟩
  rw [hd]
  exact h)
theorem zr (i d:Nat) {oi:Oper} {v:Value} {fuel:Nat} {listed:Array Bool} {T:Array Value} {D:List Deferred} {w w' : World} (hi:ops[i]?=some oi) (hd:oi.dst=some d) (hS:i=z ∨ S w')
  (h:wpAnyZ P md ops (Ends R) z S fuel (listed.setIfInBounds i true) ⟨T.setIfInBounds d v,D⟩ w') (hy:(execOp (Act.eval ⟨T,D⟩) oi).run P w=.ok (.value v) w':=by (go_simp;first|done|with_reducible rfl)) (hr:Region.ready md ops listed=[i]:=by kernel_rfl) (hw:Region.wanted oi (yielded ops T)=true:=by rfl):wpAnyZ P md ops (Ends R) z S (fuel+1) listed ⟨T,D⟩ w:=z_run i d hi hd hr hw hy hS h
theorem z_skip (i:Nat) {oi:Oper} {fuel:Nat} {listed:Array Bool} {a:Act} {w w' : World} (hi:ops[i]?=some oi) (hd:oi.dst=none)
  (hr:Region.ready md ops listed=[i]) (hw:Region.wanted oi (yielded ops a.tmps)=true) (hy:(execOp a.eval oi).run P w=.ok .skip w') (hS:i=z ∨ S w')
  (h:wpAnyZ P md ops (Ends R) z S fuel (listed.setIfInBounds i true) a w'):wpAnyZ P md ops (Ends R) z S (fuel+1) listed a w :=
 Jic hr (by
  refine wpOp_of hi hw ?_
  unfold Oper.wp
  rw [hy]
  refine ⟨hS,?_⟩
  rw [hd]
  exact h)
theorem zk (i:Nat) {oi:Oper} {fuel:Nat} {listed:Array Bool} {a:Act} {w w' : World} (hi:ops[i]?=some oi) (hd:oi.dst=none) (hS:i=z ∨ S w')
  (h:wpAnyZ P md ops (Ends R) z S fuel (listed.setIfInBounds i true) a w') (hy:(execOp a.eval oi).run P w=.ok .skip w':=by (go_simp;first|done|with_reducible rfl)) (hr:Region.ready md ops listed=[i]:=by kernel_rfl) (hw:Region.wanted oi (yielded ops a.tmps)=true:=by rfl):wpAnyZ P md ops (Ends R) z S (fuel+1) listed a w:=z_skip i hi hd hr hw hy hS h
theorem z_call (i d:Nat) {oi:Oper} {f:FuncId} {args:Array Value} {fuel:Nat} {listed:Array Bool} {T:Array Value} {D:List Deferred} {w w0:World} (hi:ops[i]?=some oi) (hd:oi.dst=some d)
  (hr:Region.ready md ops listed=[i]) (hw:Region.wanted oi (yielded ops T)=true) (hy:(execOp (Act.eval ⟨T,D⟩) oi).run P w=.ok (.enter f args) w0)
  (h:Calls P f args w0 fun e w'=>∃ v,e=.returned v/\(i=z ∨ S w')/\wpAnyZ P md ops (Ends R) z S fuel (listed.setIfInBounds i true) ⟨T.setIfInBounds d v,D⟩ w'):wpAnyZ P md ops (Ends R) z S (fuel+1) listed ⟨T,D⟩ w :=
 Jic hr (by
  refine wpOp_of hi hw ?_
  unfold Oper.wp
  rw [hy]
  refine h.mono ?_
  rintro e w' ⟨v,rfl,hS,h⟩
  refine ⟨hS,?_⟩
  rw [hd]
  exact h)
theorem zc (i d:Nat) {oi:Oper} {f:FuncId} {args:Array Value} {fuel:Nat} {listed:Array Bool} {T:Array Value} {D:List Deferred} {w w0:World} (hi:ops[i]?=some oi) (hd:oi.dst=some d)
  (h:Calls P f args w0 fun e w'=>∃ v,e=.returned v/\(i=z ∨ S w')/\wpAnyZ P md ops (Ends R) z S fuel (listed.setIfInBounds i true) ⟨T.setIfInBounds d v,D⟩ w') (hy:(execOp (Act.eval ⟨T,D⟩) oi).run P w=.ok (.enter f args) w0:=by go_simp) (hr:Region.ready md ops listed=[i]:=by kernel_rfl) (hw:Region.wanted oi (yielded ops T)=true:=by rfl):wpAnyZ P md ops (Ends R) z S (fuel+1) listed ⟨T,D⟩ w:=z_call i d hi hd hr hw hy h
theorem z_plain {id:Nat} {a:Act} {w:World} (z:Nat) (S:World->Prop) (hm:P.follows .mixedOrders=true) (hS:S w.drew)
  (h:S w.drew->wpAnyZ P .any ops (Ends (Q .normal)) z S ops.size (Array.replicate ops.size false) a w.drew):(Code.region id ops true).wp P Q a w :=
 Code.wp_mono (fun e a w q=>by cases e <;> first|exact q|exact (q:False).elim) (wp_region_any hm (Yp _ _ _ _ (h hS)))
end
end Go.Proofs.YtboiknllmnfipaaGreatDoor.Disk
/- An operation whose guard does not hold, in a region that draws its order. -/
namespace Go.Proofs.YtboiknllmnfipaaGreatDoor.Disk
open Go
theorem z_pass {P:Program} {md:Region.Mode} {ops:Array Oper} {R:Act->World->Prop} {S:World->Prop} {z:Nat} (i d:Nat) {oi:Oper} {fuel:Nat} {listed:Array Bool} {T:Array Value} {D:List Deferred} {w:World} (hi:ops[i]?=some oi) (hd:oi.dst=some d)
  (hz:Uc md ops z i=true) (hs:Region.noSelect ops=true) (hf:Region.free md ops listed i=true) (hr:(Region.ready md ops listed).contains i=true)
  (hw:Region.wanted oi (yielded ops T)=false) (hS:S w)
  (h:wpAnyZ P md ops (Ends R) z S fuel (listed.setIfInBounds i true) ⟨T.setIfInBounds d undef,D⟩ w):wpAnyZ P md ops (Ends R) z S (fuel+1) listed ⟨T,D⟩ w :=
 Un hi hz (Region.noSelect_spec hs) Xd fuel listed _ w (Region.free_spec hi hf) (by simpa using hr) (Or.inr ⟨hw,rfl⟩) hS (by rw [hd];exact h)
end Go.Proofs.YtboiknllmnfipaaGreatDoor.Disk
