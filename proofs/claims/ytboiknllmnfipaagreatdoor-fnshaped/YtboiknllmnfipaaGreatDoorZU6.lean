
import Derived.Test.YtboiknllmnfipaaGreatDoorZU5
import Derived.Test.YtboiknllmnfipaaGreatDoorZU1
import Derived.Laws.CopyOwn
import Derived.Maps.AppendAt
import Derived.Test.YtboiknllmnfipaaGreatDoorRows
import Derived.WalkKit
import Derived.Lib.ItoaNum
import Derived.Lib.Join
/- Graphs that own their memory. -/
namespace Go.Proofs.YtboiknllmnfipaaGreatDoor
open Go.RowKit
def NOwn (B:Nat) (w:World) (nv:Value) (ns:List Nd) (fv:Nat->Value):Prop :=
 ∃ xs,w.ownsRow B 41 3 nv ns.length xs/\Trip xs ns fv/\(∀ i,i<ns.length->w.ownsRow B 2 1 (fv i) (ns.getD i nd0).fl.length (icells (ns.getD i nd0).fl)) ∧
  ∀ i j,i<ns.length->j<ns.length->i ≠ j->∀ b,(fv i).ownBlock=some b->(fv j).ownBlock ≠ some b
def GN (B:Nat) (w:World) (v:Value) (g:Gr):Prop :=
 ∃ vr vn fv,v=.agg #[vr,vn,.int .i64 g.hash]/\w.ownsRow B 2 1 vr g.roots.length (icells g.roots)/\NOwn B w vn g.nodes fv/\∀ i,i<g.nodes.length->∀ b,vr.ownBlock=some b->(fv i).ownBlock ≠ some b
theorem Qe {w:World} {B B' e e' s s' n n' b:Nat} {v v' : Value} {xs xs' : List Value} (h:w.ownsRow B e s v n xs) (h' : w.ownsRow B' e' s' v' n' xs') (ne:e ≠ e') (hb:v.ownBlock=some b):v'.ownBlock ≠ some b:=by
 intro hb'
 rcases h.2 with ⟨rfl,_⟩|⟨g,cap,cur,rfl,_,hh,_⟩
 ·simp [Value.ownBlock] at hb
 ·rcases h'.2 with ⟨rfl,_⟩|⟨g',cap',cur',rfl,_,hh',_⟩
  ·simp [Value.ownBlock] at hb'
  ·simp [Value.ownBlock] at hb hb'
   subst hb hb'
   rw [hh] at hh'
   simp at hh'
   exact ne hh'.2
theorem NOwn.nk {B:Nat} {w:World} {nv:Value} {ns:List Nd} {fv:Nat->Value} (h:NOwn B w nv ns fv):NK B w nv ns (fun b=>B<=b/\b<w.heap.size):=by
 obtain ⟨xs,ho,ht,hf,_⟩:=h
 exact ⟨xs,fv,ho,ht,fun i hi=>⟨E9 (hf i hi),fun b k=>(hf i hi).lt b (Oh (hf i hi) k)⟩⟩
theorem GN.grn {B:Nat} {w:World} {v:Value} {g:Gr} (h:GN B w v g):GRn B w v g:=by
 obtain ⟨vr,vn,fv,e,hr,hn,_⟩:=h
 exact ⟨vr,vn,_,e,⟨E9 hr,fun b k=>hr.lt b (Oh hr k)⟩,hn.nk,fun b k=>k.1⟩
theorem Grew.nown {B:Nat} {w w' : World} {nv:Value} {ns:List Nd} {fv:Nat->Value} {S:Nat->Prop} (q:Grew w w' S) (h:NOwn B w nv ns fv) (hS:∀ b,S b->b<B):NOwn B w' nv ns fv:=by
 obtain ⟨xs,ho,ht,hf,ha⟩:=h
 exact ⟨xs,q.own ho (fun b e s=>by have:=(ho.lt b e).1;have:=hS b s;omega),ht,fun i hi=>q.own (hf i hi) (fun b e s=>by have:=((hf i hi).lt b e).1;have:=hS b s;omega),ha⟩
theorem Grew.gn {B:Nat} {w w' : World} {v:Value} {g:Gr} {S:Nat->Prop} (q:Grew w w' S) (h:GN B w v g) (hS:∀ b,S b->b<B):GN B w' v g:=by
 obtain ⟨vr,vn,fv,e,hr,hn,ha⟩:=h
 exact ⟨vr,vn,fv,e,q.own hr (fun b e s=>by have:=(hr.lt b e).1;have:=hS b s;omega),q.nown hn hS,ha⟩
theorem GN.base {B B' : Nat} {w:World} {v:Value} {g:Gr} (h:GN B w v g) (hB:B' <= B):GN B' w v g:=by
 obtain ⟨vr,vn,fv,e,hr,⟨xs,ho,ht,hf,ha⟩,h2⟩:=h
 exact ⟨vr,vn,fv,e,Pr hr hB,⟨xs,Pr ho hB,ht,fun i hi=>Pr (hf i hi) hB,ha⟩,h2⟩
theorem NOwn.snoc {B:Nat} {w w1 w2 w3:World} {nv nv1 f:Value} {ns:List Nd} {fv:Nat->Value} {c z:Int} {fl:List Int} (h:NOwn B w nv ns fv) (b1:Below w.heap.size w w1) (hf:w1.ownsRow w.heap.size 2 1 f fl.length (icells fl)) (hB:B<=w.heap.size)
  (b2:Below w1.heap.size w1 w2) {xs:List Value} (ht:Trip xs ns fv) (ho:w3.ownsRow B 41 3 nv1 (ns.length+1) (xs ++ [.int .i64 c,.int .i64 z,f])) (g:w2.grownBy w3 nv.ownBlock) :
  NOwn B w3 nv1 (ns ++ [⟨c,z,fl⟩]) (fun i=>if i=ns.length then f else fv i):=by
 obtain ⟨xs0,ho0,_,hf0,ha0⟩:=h
 have o1:w1.ownsRow B _ 3 nv ns.length xs0:=E8 ho0 b1
 have G:Grew w1 w3 (fun k=>nv.ownBlock=some k):=(Grew.new b2 _).trans (Grew.grown g)
 have oF:w3.ownsRow B 2 1 f fl.length (icells fl):=Pr (G.own hf (fun b e q=>Qe hf o1 (by decide) e q)) hB
 have oI:∀ i,i<ns.length->w3.ownsRow B 2 1 (fv i) (ns.getD i nd0).fl.length (icells (ns.getD i nd0).fl):=fun i hi=>G.own (E8 (hf0 i hi) b1) (fun b e q=>Qe (hf0 i hi) ho0 (by decide) e q)
 have eg:∀ i,i<ns.length->(ns ++ [(⟨c,z,fl⟩:Nd)]).getD i nd0=ns.getD i nd0:=fun i hi=>by simp [List.getD_eq_getElem?_getD,List.getElem?_append_left hi]
 have en:(ns ++ [(⟨c,z,fl⟩:Nd)]).getD ns.length nd0=⟨c,z,fl⟩:=by simp
 have hl:(ns ++ [(⟨c,z,fl⟩:Nd)]).length=ns.length+1:=by simp
 refine ⟨_,by rw [hl];exact ho,ht.snoc c z fl f,fun i hi=>?_,fun i j hi hj ne b e=>?_⟩
 ·rw [hl] at hi
  dsimp only
  by_cases e:i=ns.length
  ·subst e
   rw [if_pos rfl,en]
   exact oF
  ·rw [if_neg e,eg i (by omega)]
   exact oI i (by omega)
 ·rw [hl] at hi hj
  dsimp only at e ⊢
  by_cases e1:i=ns.length
  ·rw [if_pos e1] at e
   rw [if_neg (by omega)]
   intro q
   have h1:=(hf.lt b e).1
   have h2:=((hf0 j (by omega)).lt b q).2
   omega
  ·rw [if_neg e1] at e
   by_cases e2:j=ns.length
   ·rw [if_pos e2]
    intro q
    have h1:=(hf.lt b q).1
    have h2:=((hf0 i (by omega)).lt b e).2
    omega
   ·rw [if_neg e2]
    exact ha0 i j (by omega) (by omega) ne b e
theorem GN.out {B:Nat} {w:World} {v:Value} {g:Gr} (h:GN B w v g):∃ ra rc na nc fv,v=.agg #[.slice ra g.roots.length rc,.slice na g.nodes.length nc,.int .i64 g.hash]/\w.ownsRow B 2 1 (.slice ra g.roots.length rc) g.roots.length (icells g.roots)/\NOwn B w (.slice na g.nodes.length nc) g.nodes fv/\∀ i,i<g.nodes.length->∀ b,Value.ownBlock (.slice ra g.roots.length rc)=some b->(fv i).ownBlock ≠ some b:=by
 obtain ⟨vr,vn,fv,rfl,hr,hn,ha⟩:=h
 obtain ⟨ra,rc,rfl⟩:=H7 hr
 obtain ⟨na,nc,rfl⟩:∃ na nc,vn=.slice na g.nodes.length nc:=by
  obtain ⟨xs,no,_⟩:=hn
  exact H7 no
 exact ⟨ra,rc,na,nc,fv,rfl,hr,hn,ha⟩
end Go.Proofs.YtboiknllmnfipaaGreatDoor
/- A graph in the making whose rows are owned. -/
namespace Go.Proofs.YtboiknllmnfipaaGreatDoor
open Go.RowKit
theorem Jim {w:World} {B B' e s n:Nat} {v:Value} {xs ys:List Value} (h:w.ownsRow B e s v n xs) (h' : w.ownsRow B' e s v n ys):xs=ys:=by
 obtain ⟨hl,h⟩:=h
 obtain ⟨hl',h'⟩:=h'
 rcases h with ⟨rfl,rfl⟩|⟨g,cap,cur,rfl,_,hh,_,_,_,q⟩
 ·rw [Nat.zero_mul] at hl hl'
  rw [List.eq_nil_of_length_eq_zero hl,List.eq_nil_of_length_eq_zero hl']
 ·rcases h' with ⟨e1,_⟩|⟨g',cap',cur',e1,_,hh',_,_,_,q'⟩
  ·cases e1
  ·simp only [Value.slice.injEq,Option.some.injEq,Addr.mk.injEq,true_and,and_true] at e1
   obtain ⟨rfl,rfl⟩:=e1
   rw [hh] at hh'
   simp only [Option.some.injEq,Obj.cells.injEq,and_true] at hh'
   rw [<- q,← q',hh']
theorem Jkx (B:Nat) (w:World):GN B w (.agg #[.slice none 0 0,.slice none 0 0,.int .i64 0]) ⟨[],[],0⟩ :=
 ⟨_,_,fun _=>.slice none 0 0,rfl,World.ownsRow_nil _ _ _ _,⟨[],World.ownsRow_nil _ _ _ _,Trip.nil _,fun i hi=>by simp at hi,fun i j hi=>by simp at hi⟩,fun i hi=>by simp at hi⟩
structure Ex2 (N:Nat) (wr:World) (rl:List Int) (ns:List Nd) (rv nv:Value) (K:Nat->Prop):Prop where
 rt:wr.ownsRow (N+5) 2 1 rv rl.length (icells rl)
 rk:∀ b,rv.ownBlock=some b->K b
 nd:∃ xs fv,wr.ownsRow (N+5) 41 3 nv ns.length xs/\Trip xs ns fv/\(∀ i,i<ns.length->wr.ownsRow (N+5) 2 1 (fv i) (ns.getD i nd0).fl.length (icells (ns.getD i nd0).fl)/\∀ b,(fv i).ownBlock=some b->K b/\rv.ownBlock ≠ some b)/\∀ i j,i<ns.length->j<ns.length->i ≠ j->∀ b,(fv i).ownBlock=some b->(fv j).ownBlock ≠ some b
theorem Ex2.keep {N:Nat} {wr w1:World} {rl:List Int} {ns:List Nd} {rv nv:Value} {K S:Nat->Prop} (e:Ex2 N wr rl ns rv nv K) (g:Grew wr w1 S) (h1:∀ b,S b->¬ K b) (h2:∀ b,S b->nv.ownBlock ≠ some b):Ex2 N w1 rl ns rv nv K:=by
 obtain ⟨xs,fv,ho,ht,hf,ha⟩:=e.nd
 exact ⟨g.own e.rt (fun b q s=>h1 b s (e.rk b q)),e.rk,xs,fv,g.own ho (fun b q s=>h2 b s q),ht,fun i hi=>⟨g.own (hf i hi).1 (fun b q s=>h1 b s ((hf i hi).2 b q).1),(hf i hi).2⟩,ha⟩
theorem Sh1.ex2 {N:Nat} {W0 wr:World} {hh:Int} {o:List Nat} {rl:List Int} {ov rv:Value} (s:Sh1 N W0 wr hh o rl ov rv):Ex2 N wr rl [] rv (.slice none 0 0) (fun b=>rv.ownBlock=some b) :=
 ⟨s.rt,fun b e=>e,[],fun _=>.slice none 0 0,World.ownsRow_nil _ _ _ _,Trip.nil _,fun i hi=>by simp at hi,fun i j hi=>by simp at hi⟩
theorem Sh2.exTold {N:Nat} {W0 wr w1:World} {hh:Int} {o:List Nat} {rl:List Int} {ns:List Nd} {ov rv nv:Value} {K:Nat->Prop} (s:Sh2 N W0 wr hh o rl ns ov rv nv K) (e:Ex2 N wr rl ns rv nv K) (g:Grew wr w1 (fun k=>k=N+2 ∨ ov.ownBlock=some k)):Ex2 N w1 rl ns rv nv K:=by
 refine e.keep g ?_ ?_
 ·rintro b (q|q) k
  ·have:=(s.kk b k).1;omega
  ·exact (s.kk b k).2.2.1 q
 ·rintro b (q|q) k
  ·have:=(s.ndb b k).1;omega
  ·exact (s.ndb b k).2.2 q
theorem Sh3.exField {N:Nat} {W0 wr w2 w3:World} {hh:Int} {o:List Nat} {rl:List Int} {ns:List Nd} {ov rv nv:Value} {K:Nat->Prop} {bn:Nat} {c z:Int} {fl:List Int} {fv:Value} (s:Sh3 N W0 wr hh o rl ns ov rv nv K bn c z fl fv) (e:Ex2 N wr rl ns rv nv K)
  (a:Below wr.heap.size wr w2) (g:w2.grownBy w3 fv.ownBlock) (u:Value):Ex2 N (w3.setCell ⟨bn,2,none⟩ u) rl ns rv nv K:=by
 have G1:Grew wr w3 (fun k=>fv.ownBlock=some k):=(Grew.new a _).trans (Grew.grown g)
 refine (e.keep G1 (fun b q=>(s.fap b q).2.2) (fun b q=>(s.fap b q).2.1)).keep (Grew.set w3 bn 2 u) ?_ ?_
 ·rintro b rfl
  exact s.bnk.1
 ·rintro b rfl
  exact s.bnk.2.2.1
theorem Sh3.exDone {N:Nat} {W0 wr w2 w3:World} {hh:Int} {o:List Nat} {rl:List Int} {ns:List Nd} {ov rv nv nv1:Value} {K:Nat->Prop} {bn:Nat} {c z:Int} {fl:List Int} {fv:Value} (s:Sh3 N W0 wr hh o rl ns ov rv nv K bn c z fl fv) (e:Ex2 N wr rl ns rv nv K)
  (a:Below wr.heap.size wr w2) {xs:List Value} {fw:Nat->Value} (ht:Trip xs ns fw) (hx:wr.ownsRow (N+5) 41 3 nv ns.length xs)
  (ho:w3.ownsRow (N+5) 41 3 nv1 (ns.length+1) (xs ++ [.int .i64 c,.int .i64 z,fv])) (g:w2.grownBy w3 nv.ownBlock) :
  Ex2 N (w3.setCell ⟨N+4,1,none⟩ nv1) rl (ns ++ [⟨c,z,fl⟩]) rv nv1 (fun b=>K b ∨ fv.ownBlock=some b):=by
 have G1:Grew wr w3 (fun k=>nv.ownBlock=some k):=(Grew.new a _).trans (Grew.grown g)
 have G2:=Grew.set w3 (N+4) 1 nv1
 obtain ⟨xs2,fv2,ho2,ht2,hf2,ha2⟩:=e.nd
 have ex:xs2=xs:=Jim ho2 hx
 subst ex
 have eF:∀ i,i<ns.length->fw i=fv2 i:=fun i hi=>by
  have q1:=(ht.2 i hi).2.2
  have q2:=(ht2.2 i hi).2.2
  rw [q1] at q2
  exact Option.some.inj q2
 have no5:∀ (v:Value) (n:Nat) (ys:List Value),wr.ownsRow (N+5) 2 1 v n ys->(∀ b,v.ownBlock=some b->nv.ownBlock ≠ some b)->(w3.setCell ⟨N+4,1,none⟩ nv1).ownsRow (N+5) 2 1 v n ys:=fun v n ys h k =>
  G2.own (G1.own h (fun b q s=>k b q s)) (fun b q s=>by have:=(h.lt b q).1;omega)
 refine ⟨no5 _ _ _ e.rt (fun b q=>(s.s.kk b (e.rk b q)).2.2.2),fun b q=>.inl (e.rk b q),_,_,(show (w3.setCell ⟨N+4,1,none⟩ nv1).ownsRow (N+5) _ 3 nv1 (ns ++ [(⟨c,z,fl⟩:Nd)]).length _ from ?_),ht.snoc c z fl fv,fun i hi=>?_,fun i j hi hj hij b q=>?_⟩
 ·have:=G2.own ho (fun b q s=>by have:=(ho.lt b q).1;omega)
  simpa using this
 ·have hi' : i<ns.length+1:=by simpa using hi
  by_cases q:i=ns.length
  ·subst q
   have e2:(ns ++ [(⟨c,z,fl⟩:Nd)]).getD ns.length nd0=⟨c,z,fl⟩:=by simp
   rw [if_pos rfl,e2]
   exact ⟨no5 _ _ _ s.fo (fun b k=>(s.fap b k).2.1),fun b k=>⟨.inr k,fun r=>(s.fap b k).2.2 (e.rk b r)⟩⟩
  ·have hlt:i<ns.length:=by omega
   have eg:(ns ++ [(⟨c,z,fl⟩:Nd)]).getD i nd0=ns.getD i nd0:=by simp [List.getD_eq_getElem?_getD,List.getElem?_append_left hlt]
   rw [if_neg q,eg,eF i hlt]
   obtain ⟨f1,f2⟩:=hf2 i hlt
   exact ⟨no5 _ _ _ f1 (fun b k=>(s.s.kk b (f2 b k).1).2.2.2),fun b k=>⟨.inl (f2 b k).1,(f2 b k).2⟩⟩
 ·have hi' : i<ns.length+1:=by simpa using hi
  have hj' : j<ns.length+1:=by simpa using hj
  by_cases q1:i=ns.length
  ·have q2:j ≠ ns.length:=fun r=>hij (q1.trans r.symm)
   rw [if_pos q1] at q
   rw [if_neg q2,eF j (by omega)]
   exact fun r=>(s.fap b q).2.2 ((hf2 j (by omega)).2 b r).1
  ·rw [if_neg q1,eF i (by omega)] at q
   by_cases q2:j=ns.length
   ·rw [if_pos q2]
    exact fun r=>(s.fap b r).2.2 ((hf2 i (by omega)).2 b q).1
   ·rw [if_neg q2,eF j (by omega)]
    exact ha2 i j (by omega) (by omega) hij b q
theorem Ex2.gn {N B:Nat} {wr:World} {rl:List Int} {ns:List Nd} {rv nv:Value} {K:Nat->Prop} (e:Ex2 N wr rl ns rv nv K) (hB:B<=N+5) (hh:Int):GN B wr (.agg #[rv,nv,.int .i64 hh]) ⟨rl,ns,hh⟩:=by
 obtain ⟨xs,fv,ho,ht,hf,ha⟩:=e.nd
 exact ⟨rv,nv,fv,rfl,Pr e.rt hB,⟨xs,Pr ho hB,ht,fun i hi=>Pr (hf i hi).1 hB,ha⟩,fun i hi b q r=>((hf i hi).2 b r).2 q⟩
end Go.Proofs.YtboiknllmnfipaaGreatDoor
/- A graph that owns its memory, and what it reads as behind one change. -/
namespace Go.Proofs.YtboiknllmnfipaaGreatDoor
open Go.RowKit
structure NB (w:World) (nb:Nat) (ns:List Nd) (fv:Nat->Value):Prop where
 row:∃ N f,w.rowIs nb 41 N f/\ns.length * 3<=N/\∀ i,i<ns.length->f (i * 3)=.int .i64 (ns.getD i nd0).cls/\f (i * 3+1)=.int .i64 (ns.getD i nd0).hash/\f (i * 3+2)=fv i
 fl:∀ i,i<ns.length->IR w (fv i) (ns.getD i nd0).fl
theorem IR.slice {w:World} {v:Value} {l:List Int} (h:IR w v l):∃ fa fc,v=.slice fa l.length fc:=by
 obtain ⟨a,c,e,_⟩:=h
 exact ⟨a,c,e⟩
theorem NB.nr {w:World} {nb c:Nat} {ns:List Nd} {fv:Nat->Value} (h:NB w nb ns fv) (hc:ns.length<=c):NR w (.slice (some ⟨nb,0,none⟩) ns.length c) ns:=by
 obtain ⟨N,f,R,hN,q⟩:=h.row
 refine ⟨_,c,rfl,hc,fun i hi=>?_⟩
 obtain ⟨fa,fc,e⟩:=(h.fl i hi).slice
 have q':=q i hi
 refine ⟨nb,0,fa,_,fc,rfl,?_,?_,?_,by rw [<- e];exact h.fl i hi⟩
 ·rw [Nat.zero_add,R.cell (by omega),q'.1]
 ·rw [Nat.zero_add,R.cell (by omega),q'.2.1]
 ·rw [Nat.zero_add,R.cell (by omega),q'.2.2,e]
theorem NOwn.nb {B:Nat} {w:World} {nb nc:Nat} {ns:List Nd} {fv:Nat->Value} (h:NOwn B w (.slice (some ⟨nb,0,none⟩) ns.length nc) ns fv):NB w nb ns fv/\ns.length<=nc/\B<=nb/\(∀ i,i<ns.length->∀ b,(fv i).ownBlock=some b->b ≠ nb):=by
 obtain ⟨xs,ho,ht,hf,ha⟩:=h
 have ho':=ho
 obtain ⟨hl,hx⟩:=ho
 rcases hx with ⟨e,_⟩|⟨g,cap,cur,e,hB,hh,h1,h2,h3,h4⟩
 ·cases e
 ·simp only [Value.slice.injEq,Option.some.injEq,Addr.mk.injEq,true_and,and_true] at e
  obtain ⟨rfl,rfl⟩:=e
  have get:∀ j,j<ns.length * 3->cur[j]?.getD undef=xs[j]?.getD undef:=fun j hj=>by
   rw [<- h4,List.getElem?_take_of_lt hj,Array.getElem?_toList]
  refine ⟨⟨⟨cur.size,fun i=>cur[i]?.getD undef,⟨cur,hh,rfl,fun i hi=>by simp [hi]⟩,by omega,fun i hi=>?_⟩,fun i hi=>E9 (hf i hi)⟩,h1,hB,fun i hi b k q=>?_⟩
  ·obtain ⟨t0,t1,t2⟩:=ht.2 i hi
   refine ⟨?_,?_,?_⟩
   ·show cur[i * 3]?.getD undef=_
    rw [get _ (by omega),t0];rfl
   ·show cur[i * 3+1]?.getD undef=_
    rw [get _ (by omega),t1];rfl
   ·show cur[i * 3+2]?.getD undef=_
    rw [get _ (by omega),t2];rfl
  ·subst q
   exact Qe (hf i hi) ho' (by decide) k rfl
end Go.Proofs.YtboiknllmnfipaaGreatDoor
/- Heaps in the laws: szHeap, toHeap, eqHeap, markHeap, heldHeap. -/
namespace Go.Proofs.YtboiknllmnfipaaGreatDoor
open Go.RowKit
theorem IRs {w:World} {v:Value} {l:List Int} (h:IR w v l):∃ ao cap,v=.slice ao l.length cap/\l.length<=cap:=by
 obtain ⟨ao,cap,e,hc,_⟩:=h
 exact ⟨ao,cap,e,hc⟩
structure HN (B:Nat) (w:World) (v:Value) (h:Hp):Prop where
 ex:∃ v1 v2 v3,v=.agg #[v1,v2,.int .i64 h.old,.int .i64 h.eden,.int .i64 h.surv,.bool h.flip,.int .i64 h.hash,v3] ∧
  (Disk.OS w 2 1 v1 h.words.length/\Disk.OS w 2 1 v2 h.roots.length/\Disk.OS w 2 1 v3 h.kept.length)/\(IR w v1 h.words/\IR w v2 h.roots/\IR w v3 h.kept) ∧
  ((∀ b,Disk.rowOf v1 h.words.length=some b->B<=b)/\(∀ b,Disk.rowOf v2 h.roots.length=some b->B<=b)/\(∀ b,Disk.rowOf v3 h.kept.length=some b->B<=b)) ∧
  (∀ b,Disk.rowOf v1 h.words.length=some b->Disk.rowOf v2 h.roots.length ≠ some b)/\(∀ b,Disk.rowOf v1 h.words.length=some b->Disk.rowOf v3 h.kept.length ≠ some b)/\(∀ b,Disk.rowOf v2 h.roots.length=some b->Disk.rowOf v3 h.kept.length ≠ some b)
theorem HN.later {B:Nat} {w w' : World} {v:Value} {h:Hp} (k:HN B w v h) (hb:Below w.heap.size w w'):HN B w' v h:=by
 obtain ⟨v1,v2,v3,e,⟨a,b,c⟩,⟨d,f,g⟩,r⟩:=k.ex
 exact ⟨v1,v2,v3,e,⟨a.later hb,b.later hb,c.later hb⟩,⟨d.later hb,f.later hb,g.later hb⟩,r⟩
theorem HN.hr {B:Nat} {w:World} {v:Value} {h:Hp} (k:HN B w v h):HR w v h:=by
 obtain ⟨v1,v2,v3,e,_,⟨d,f,g⟩,_⟩:=k.ex
 exact ⟨v1,v2,v3,e,d,f,g⟩
end Go.Proofs.YtboiknllmnfipaaGreatDoor
/- toHeap and eqHeap of the laws. -/
namespace Go.Proofs.YtboiknllmnfipaaGreatDoor
open Go.RowKit
theorem Bx.below {w w' : World} {N:Nat} {v1 v2 v3:Value} {h:Hp} (k:Bx w N v1 v2 v3 h) (hb:Below (N+1) w w'):Bx w' N v1 v2 v3 h:=by
 have e:∀ o v,w.cell? ⟨N,o,none⟩=some v->w'.cell? ⟨N,o,none⟩=some v:=fun o v q=>(hb.cell (p:=⟨N,o,none⟩) (by show N<N+1;omega)).trans q
 exact ⟨e _ _ k.c0,e _ _ k.c1,e _ _ k.c2,e _ _ k.c3,e _ _ k.c4,e _ _ k.c5,e _ _ k.c6,e _ _ k.c7⟩
theorem rowof {g n cap b:Nat} (h:Disk.rowOf (.slice (some ⟨g,0,none⟩) n cap) n=some b):b=g:=by
 unfold Disk.rowOf at h
 split at h
 ·cases h
 ·simp [Value.ownBlock] at h;omega
end Go.Proofs.YtboiknllmnfipaaGreatDoor
/- Rows of numbers that a call has made: read, written, copied; heaps of such rows. -/
namespace Go.Proofs.YtboiknllmnfipaaGreatDoor
open Go.RowKit
def RI (w:World) (g:Nat) (l:List Int) (c:Nat):Prop:=∃ f,w.rowIs g 2 c f/\l.length<=c/\∀ i,i<l.length->f i=.int .i64 (l.getD i 0)
theorem RI.lt {w:World} {g c:Nat} {l:List Int} (h:RI w g l c):g<w.heap.size:=by
 obtain ⟨f,h,_⟩:=h
 exact h.lt
theorem RI.le {w:World} {g c:Nat} {l:List Int} (h:RI w g l c):l.length<=c:=by
 obtain ⟨f,h,k,_⟩:=h
 exact k
theorem RI.block {w w' : World} {g c:Nat} {l:List Int} (h:RI w g l c) (hb:w'.heap[g]?=w.heap[g]?):RI w' g l c:=by
 obtain ⟨f,h,r⟩:=h
 exact ⟨f,h.of_block hb,r⟩
theorem RI.later {w w' : World} {g c:Nat} {l:List Int} (h:RI w g l c) (hb:Below w.heap.size w w'):RI w' g l c:=h.block (hb.block g h.lt)
theorem RI.grown {w w' : World} {g c:Nat} {l:List Int} {r:Option Nat} (h:RI w g l c) (hg:w.grownBy w' r) (hr:some g ≠ r):RI w' g l c:=h.block (hg.block g h.lt hr)
theorem RI.cell {w:World} {g c:Nat} {l:List Int} (h:RI w g l c) {i:Nat} (hi:i<l.length):w.cell? ⟨g,i,none⟩=some (.int .i64 (l.getD i 0)):=by
 obtain ⟨f,h,hN,e⟩:=h
 rw [h.cell (by omega),e i hi]
theorem RI.frozen {w:World} {g c:Nat} {l:List Int} (h:RI w g l c) (i:Nat):w.frozen? ⟨g,i,none⟩=false:=by
 obtain ⟨f,h,hN,e⟩:=h
 exact h.frozen i
theorem RI.ir {w:World} {g c cap:Nat} {l:List Int} (h:RI w g l c) (hc:l.length<=cap):IR w (.slice (some ⟨g,0,none⟩) l.length cap) l :=
 ⟨_,_,rfl,hc,fun i hi=>⟨g,0,rfl,by rw [Nat.zero_add];exact h.cell hi⟩⟩
theorem IR.keep' {w w' : World} {v:Value} {l:List Int} (h:IR w v l) (hk:∀ a n c,v=.slice (some a) n c->0<n->w'.heap[a.block]?=w.heap[a.block]?):IR w' v l:=by
 obtain ⟨ao,cap,rfl,hle,h⟩:=h
 refine ⟨ao,cap,rfl,hle,fun i hi=>?_⟩
 obtain ⟨b,o,rfl,hc⟩:=h i hi
 have q:w'.heap[b]?=w.heap[b]?:=hk _ _ _ rfl (by omega)
 exact ⟨b,o,rfl,(World.cell?_of_block (w:=w) (a:=⟨b,o+i,none⟩) q).trans hc⟩
theorem RI.os {w:World} {g c cap:Nat} {l:List Int} (h:RI w g l c):Disk.OS w 2 1 (.slice (some ⟨g,0,none⟩) l.length cap) l.length:=by
 obtain ⟨f,h,hN,e⟩:=h
 exact ⟨_,_,rfl,.inr ⟨g,c,f,rfl,by omega,h⟩⟩
theorem RI.set {w:World} {g c:Nat} {l:List Int} (h:RI w g l c) (i:Nat) (x:Int):RI (w.setCell ⟨g,i,none⟩ (.int .i64 x)) g (l.set i x) c:=by
 obtain ⟨f,h,hN,e⟩:=h
 refine ⟨_,h.set i _,by rw [List.length_set];exact hN,fun j hj=>?_⟩
 rw [List.length_set] at hj
 show (if j=i then Value.int .i64 x else f j)=_
 by_cases q:j=i
 ·subst q
  rw [if_pos rfl]
  simp [hj]
 ·rw [if_neg q,e j hj]
  simp [List.getD_eq_getElem?_getD,Ne.symm q]
theorem RI.setOther {w:World} {g b i c:Nat} {l:List Int} (h:RI w g l c) (hb:g ≠ b) (v:Value):RI (w.setCell ⟨b,i,none⟩ v) g l c:=by
 obtain ⟨f,h,r⟩:=h
 exact ⟨f,h.setOther (a:=⟨b,i,none⟩) hb v,r⟩
theorem RI.of_owns {w:World} {B g cap:Nat} {l:List Int} (h:w.ownsRow B 2 1 (.slice (some ⟨g,0,none⟩) l.length cap) l.length (icells l)):RI w g l cap/\B<=g/\cap<=maxLen:=by
 obtain ⟨hl,h⟩:=h
 rcases h with ⟨e,_⟩|⟨g',cap',cur,e,hB,hh,h1,h2,h3,h4⟩
 ·cases e
 ·simp only [Value.slice.injEq,Option.some.injEq,Addr.mk.injEq,true_and,and_true] at e
  obtain ⟨rfl,rfl⟩:=e
  refine ⟨⟨fun i=>cur[i]?.getD undef,⟨cur,hh,by omega,fun i hi=>by have q:i<cur.size:=(by omega);simp [q]⟩,h1,fun i hi=>?_⟩,hB,h2⟩
  have q:(cur.toList.take (l.length * 1))[i]?=(icells l)[i]?:=by rw [h4]
  rw [List.getElem?_take_of_lt (by omega)] at q
  show cur[i]?.getD undef=_
  rw [<- Array.getElem?_toList,q]
  simp [icells,hi]
theorem RI.owns {w:World} {B g cap:Nat} {l:List Int} (h:RI w g l cap) (hB:B<=g) (hm:cap<=maxLen):w.ownsRow B 2 1 (.slice (some ⟨g,0,none⟩) l.length cap) l.length (icells l):=by
 obtain ⟨f,⟨cur,hh,hs,hc⟩,hle,e⟩:=h
 refine ⟨by rw [Od];omega,.inr ⟨g,cap,cur,rfl,hB,hh,hle,hm,by omega,?_⟩⟩
 refine List.ext_getElem? fun i=>?_
 by_cases hi:i<l.length
 ·rw [List.getElem?_take_of_lt (by omega),Array.getElem?_toList,hc i (by omega),e i hi]
  simp [icells,hi]
 ·rw [List.getElem?_eq_none (by rw [List.length_take];omega),List.getElem?_eq_none (by rw [Od];omega)]
theorem Rb (W l:List Int) (off i:Nat) (h:off+l.length<=W.length):(splice W off l).getD i 0=if i<off then W.getD i 0 else if i<off+l.length then l.getD (i - off) 0 else W.getD i 0:=by
 unfold splice
 simp only [List.getD_eq_getElem?_getD]
 by_cases h1:i<off
 ·rw [if_pos h1,List.getElem?_append_left (by rw [List.length_take];omega),List.getElem?_take_of_lt h1]
 ·rw [if_neg h1,List.getElem?_append_right (by rw [List.length_take];omega),List.length_take,show min off W.length=off from by omega]
  by_cases h2:i<off+l.length
  ·rw [if_pos h2,List.getElem?_append_left (by omega)]
  ·rw [if_neg h2,List.getElem?_append_right (by omega),List.getElem?_drop,show off+l.length+(i - off - l.length)=i from by omega]
theorem Uj {w:World} {g off:Nat} {W l:List Int} {cur:Array Value} (hg:w.heap[g]?=some (.cells cur 2 (0,0))) (hW:W.length<=cur.size) (hc:∀ i,i<W.length->cur[i]?=some (.int .i64 (W.getD i 0))) (h:off+l.length<=W.length) :
  RI (w.setRow g (cur.toList.take off ++ (icells l ++ cur.toList.drop (off+(icells l).length))).toArray) g (splice W off l) cur.size:=by
 have hlen:=length_splice W off l h
 have hl:=Od l
 refine ⟨fun i=>(cur.toList.take off ++ (icells l ++ cur.toList.drop (off+(icells l).length)))[i]?.getD undef,⟨_,setRow_heap w g cur _ 2 _ hg,?_,fun i hi=>?_⟩,by omega,fun i hi=>?_⟩
 ·simp
  omega
 ·have:i<(cur.toList.take off ++ (icells l ++ cur.toList.drop (off+(icells l).length))).length:=by simp;omega
  rw [List.getElem?_toArray]
  show (cur.toList.take off ++ (icells l ++ cur.toList.drop (off+(icells l).length)))[i]?=some ((cur.toList.take off ++ (icells l ++ cur.toList.drop (off+(icells l).length)))[i]?.getD undef)
  rw [List.getElem?_eq_getElem this]
  rfl
 ·rw [hlen] at hi
  rw [Rb W l off i h]
  show (cur.toList.take off ++ (icells l ++ cur.toList.drop (off+(icells l).length)))[i]?.getD undef=_
  have hci:cur.toList[i]?=some (.int .i64 (W.getD i 0)):=by rw [Array.getElem?_toList];exact hc i hi
  have hcl:cur.toList.length=cur.size:=by simp
  by_cases h1:i<off
  ·rw [if_pos h1,List.getElem?_append_left (by rw [List.length_take];omega),List.getElem?_take_of_lt h1,hci]
   rfl
  ·rw [if_neg h1,List.getElem?_append_right (by rw [List.length_take];omega),List.length_take,show min off cur.toList.length=off from by omega]
   by_cases h2:i<off+l.length
   ·rw [if_pos h2,List.getElem?_append_left (by omega)]
    have:i - off<l.length:=by omega
    simp [icells,this]
   ·rw [if_neg h2,List.getElem?_append_right (by omega),List.getElem?_drop,show off+(icells l).length+(i - off - (icells l).length)=i from by omega,hci]
    rfl
theorem I6 (w:World) (g:Nat) (cs:Array Value):w.grownBy (w.setRow g cs) (some g) :=
 ⟨rfl,rfl,rfl,by simp [World.setRow],fun k _ hr=>setRow_other w g k cs (fun e=>hr (by rw [e]))⟩
theorem U8 (w:World) (n:Nat):RI (w.alloc (.cells (madeCells #[.int .i64 0] n) 2)) w.heap.size (List.replicate n 0) n:=by
 refine ⟨_,World.rowIs_made w _ n 2,by simp,fun i hi=>?_⟩
 simp at hi
 simp [hi]
def Pz:Hp:=⟨[],[],0,0,0,false,0,[]⟩
theorem Rw {b:Nat} (k:Disk.rowOf (.slice none 0 0) 0=some b):False:=by
 unfold Disk.rowOf at k
 rw [if_pos rfl] at k
 cases k
theorem Jkn (B:Nat) (w:World):HN B w (.agg #[.slice none 0 0,.slice none 0 0,.int .i64 0,.int .i64 0,.int .i64 0,.bool false,.int .i64 0,.slice none 0 0]) Pz :=
 ⟨_,_,_,rfl,⟨⟨_,_,rfl,.inl rfl⟩,⟨_,_,rfl,.inl rfl⟩,⟨_,_,rfl,.inl rfl⟩⟩,⟨⟨_,_,rfl,Nat.le_refl _,fun i hi=>absurd hi (Nat.not_lt_zero i)⟩,⟨_,_,rfl,Nat.le_refl _,fun i hi=>absurd hi (Nat.not_lt_zero i)⟩,⟨_,_,rfl,Nat.le_refl _,fun i hi=>absurd hi (Nat.not_lt_zero i)⟩⟩,
  ⟨fun _ k=>(Rw k).elim,fun _ k=>(Rw k).elim,fun _ k=>(Rw k).elim⟩,fun _ _ k=>Rw k,fun _ _ k=>Rw k,fun _ _ k=>Rw k⟩
end Go.Proofs.YtboiknllmnfipaaGreatDoor
/- Header of the model and of the program. -/
namespace Go.Proofs.YtboiknllmnfipaaGreatDoor
open Go.RowKit
theorem Jhc {l:List Nat} {k:Nat} {x:Int} (h:k<l.length) (e:((l.getD k 0:Nat):Int)=x):(ints l).contains x=true:=by
 rw [List.contains_iff_mem,← e]
 exact List.mem_map.2 ⟨_,Pj l k h,rfl⟩
theorem Jip {l:List Nat} {x:Int} (h:∀ j,j<l.length->((l.getD j 0:Nat):Int) ≠ x):(ints l).contains x=false:=by
 rw [Bool.eq_false_iff]
 intro q
 rw [List.contains_iff_mem] at q
 obtain ⟨a,ha,rfl⟩:=List.mem_map.1 q
 obtain ⟨i,hi,e⟩:=List.getElem_of_mem ha
 exact h i hi (by simp [hi,e])
set_option maxHeartbeats 800000 in
theorem Jii (v:Value) (h:Hp) (x:Int) (w:World) (hv:HR w v h) (hk:okC h=true) :
  Calls Tryz.prog 102 #[v,.int .i64 x] w fun e w'=>e=.returned (.bool (isC h x))/\Below w.heap.size w w':=by
 obtain ⟨v1,v2,v3,rfl,i1,i2,i3⟩:=id hv
 have hb0:=C5 w (.cells #[v1,v2,.int .i64 h.old,.int .i64 h.eden,.int .i64 h.surv,.bool h.flip,.int .i64 h.hash,v3] 30)
 have A:=Jlj _ h _ (hv.later hb0) hk
 have hs:=Jaj h
 have IE:Hid (isC h x=(ints (obC h)).contains x):=(rfl:isC h x=(ints (obC h)).contains x)
 generalize isC h x=r at *
 generalize obC h=l at *
 clear i1 i2 i3 hk
 go_enter Tryz.func102,Tryz.ntmps102
 go_wp2_with fail
 refine A.mono ?_
 rintro e w1 ⟨⟨v',rfl,ho⟩,hb1⟩
 have hbw:=C3 hb0 hb1
 obtain ⟨ao,cp,rfl,hc⟩:=Si ho
 go_wp2
 go_loopw [6] (fun kv wr=>∃ k:Nat,k<=l.length/\kv=.int .i64 k/\Hid (∀ j,j<k->((l.getD j 0:Nat):Int) ≠ x)/\wr=w1) (fun kv _=>l.length - (intOf kv).toNat)
 case atStart=>exact ⟨0,Nat.zero_le _,rfl,fun j hj=>by omega,rfl⟩
 case round =>
  obtain ⟨k,hk,rfl,hj,hwr⟩:=hrel
  obtain rfl:=hwr.symm
  clear hwr
  by_cases hlt:k<l.length
  ·obtain ⟨b,o,rfl,ci⟩:=hc k hlt
   have NX:Hid (((l.getD k 0:Nat):Int) ≠ x->∀ j,j<k+1->((l.getD j 0:Nat):Int) ≠ x):=fun e=>J9 hj.out e
   have YES:Hid (((l.getD k 0:Nat):Int)=x->(ints l).contains x=true):=fun e=>Jhc hlt e
   clear hj
   generalize ((l.getD k 0:Nat):Int)=a at *
   by_cases hx:a=x
   ·have G:Hid (r=true):=(by rw [IE.out];exact YES.out hx:r=true)
    have hb:(a == x)=true:=by simpa using hx
    clear NX YES
    subst hx
    go_wp2
    go_ret
    exact ⟨E7 G.out.symm,hbw⟩
   ·have N:=NX.out hx
    have hb:(a == x)=false:=by simpa using hx
    clear NX YES
    go_wp2
    exact ⟨⟨k+1,by omega,by go_num,N,trivial⟩,by simp [intOf];omega⟩
  ·obtain rfl:k=l.length:=by omega
   have G:Hid (r=false):=(by rw [IE.out];exact Jip hj.out:r=false)
   go_wp2
   go_ret
   exact ⟨E7 G.out.symm,hbw⟩
end Go.Proofs.YtboiknllmnfipaaGreatDoor
/- New, Room, AddRoot and SetRoot in plain words. -/
namespace Go.Proofs.YtboiknllmnfipaaGreatDoor
open Go.RowKit
noncomputable def Pu (h:Hp) (x:Int):Bool:=okC h && (I8 (obC h) x && !decide (h.roots.length=20))
noncomputable def Y8 (h:Hp) (x:Int):Hp:=if Pu h x=true then { h with roots:=h.roots ++ [x] } else Pz
noncomputable def Vr (h:Hp) (i x:Int):Bool:=okC h && (I8 (obC h) x && decide (0<=i/\i<h.roots.length))
noncomputable def Jbd (h:Hp) (i x:Int):Hp:=if Vr h i x=true then { h with roots:=h.roots.set i.toNat x } else Pz
noncomputable def Qi (h:Hp) (k n:Int):Bool:=okC h && (decide (0<=k/\k<=99) && (decide (0<=n/\n<=60) && (!decide (h.hash=1000000000) && decide (h.eden+4+n<=2600))))
def N7 (h:Hp) (k n:Int):Hp:={ h with words:=((h.words.set h.eden.toNat n).set (h.eden.toNat+1) k).set (h.eden.toNat+2) h.hash,hash:=h.hash+1,eden:=h.eden+4+n }
noncomputable def Xx (h:Hp) (k n:Int):Hp:=if Qi h k n=true then N7 h k n else Pz
noncomputable def T5 (h:Hp) (k n:Int):Int:=if Qi h k n=true then 2 * h.eden+1 else 0
theorem Py {h:Hp} (k:okC h=true):h.words.length=3200/\2000<=h.eden/\h.eden<=2600/\1<=h.hash/\h.hash<=1000000000/\h.roots.length<=20:=by
 have q:=Oa k
 exact ⟨q.1.1,q.1.2.2.1.1,q.1.2.2.1.2,q.2.2.1.1,q.2.2.1.2,q.2.2.2.2.2.1⟩
theorem Jex {h:Hp} (k:okC h=true) (i:Nat) (h1:h.eden<=i) (h2:i<2600):h.words.getD i 0=0:=by
 have q:=(Oa k).2.1
 have e:=Py k
 refine q i (by omega) ?_
 have hs:2600<=H9 h.flip:=by unfold H9;split <;> omega
 have ho:=(Oa k).1.2.1
 unfold Pg
 omega
theorem Yy (W:List Int) (i:Nat) (h:W.getD i 0=0):W.set i 0=W:=by
 refine List.ext_getElem? fun j=>?_
 rw [List.getElem?_set]
 by_cases e:i=j
 ·subst e
  by_cases hl:i<W.length
  ·rw [if_pos rfl,if_pos hl]
   simp [List.getD_eq_getElem?_getD,hl] at h
   simp [hl,h]
  ·rw [if_pos rfl,if_neg hl,List.getElem?_eq_none (by omega)]
 ·rw [if_neg e]
theorem Jcg (W:List Int) (i:Nat) (a b c d:Int) (h:i+4<=W.length):splice W i [a,b,c,d]=(((W.set i a).set (i+1) b).set (i+2) c).set (i+3) d:=by
 refine Ps (by rw [length_splice _ _ _ h];simp) fun j hj=>?_
 rw [length_splice _ _ _ h] at hj
 rw [Rb _ _ _ _ h]
 simp only [List.getD_eq_getElem?_getD,List.getElem?_set,List.length_set,List.length_cons,List.length_nil]
 by_cases h0:j<i
 ·simp [h0,show ¬ i+3=j from by omega,show ¬ i+2=j from by omega,show ¬ i+1=j from by omega,show ¬ i=j from by omega]
 by_cases h1:j=i
 ·subst h1
  simp [hj]
 by_cases h2:j=i+1
 ·subst h2
  simp [hj]
  omega
 by_cases h3:j=i+2
 ·subst h3
  simp [hj]
  omega
 by_cases h4:j=i+3
 ·subst h4
  simp [hj]
  omega
 ·simp [h0,show ¬ j<i+(0+1+1+1+1) from by omega,show ¬ i+3=j from by omega,show ¬ i+2=j from by omega,show ¬ i+1=j from by omega,show ¬ i=j from by omega]
end Go.Proofs.YtboiknllmnfipaaGreatDoor
/- Get, Set, ClassOf and HashOf in plain words: a heap in which one field is set is right, and what is kept of it. -/
namespace Go.Proofs.YtboiknllmnfipaaGreatDoor
open Go.RowKit
noncomputable def Yw (h:Hp) (x:Int):Bool:=decide (H8 x=2) && (ints (obC h)).contains (x / 2)
noncomputable def Tw (h:Hp) (x i y:Int):Bool:=okC h && (I8 (obC h) y && (Yw h x && decide (0<=i/\i<gw h.words (x / 2).toNat)))
noncomputable def Vg (h:Hp) (a i:Nat) (y:Int):Hp:={ h with words:=h.words.set (a+4+i) y,kept:=N9 (h.words.set (a+4+i) y) (obC h) }
noncomputable def Jbc (h:Hp) (x i y:Int):Hp:=if Tw h x i y=true then Vg h (x / 2).toNat i.toNat y else Pz
theorem Zx {h:Hp} {x i y:Int} (k:Tw h x i y=false):Jbc h x i y=Pz:=by unfold Jbc;rw [k];rfl
theorem Jkv {h:Hp} {x i y:Int} (k:Tw h x i y=true):Jbc h x i y=Vg h (x / 2).toNat i.toNat y:=by unfold Jbc;rw [k];rfl
theorem Jju {h:Hp} {x:Int} (k:Yw h x=true):H8 x=2/\∃ a:Nat,a ∈ obC h/\x / 2=a:=by
 unfold Yw at k
 rw [Bool.and_eq_true,List.contains_iff_mem] at k
 obtain ⟨a,ha,e⟩:=List.mem_map.1 k.2
 exact ⟨of_decide_eq_true k.1,a,ha,e.symm⟩
theorem Uf (W:List Int) (k j:Nat) (y:Int) (h:k<W.length):gw (W.set k y) j=if j=k then y else gw W j:=by
 unfold gw
 simp only [List.getD_eq_getElem?_getD,List.getElem?_set]
 by_cases e:k=j
 ·subst e
  simp [h]
 ·rw [if_neg e,if_neg (Ne.symm e)]
theorem Qd {W:List Int} {f n a b:Nat} (ha:a ∈ its W f n) (hb:b ∈ its W f n) (h:a<b):nx W a<=b:=by
 obtain ⟨i,_,rfl⟩:=mem_its.1 ha
 obtain ⟨j,_,rfl⟩:=mem_its.1 hb
 exact U3 (Jli h)
theorem J5 {W:List Int} {f t n a:Nat} (g:Goes W f t n) (ha:a ∈ its W f n):f<=a/\nx W a<=t/\a+4<=nx W a:=by
 obtain ⟨i,hi,rfl⟩:=mem_its.1 ha
 have h1:=U3 (W:=W) (f:=f) hi
 have h2:=Ph W f i
 have h3:=R9 W f i
 rw [g.1] at h1
 exact ⟨by omega,h1,h3⟩
theorem PartsAt.used {h:Hp} {l:List Nat} (k:PartsAt h l) {a j:Nat} (ha:a ∈ l) (h1:a<=j) (h2:j<nx h.words a):Pg h j:=by
 obtain ⟨_,r0,r1,r2,n0,n1,n2,g0,g1,g2,rfl⟩:=k
 rw [List.mem_append,List.mem_append] at ha
 unfold Pg
 rcases ha with (ha|ha)|ha
 ·have:=J5 g0 ha;omega
 ·have:=J5 g1 ha;omega
 ·have:=J5 g2 ha;omega
theorem PartsAt.apart {h:Hp} {l:List Nat} (k:PartsAt h l) {a b:Nat} (ha:a ∈ l) (hb:b ∈ l) (hab:a<b):nx h.words a<=b:=by
 obtain ⟨_,r0,r1,r2,n0,n1,n2,g0,g1,g2,rfl⟩:=k
 have hs:2600<=H9 h.flip:=by unfold H9;split <;> omega
 rw [List.mem_append,List.mem_append] at ha hb
 rcases ha with (ha|ha)|ha
 ·have q:=J5 g0 ha
  rcases hb with (hb|hb)|hb
  ·exact Qd ha hb hab
  ·have:=J5 g1 hb;omega
  ·have:=J5 g2 hb;omega
 ·have q:=J5 g1 ha
  rcases hb with (hb|hb)|hb
  ·have:=J5 g0 hb;omega
  ·exact Qd ha hb hab
  ·have:=J5 g2 hb;omega
 ·have q:=J5 g2 ha
  rcases hb with (hb|hb)|hb
  ·have:=J5 g0 hb;omega
  ·have:=J5 g1 hb;omega
  ·exact Qd ha hb hab
theorem Wk {W V:List Int} {f n:Nat} (h:∀ i,i<n->gw V (it W f i)=gw W (it W f i)):∀ i,i<=n->it V f i=it W f i
 | 0,_=>rfl
 | i+1,hi=>by
  have q:=Wk h i (by omega)
  show nx V (it V f i)=nx W (it W f i)
  rw [q]
  unfold nx
  rw [h i (by omega)]
theorem Jhx {W V:List Int} {f n:Nat} (h:∀ i,i<n->gw V (it W f i)=gw W (it W f i)):its V f n=its W f n:=by
 unfold its
 refine List.map_congr_left fun i hi=>Wk h i ?_
 rw [List.mem_range] at hi
 omega
theorem Jgd {W V:List Int} {a:Nat} (h:∀ k,k<4->gw V (a+k)=gw W (a+k)):M7 V a=M7 W a:=by
 unfold M7
 rw [show gw V a=gw W a from h 0 (by omega),h 1 (by omega),h 3 (by omega)]
theorem Og {W V:List Int} {f t n:Nat} (g:Goes W f t n) (h:∀ a,a ∈ its W f n->∀ k,k<4->gw V (a+k)=gw W (a+k)):Goes V f t n/\its V f n=its W f n:=by
 have q:∀ i,i<n->gw V (it W f i)=gw W (it W f i):=fun i hi=>h _ (mem_its.2 ⟨i,hi,rfl⟩) 0 (by omega)
 refine ⟨⟨(Wk q n (Nat.le_refl _)).trans g.1,fun i hi=>?_⟩,Jhx q⟩
 rw [Wk q i (by omega),Jgd (h _ (mem_its.2 ⟨i,hi,rfl⟩))]
 exact g.2 i hi
theorem Yj {h:Hp} {l:List Nat} (k:PartsAt h l) (V kp rt:List Int) (hs:Int) (hl:V.length=h.words.length) (hh:∀ a,a ∈ l->∀ k,k<4->gw V (a+k)=gw h.words (a+k)):PartsAt { h with words:=V,kept:=kp,roots:=rt,hash:=hs } l:=by
 obtain ⟨h0,r0,r1,r2,n0,n1,n2,g0,g1,g2,rfl⟩:=k
 have G0:=Og g0 (fun a ha=>hh a (by simp [ha]))
 have G1:=Og g1 (fun a ha=>hh a (by simp [ha]))
 have G2:=Og g2 (fun a ha=>hh a (by simp [ha]))
 refine ⟨hl.trans h0,r0,r1,r2,n0,n1,n2,G0.1,G1.1,G2.1,?_⟩
 show _=its V 0 n0 ++ its V 2000 n1 ++ its V (H9 h.flip) n2
 rw [G0.2,G1.2,G2.2]
section
variable {h : Hp} {l : List Nat} (R : RightAt h l) {a i : Nat} (ha : a ∈ l) (hi : (i : Int) < gw h.words a) (y : Int)
include R ha hi
theorem Xj:a+4+i<nx h.words a/\a+4+i<3200:=by
 have q:=R.1.obj ha
 have:nx h.words a=a+4+(gw h.words a).toNat:=rfl
 omega
theorem Jcq (j:Nat):gw (h.words.set (a+4+i) y) j=if j=a+4+i then y else gw h.words j :=
 Uf _ _ _ _ (by have:=Xj R ha hi;have:=R.1.1;omega)
theorem Jkd {b j:Nat} (hb:b ∈ l) (hb' : b ≠ a) (h1:b<=j) (h2:j<nx h.words b):j ≠ a+4+i:=by
 have q:=Xj R ha hi
 rcases Nat.lt_or_gt_of_ne hb' with k|k
 ·have:=R.1.apart hb ha k;omega
 ·have:=R.1.apart ha hb k;omega
theorem Sy {b k:Nat} (hb:b ∈ l) (hk:k<4):gw (h.words.set (a+4+i) y) (b+k)=gw h.words (b+k):=by
 rw [Jcq R ha hi,if_neg]
 by_cases e:b=a
 ·omega
 ·refine Jkd R ha hi hb e (by omega) ?_
  have:nx h.words b=b+4+(gw h.words b).toNat:=rfl
  omega
theorem Jmg {b:Nat} (hb:b ∈ l):nx (h.words.set (a+4+i) y) b=nx h.words b:=by
 unfold nx
 rw [show gw (h.words.set (a+4+i) y) b=gw h.words b from Sy R ha hi y hb (k:=0) (by omega)]
theorem Jgb (hy:I8 l y=true):RightAt { h with words:=h.words.set (a+4+i) y,kept:=N9 (h.words.set (a+4+i) y) l } l:=by
 obtain ⟨p,z,hh,h1,h2,r1,r2,f,k⟩:=id R
 refine ⟨Yj p _ _ h.roots h.hash (by simp) (fun b hb k hk=>Sy R ha hi y hb hk),fun j hj hn=>?_,hh,fun b hb=>?_,⟨fun b hb=>?_,?_⟩,r1,r2,fun b hb=>?_,rfl⟩
 ·show gw (h.words.set (a+4+i) y) j=0
  rw [Jcq R ha hi,if_neg]
  ·exact z j hj hn
  ·rintro rfl
   exact hn (p.used ha (by omega) (Xj R ha hi).1)
 ·show 1<=gw (h.words.set (a+4+i) y) (b+2)
  rw [Sy R ha hi y hb (by omega)]
  exact h1 b hb
 ·show gw (h.words.set (a+4+i) y) (b+2)<h.hash
  rw [Sy R ha hi y hb (by omega)]
  exact h2.1 b hb
 ·have e:I4 (h.words.set (a+4+i) y) l=I4 h.words l:=List.map_congr_left fun b hb=>Sy R ha hi y hb (by omega)
  show (I4 (h.words.set (a+4+i) y) l).Nodup
  rw [e]
  exact h2.2
 ·intro j j1 j2
  show I8 l (gw (h.words.set (a+4+i) y) j)=true
  have j2' : j<nx (h.words.set (a+4+i) y) b:=j2
  rw [Jmg R ha hi y hb] at j2'
  rw [Jcq R ha hi]
  split
  ·exact hy
  ·exact f b hb j j1 j2'
end
def lw (k:List Int) (n:Int) (b:Bool):List Int :=
 if b=true then (if k.contains n=true then k else k.take (k.countP (· < n)) ++ n::k.drop (k.countP (· < n))) else (if k.contains n=true then k.take (k.countP (· < n)) ++ k.drop (k.countP (· < n)+1) else k)
theorem Ue {h:Hp} {l:List Nat} (R:RightAt h l):h.kept.length<=3200:=by
 rw [<- R.2.2.2.2.2.2.2.2]
 unfold N9
 rw [J0]
 exact Nat.le_trans (List.length_filter_le _ _) R.1.short
end Go.Proofs.YtboiknllmnfipaaGreatDoor
/- A heap with a new object is right. -/
namespace Go.Proofs.YtboiknllmnfipaaGreatDoor
open Go.RowKit
theorem Jaz {l l' : List Nat} (h:∀ a,a ∈ l->a ∈ l') {x:Int} (k:I8 l x=true):I8 l' x=true:=by
 unfold I8 at k ⊢
 rw [Bool.or_eq_true,Bool.and_eq_true] at k ⊢
 rcases k with k|⟨k1,k2⟩
 ·exact .inl k
 ·refine .inr ⟨k1,?_⟩
  rw [List.contains_iff_mem] at k2 ⊢
  obtain ⟨a,ha,e⟩:=List.mem_map.1 k2
  exact List.mem_map.2 ⟨a,h a ha,e⟩
theorem Jhm (l:List Nat):I8 l 0=true:=by
 unfold I8
 rw [show H8 0=1 from by decide]
 rfl
theorem Jil {W:List Int} {l:List Nat} (h:(I4 W l).Nodup) {a b:Nat} (ha:a ∈ l) (hb:b ∈ l) (e:gw W (a+2)=gw W (b+2)):a=b:=by
 unfold I4 at h
 rw [List.nodup_iff_pairwise_ne,List.pairwise_map,List.pairwise_iff_getElem] at h
 obtain ⟨i,hi,ei⟩:=List.getElem_of_mem ha
 obtain ⟨j,hj,ej⟩:=List.getElem_of_mem hb
 rcases Nat.lt_trichotomy i j with q|q|q
 ·have:=h i j hi hj q
  rw [ei,ej] at this
  exact absurd e this
 ·subst q
  exact ei.symm.trans ej
 ·have:=h j i hj hi q
  rw [ei,ej] at this
  exact absurd e.symm this
theorem Jfa {h:Hp} {k n:Int} (q:Qi h k n=true):∃ l',RightAt (N7 h k n) l' /\ h.eden.toNat ∈ l' /\ (∀ a,a ∈ obC h->a ∈ l')/\l'.length=(obC h).length+1:=by
 unfold Qi at q
 rw [Bool.and_eq_true,Bool.and_eq_true,Bool.and_eq_true,Bool.and_eq_true] at q
 obtain ⟨hk,q1,q2,q3,q4⟩:=q
 have R:=Oa hk
 have k1:=of_decide_eq_true q1
 have k2:=of_decide_eq_true q2
 have k4:=of_decide_eq_true q4
 have k3:¬ h.hash=1000000000:=by simpa using q3
 have ok:=Py hk
 have nz:=fun i=>Jex hk i
 obtain ⟨m,hm⟩:∃ m:Nat,h.eden=m:=⟨h.eden.toNat,by omega⟩
 obtain ⟨p,z,hh,h1,h2,r1,r2,f,kp⟩:=id R
 have so:=((Th R.1.1).1 R).1.sorted
 have G:∀ j,gw (N7 h k n).words j=if j=m+2 then h.hash else if j=m+1 then k else if j=m then n else gw h.words j:=fun j=>by
  show gw (((h.words.set h.eden.toNat n).set (h.eden.toNat+1) k).set (h.eden.toNat+2) h.hash) j=_
  rw [hm,Int.toNat_natCast,Uf _ _ _ _ (by simp;omega),Uf _ _ _ _ (by simp;omega),Uf _ _ _ _ (by omega)]
 have O:∀ j,(j<m ∨ m+3<=j)->gw (N7 h k n).words j=gw h.words j:=fun j hj=>by
  rw [G,if_neg (by omega),if_neg (by omega),if_neg (by omega)]
 obtain ⟨_,p0,p1,p2,n0,n1,n2,g0,g1,g2,el⟩:=p
 rw [hm,Int.toNat_natCast] at g1
 have hs:2600<=H9 h.flip:=by unfold H9;split <;> omega
 have G0:=Og (V:=(N7 h k n).words) g0 (fun a ha j hj=>O _ (.inl (by have:=J5 g0 ha;omega)))
 have G1:=Og (V:=(N7 h k n).words) g1 (fun a ha j hj=>O _ (.inl (by have:=J5 g1 ha;omega)))
 have G2:=Og (V:=(N7 h k n).words) g2 (fun a ha j hj=>O _ (.inr (by have:=J5 g2 ha;omega)))
 have em:it (N7 h k n).words 2000 n1=m:=G1.1.1
 have gm:gw (N7 h k n).words m=n:=by rw [G,if_neg (by omega),if_neg (by omega),if_pos rfl]
 have nxm:nx (N7 h k n).words m=m+4+n.toNat:=by unfold nx;rw [gm]
 have g3:gw (N7 h k n).words (m+3)=0:=by rw [O _ (.inr (by omega))];exact nz (m+3) (by omega) (by omega)
 have E1:its (N7 h k n).words 2000 (n1+1)=its h.words 2000 n1 ++ [m]:=by rw [Px,em,G1.2]
 have P' : PartsAt (N7 h k n) (its h.words 0 n0 ++ (its h.words 2000 n1 ++ [m]) ++ its h.words (H9 h.flip) n2):=by
  refine ⟨by show (((h.words.set _ _).set _ _).set _ _).length=3200;simp;exact ok.1,p0,⟨by show 2000<=h.eden+4+n;omega,by show h.eden+4+n<=2600;omega⟩,p2,n0,n1+1,n2,G0.1,?_,G2.1,?_⟩
  ·show Goes (N7 h k n).words 2000 (h.eden+4+n).toNat (n1+1)
   refine ⟨?_,fun i hi=>?_⟩
   ·show nx _ (it _ 2000 n1)=_
    rw [em,nxm]
    omega
   ·rcases Nat.lt_or_ge i n1 with c|c
    ·exact G1.1.2 i c
    ·obtain rfl:i=n1:=by omega
     rw [em]
     unfold M7
     rw [gm,g3,G,if_neg (by omega),if_pos rfl]
     simp
     omega
  ·show _=its (N7 h k n).words 0 n0 ++ its (N7 h k n).words 2000 (n1+1) ++ its (N7 h k n).words (H9 h.flip) n2
   rw [G0.2,E1,G2.2]
 have mem:∀ a,a ∈ its h.words 0 n0 ++ (its h.words 2000 n1 ++ [m]) ++ its h.words (H9 h.flip) n2 ↔ a ∈ obC h ∨ a=m:=fun a=>by
  rw [el]
  simp only [List.mem_append,List.mem_singleton]
  constructor
  ·rintro ((q|q|q)|q)
   ·exact .inl (.inl (.inl q))
   ·exact .inl (.inl (.inr q))
   ·exact .inr q
   ·exact .inl (.inr q)
  ·rintro (((q|q)|q)|q)
   ·exact .inl (.inl q)
   ·exact .inl (.inr (.inl q))
   ·exact .inr q
   ·exact .inl (.inr (.inr q))
 have out:∀ a,a ∈ obC h->nx h.words a<=m ∨ m+3<=a:=fun a ha=>by
  rw [el,List.mem_append,List.mem_append] at ha
  rcases ha with (ha|ha)|ha
  ·have:=J5 g0 ha;omega
  ·have:=J5 g1 ha;omega
  ·have:=J5 g2 ha;omega
 have cell:∀ a,a ∈ obC h->∀ j,a<=j->j<nx h.words a->gw (N7 h k n).words j=gw h.words j:=fun a ha j j1 j2=>O j (by have:=out a ha;omega)
 have nxs:∀ a,a ∈ obC h->nx (N7 h k n).words a=nx h.words a:=fun a ha=>by
  have e:nx h.words a=a+4+(gw h.words a).toNat:=rfl
  unfold nx
  rw [cell a ha a (Nat.le_refl _) (by omega)]
 have hsh:∀ a,a ∈ obC h->gw (N7 h k n).words (a+2)=gw h.words (a+2):=fun a ha=>by
  have e:nx h.words a=a+4+(gw h.words a).toNat:=rfl
  exact cell a ha _ (by omega) (by omega)
 have hsm:gw (N7 h k n).words (m+2)=h.hash:=by rw [G,if_pos rfl]
 have Z' : noughts (N7 h k n):=fun i hi hn=>by
  have hn' : ¬ Pg h i:=fun u=>hn (by
   unfold Pg at u ⊢
   show (i:Int)<h.old ∨ (2000<=i/\(i:Int)<h.eden+4+n) ∨ (H9 h.flip<=i/\(i:Int)<h.surv)
   omega)
  have hm' : ¬ (m<=i/\i<m+3):=fun u=>hn (by
   unfold Pg
   show (i:Int)<h.old ∨ (2000<=i/\(i:Int)<h.eden+4+n) ∨ (H9 h.flip<=i/\(i:Int)<h.surv)
   omega)
  rw [O i (by omega)]
  exact z i hi hn'
 have H1:∀ a,a ∈ its h.words 0 n0 ++ (its h.words 2000 n1 ++ [m]) ++ its h.words (H9 h.flip) n2->1<=gw (N7 h k n).words (a+2):=fun a ha=>by
  rcases (mem a).1 ha with q|rfl
  ·rw [hsh a q];exact h1 a q
  ·rw [hsm];exact hh.1
 have so':=((U1 P'.1).2 ⟨P',Z',H1⟩).sorted
 refine ⟨_,⟨P',Z',⟨by show 1<=h.hash+1;omega,by show h.hash+1<=1000000000;omega⟩,H1,⟨fun a ha=>?_,?_⟩,r1,fun x hx=>Jaz (fun a ha=>(mem a).2 (.inl ha)) (r2 x hx),fun a ha=>?_,?_⟩,by rw [hm,Int.toNat_natCast];exact (mem m).2 (.inr rfl),fun a ha=>(mem a).2 (.inl ha),?_⟩
 ·show gw (N7 h k n).words (a+2)<h.hash+1
  rcases (mem a).1 ha with q|rfl
  ·rw [hsh a q];have:=h2.1 a q;omega
  ·rw [hsm];omega
 ·unfold I4
  rw [List.nodup_iff_pairwise_ne,List.pairwise_map]
  refine List.Pairwise.imp_of_mem (fun {a b} ha hb lt e=>?_) so'
  rcases (mem a).1 ha with qa|rfl <;> rcases (mem b).1 hb with qb|rfl
  ·rw [hsh a qa,hsh b qb] at e
   have:=Jil h2.2 qa qb e
   omega
  ·rw [hsh a qa,hsm] at e
   have:=h2.1 a qa
   omega
  ·rw [hsh b qb,hsm] at e
   have:=h2.1 b qb
   omega
  ·omega
 ·intro j j1 j2
  rcases (mem a).1 ha with q|rfl
  ·rw [nxs a q] at j2
   rw [cell a q j (by omega) j2]
   exact Jaz (fun b hb=>(mem b).2 (.inl hb)) (f a q j j1 j2)
  ·rw [nxm] at j2
   rw [O j (.inr (by omega)),show gw h.words j=0 from nz j (by omega) (by omega)]
   exact Jhm _
 ·show N9 (N7 h k n).words _=h.kept
  rw [<- kp]
  have same:∀ l:List Nat,(∀ a,a ∈ l->a ∈ obC h)->l.filter (fun a=>decide (a<2000) && Tg (N7 h k n).words a)=l.filter (fun a=>decide (a<2000) && Tg h.words a):=fun l hl=>by
   refine List.filter_congr fun a ha=>?_
   have qa:=hl a ha
   have e:Tg (N7 h k n).words a=Tg h.words a:=by
    unfold Tg flds
    have e0:nx h.words a=a+4+(gw h.words a).toNat:=rfl
    rw [cell a qa a (Nat.le_refl _) (by omega)]
    congr 1
    refine List.map_congr_left fun i hi=>?_
    rw [List.mem_range] at hi
    exact cell a qa _ (by omega) (by omega)
   rw [e]
  unfold N9
  rw [el]
  simp only [List.filter_append]
  rw [same (its h.words 0 n0) (fun a ha=>by rw [el];simp [ha]),same (its h.words 2000 n1) (fun a ha=>by rw [el];simp [ha]),same (its h.words (H9 h.flip) n2) (fun a ha=>by rw [el];simp [ha])]
  have:[m].filter (fun a=>decide (a<2000) && Tg (N7 h k n).words a)=[]:=by simp;omega
  rw [this,List.append_nil]
 ·rw [el]
  simp only [List.length_append,List.length_singleton]
  omega
theorem Jkh {h:Hp} {k n:Int} (q:Qi h k n=true) (hr:h.roots.length<20):Pu (Xx h k n) (T5 h k n)=true:=by
 obtain ⟨l',R,hm,-,-⟩:=Jfa q
 have e1:Xx h k n=N7 h k n:=by unfold Xx;rw [if_pos q]
 have e2:T5 h k n=2 * h.eden+1:=by unfold T5;rw [if_pos q]
 obtain ⟨ok,ob⟩:=Vy R
 rw [e1,e2]
 unfold Pu
 rw [ok,ob]
 have q':=q
 unfold Qi at q'
 rw [Bool.and_eq_true] at q'
 have o:=Py q'.1
 have hf:I8 l' (2 * h.eden+1)=true:=by
  have k2:H8 (2 * h.eden+1)=2:=by
   unfold H8 Rq
   rw [if_pos (by omega),if_pos (by simp;omega)]
  unfold I8
  rw [k2]
  have:(ints l').contains ((2 * h.eden+1) / 2)=true:=by
   rw [List.contains_iff_mem]
   exact List.mem_map.2 ⟨h.eden.toNat,hm,by omega⟩
  rw [this]
  rfl
 rw [hf]
 have:¬ (N7 h k n).roots.length=20:=by show ¬ h.roots.length=20;omega
 simp [this]
end Go.Proofs.YtboiknllmnfipaaGreatDoor
/- Theory of FnMade: what a heap with a new object is. -/
namespace Go.Proofs.YtboiknllmnfipaaGreatDoor
open Go.RowKit
theorem Jcb {h:Hp} (k:okC h=true):(shC h).roots.length<=20/\(shC h).nodes.length<=3200/\∀ n,n ∈ (shC h).nodes->n.fl.length<=1000:=by
 have R:=Oa k
 have e:shC h=shP h:=by unfold shC;rw [k];rfl
 rw [e]
 refine ⟨?_,?_,fun n hn=>?_⟩
 ·show (h.roots.map _).length<=20
  rw [List.length_map]
  exact R.2.2.2.2.2.1
 ·show ((C8 h.words h.roots).map _).length<=3200
  rw [List.length_map]
  exact O7 R
 ·obtain ⟨a,ha,rfl⟩:=List.mem_map.1 (show n ∈ (C8 h.words h.roots).map _ from hn)
  show ((flds h.words a).map _).length<=1000
  rw [List.length_map,N5]
  have:=L6 (R.1.obj (Sb R ha)).2.2
  omega
end Go.Proofs.YtboiknllmnfipaaGreatDoor
/- slices.Grow and slices.Concat at numbers. -/
namespace Go.Proofs.YtboiknllmnfipaaGreatDoor
open Go.RowKit
theorem Zv (n:Nat) (h0:0<n) (hn:n<=1000000000) (ty:TypeId) (w:World) :
  (Builtin.append_ #[24,3] ty #[.slice none 0 0,.int .i64 (n:Int)]).run Tryz.prog w=.ok (.slice (some ⟨w.heap.size,0,none⟩) n (grownCap w n 0 2)) (w.drew.alloc (.cells (Builtin.zeroCells #[.int .i64 0] n ++ Builtin.zeroCells #[.int .i64 0] (grownCap w n 0 2 - n)) 2)):=by
 obtain ⟨i,hi,hzz⟩:=Option.map_eq_some_iff.1 Tryz.infoI
 simp only [Prod.mk.injEq] at hzz
 obtain ⟨hz,hsz,hby⟩:=hzz
 have h1:¬ n=0:=by omega
 have h63' : ¬ (9223372036854775807<(n:Int)):=by omega
 have h48' : ¬ (281474976710656<Builtin.nextslicecap n 0 * 8):=by rw [nextslicecap_zero h0];omega
 have wl:IntKind.i64.wrap (n:Int)=n:=by rw [IntKind.wrap_i64];omega
 have n1:¬ (n:Int)<0:=by omega
 have n2:¬ (281474976710656<(n:Int) * 8):=by omega
 simp [Builtin.append_,run_underlying Tryz.underlying24,run_underlying Tryz.underlying3,asInt,asIntOf,sizeOf,typeInfo,zeroValue,hi,hz,hsz,hby,h1,h63',h48',wl,n1,n2,Question.forced,run_firstCells_none,newRow,grownCap,Value.cells]
section
variable {ops : Array Oper} {rest : List Oper} {o : Oper} {a : Act} {Q : Exit -> Act -> World -> Prop}
theorem Jjn (w:World) (hgd:o.guard=none) (s x:Operand) (ho:o.op=.call { callee:=.builtin .append,args:=#[s,x],argTypes:=#[24,3] }) (n:Nat) (hs:a.eval s=.slice none 0 0) (hx:a.eval x=.int .i64 (n:Int)) (h0:0<n) (hn:n<=1000000000)
  (h:∀ cap w',n<=cap->w'.ownsRow w.heap.size 2 1 (.slice (some ⟨w.heap.size,0,none⟩) 0 cap) 0 []->Below w.heap.size w w' -> wpList Tryz.prog ops Q rest (a.put o.dst (.slice (some ⟨w.heap.size,0,none⟩) n cap)) w'):wpList Tryz.prog ops Q (o::rest) a w:=by
 refine wpList_plain hgd fun K hK=>?_
 unfold Oper.wp execOp
 simp only [ho,resolve,invoke,builtin,Sem.run_bind,Sem.run_pure,Result.andThen_ok,List.map_toArray,List.map_cons,List.map_nil,hs,hx,Zv n h0 hn]
 have hge:=grownCap_ge w n 0 2
 refine hK _ _ (h (grownCap w n 0 2) _ hge ?_ ((Below.refl _ _).drew.alloc (by exact Nat.le_refl _) _))
 refine World.ownsRow_made w.drew _ (grownCap w n 0 2) (Nat.le_refl _) (grownCap_le_maxLen w n 0 2 (by unfold maxLen;omega)) ?_
 simp only [Array.size_append,size_zeroCells]
 simp
 omega
end
theorem Jhi (n:Nat) (h0:0<n) (hn:n<=1000000000) (w:World) :
  Calls Tryz.prog 98 #[.slice none 0 0,.int .i64 (n:Int)] w fun e w'=>(∃ cap,e=.returned (.slice (some ⟨w.heap.size,0,none⟩) 0 cap)/\w'.ownsRow w.heap.size 2 1 (.slice (some ⟨w.heap.size,0,none⟩) 0 cap) 0 [])/\Below w.heap.size w w':=by
 have g:(n:Int) > 0:=by omega
 have n0:¬ (n:Int)<0:=by omega
 go_enter Tryz.func98,Tryz.ntmps98
 go_wp2_with (at_builtin;refine Jjn _ rfl _ _ rfl n rfl rfl h0 hn ?_;intro cap w' hcap ho hb)
 go_ret
 exact ⟨⟨cap,rfl,ho⟩,hb⟩
end Go.Proofs.YtboiknllmnfipaaGreatDoor
/- Numerals with blanks between are unlike for unlike numbers. -/
namespace Go.Proofs.YtboiknllmnfipaaGreatDoor
open Go.RowKit
def Vk (l:List UInt8):Nat:=l.foldl (fun a c=>a * 10+(c.toNat - 48)) 0
theorem Jca (l:List UInt8) (c:UInt8):Vk (l ++ [c])=Vk l * 10+(c.toNat - 48):=by simp [Vk]
theorem Tp {d:Nat} (h:d<10):(UInt8.ofNat (48+d)).toNat=48+d:=by
 rw [UInt8.toNat_ofNat']
 exact Nat.mod_eq_of_lt (by omega)
theorem T8 (u:Nat):Vk (Lib.decDigits u)=u:=by
 induction u using Nat.strongRecOn with
 | _ u ih =>
  rw [Lib.decDigits]
  split
  ·rename_i h
   simp only [Vk,List.foldl_cons,List.foldl_nil]
   rw [Tp h]
   omega
  ·rename_i h
   rw [Jca,ih (u / 10) (by omega),Tp (by omega)]
   omega
theorem Tq (u:Nat):∀ c,c ∈ Lib.decDigits u->48<=c.toNat/\c.toNat<=57:=by
 induction u using Nat.strongRecOn with
 | _ u ih =>
  intro c hc
  rw [Lib.decDigits] at hc
  split at hc
  ·rename_i h
   rw [List.mem_singleton] at hc
   subst hc
   rw [Tp h]
   omega
  ·rename_i h
   rw [List.mem_append,List.mem_singleton] at hc
   rcases hc with hc|rfl
   ·exact ih (u / 10) (by omega) c hc
   ·rw [Tp (by omega)]
    omega
theorem Jec {u v:Nat} (h:Lib.decDigits u=Lib.decDigits v):u=v:=by
 have:=congrArg Vk h
 rwa [T8,T8] at this
theorem Jax {m n:Int} (h:Lib.itoa m=Lib.itoa n):m=n:=by
 unfold Lib.itoa at h
 split at h <;> split at h
 ·simp only [List.cons.injEq,true_and] at h
  have:=Jec h
  omega
 ·exfalso
  have:=Tq n.toNat 45 (by rw [<- h];simp)
  exact absurd this.1 (by decide)
 ·exfalso
  have:=Tq m.toNat 45 (by rw [h];simp)
  exact absurd this.1 (by decide)
 ·have:=Jec h
  omega
theorem Se (m:Int):(32:UInt8) ∉ Lib.itoa m:=by
 intro h
 unfold Lib.itoa at h
 split at h
 ·rw [List.mem_cons] at h
  rcases h with h|h
  ·exact absurd h (by decide)
  ·exact absurd (Tq _ _ h).1 (by decide)
 ·exact absurd (Tq _ _ h).1 (by decide)
theorem Vp:∀ {x y t u:List UInt8},(32:UInt8) ∉ x->(32:UInt8) ∉ y->(t=[] ∨ t.head?=some 32)->(u=[] ∨ u.head?=some 32)->x ++ t=y ++ u->x=y/\t=u
 | [],[],_,_,_,_,_,_,h=>⟨rfl,h⟩
 | [],c::y,t,u,_,hy,ht,_,h=>by
  exfalso
  rw [List.nil_append] at h
  subst h
  rcases ht with ht|ht
  ·simp at ht
  ·simp at ht
   exact hy (by simp [ht])
 | c::x,[],t,u,hx,_,_,hu,h=>by
  exfalso
  rw [List.nil_append] at h
  subst h
  rcases hu with hu|hu
  ·simp at hu
  ·simp at hu
   exact hx (by simp [hu])
 | c::x,d::y,t,u,hx,hy,ht,hu,h=>by
  simp only [List.cons_append,List.cons.injEq] at h
  obtain ⟨rfl,h⟩:=h
  obtain ⟨e1,e2⟩:=Vp (fun q=>hx (List.mem_cons_of_mem _ q)) (fun q=>hy (List.mem_cons_of_mem _ q)) ht hu h
  exact ⟨by rw [e1],e2⟩
theorem Tj (r:List (List UInt8)):Lib.joinTail [32] r=[] ∨ (Lib.joinTail [32] r).head?=some 32:=by
 cases r with
 | nil=>exact .inl rfl
 | cons y r=>exact .inr (by simp [Lib.joinTail])
theorem Jbq:∀ {r s:List Int},Lib.joinTail [32] (r.map Lib.itoa)=Lib.joinTail [32] (s.map Lib.itoa)->r=s
 | [],[],_=>rfl
 | [],y::s,h=>by simp [Lib.joinTail] at h
 | x::r,[],h=>by simp [Lib.joinTail] at h
 | x::r,y::s,h=>by
  have e:∀ (z:Int) (q:List Int),Lib.joinTail [32] ((z::q).map Lib.itoa)=32::(Lib.itoa z ++ Lib.joinTail [32] (q.map Lib.itoa)):=fun z q=>by simp [Lib.joinTail]
  rw [e,e,List.cons.injEq] at h
  obtain ⟨h1,h2⟩:=Vp (Se x) (Se y) (Tj _) (Tj _) h.2
  rw [Jax h1,Jbq h2]
theorem Jhq {x y:Int} {r s:List Int} (h:Lib.join ((x::r).map Lib.itoa) [32]=Lib.join ((y::s).map Lib.itoa) [32]):x::r=y::s:=by
 rw [List.map_cons,List.map_cons,Lib.join_cons,Lib.join_cons] at h
 obtain ⟨h1,h2⟩:=Vp (Se x) (Se y) (Tj _) (Tj _) h
 rw [Jax h1,Jbq h2]
theorem Jia (r:List Int) (hr:∀ z,z ∈ r->(Lib.itoa z).length<=21):(Lib.joinTail [32] (r.map Lib.itoa)).length<=22 * r.length:=by
 induction r with
 | nil=>simp [Lib.joinTail]
 | cons z r ih =>
  have:=ih (fun q hq=>hr q (by simp [hq]))
  have h2:=hr z (by simp)
  have e:Lib.joinTail [32] ((z::r).map Lib.itoa)=32::(Lib.itoa z ++ Lib.joinTail [32] (r.map Lib.itoa)):=by simp [Lib.joinTail]
  rw [e,List.length_cons,List.length_append,List.length_cons]
  omega
theorem Jhj (r:List Int) (hr:∀ z,z ∈ r->(Lib.itoa z).length<=21):(Lib.join (r.map Lib.itoa) [32]).length<=22 * r.length:=by
 cases r with
 | nil=>simp [Lib.join_nil]
 | cons z r =>
  have h1:=Jia r (fun q hq=>hr q (by simp [hq]))
  have h2:=hr z (by simp)
  rw [List.map_cons,Lib.join_cons,List.length_append,List.length_cons]
  omega
end Go.Proofs.YtboiknllmnfipaaGreatDoor
