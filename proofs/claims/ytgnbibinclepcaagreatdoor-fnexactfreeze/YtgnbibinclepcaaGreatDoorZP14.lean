
import Derived.Test.YtgnbibinclepcaaGreatDoorZP13
import Derived.Test.YtgnbibinclepcaaGreatDoorZP11
/- New of the model. -/
namespace Go.Proofs.YtgnbibinclepcaaGreatDoor
open Go.RowKit
end Go.Proofs.YtgnbibinclepcaaGreatDoor
/- What the laws of chapter 7 have in common. -/
namespace Go.Proofs.YtgnbibinclepcaaGreatDoor
open Go.RowKit
theorem OS.keep' {w w' : World} {v:Value} {n B S:Nat} (h:Disk.OS w 2 1 v n) (hk:∀ b,B<=b->b<S->w'.heap[b]?=w.heap[b]?) (hS:∀ b,Disk.rowOf v n=some b->B<=b/\b<S):Disk.OS w' 2 1 v n:=by
 obtain ⟨ao,cap,rfl,h⟩:=h
 refine ⟨ao,cap,rfl,?_⟩
 by_cases h0:n=0
 ·exact .inl h0
 ·obtain ⟨b,N,f,rfl,hN,hr⟩:=h.resolve_left h0
  have q:=hS b (by unfold Disk.rowOf;rw [if_neg h0];rfl)
  exact .inr ⟨b,N,f,rfl,hN,hr.of_block (hk b q.1 q.2)⟩
theorem IR.keepR {w w' : World} {v:Value} {l:List Int} {B S:Nat} (h:IR w v l) (hk:∀ b,B<=b->b<S->w'.heap[b]?=w.heap[b]?) (hS:∀ b,Disk.rowOf v l.length=some b->B<=b/\b<S):IR w' v l:=by
 refine h.keep fun ad n cp e hn=>?_
 subst e
 have el:n=l.length:=by
  obtain ⟨ao,cap,e2,_⟩:=IRs h
  simp only [Value.slice.injEq] at e2
  exact e2.2.1
 have q:=hS ad.block (by
  unfold Disk.rowOf
  rw [if_neg (by omega)]
  rfl)
 exact hk _ q.1 q.2
theorem HN.keep {B:Nat} {w w' : World} {v:Value} {h:Hp} (k:HN B w v h) (hk:∀ b,B<=b->b<w.heap.size->w'.heap[b]?=w.heap[b]?):HN B w' v h:=by
 obtain ⟨v1,v2,v3,e,⟨s1,s2,s3⟩,⟨r1,r2,r3⟩,⟨b1,b2,b3⟩,r⟩:=k.ex
 have row:∀ {u:Value} {l:List Int},IR w u l->Disk.OS w 2 1 u l.length->(∀ b,Disk.rowOf u l.length=some b->B<=b)->IR w' u l:=fun {u} {l} a s c=>by
  refine a.keep fun ad n cp e hn=>?_
  subst e
  have el:n=l.length:=by
   obtain ⟨ao,cap,e2,_⟩:=IRs a
   simp only [Value.slice.injEq] at e2
   exact e2.2.1
  have q:Disk.rowOf (.slice (some ad) n cp) l.length=some ad.block:=by
   unfold Disk.rowOf
   rw [if_neg (by omega)]
   rfl
  exact hk _ (c _ q) (s.row _ q)
 exact ⟨v1,v2,v3,e,⟨OS.keep' s1 (S:=w.heap.size) hk (fun b q=>⟨b1 b q,s1.row b q⟩),OS.keep' s2 (S:=w.heap.size) hk (fun b q=>⟨b2 b q,s2.row b q⟩),OS.keep' s3 (S:=w.heap.size) hk (fun b q=>⟨b3 b q,s3.row b q⟩)⟩,⟨row r1 s1 b1,row r2 s2 b2,row r3 s3 b3⟩,⟨b1,b2,b3⟩,r⟩
end Go.Proofs.YtgnbibinclepcaaGreatDoor
