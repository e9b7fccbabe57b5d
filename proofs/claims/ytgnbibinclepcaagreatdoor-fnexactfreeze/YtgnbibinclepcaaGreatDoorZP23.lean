
import Derived.Test.YtgnbibinclepcaaGreatDoorZP6
import Derived.Test.YtgnbibinclepcaaGreatDoorZP22
import Derived.Maps.OwnSet
import Derived.Maps.OwnOps
import Derived.Maps.AppendAt
import Derived.Test.YtgnbibinclepcaaGreatDoorZP20
import Derived.Test.YtgnbibinclepcaaGreatDoorZP8
/- Worlds that have grown outside of some blocks. -/
namespace Go.Proofs.YtgnbibinclepcaaGreatDoor
open Go.RowKit
structure Grew (w w' : World) (S:Nat->Prop):Prop where
 os:w'.os=w.os
 tape:w'.tape=w.tape
 output:w'.output=w.output
 size:w.heap.size<=w'.heap.size
 block:∀ k,k<w.heap.size->¬ S k->w'.heap[k]?=w.heap[k]?
theorem Grew.refl (w:World) (S:Nat->Prop):Grew w w S:=⟨rfl,rfl,rfl,Nat.le_refl _,fun _ _ _=>rfl⟩
theorem Grew.mono {w w' : World} {S T:Nat->Prop} (h:Grew w w' S) (k:∀ b,b<w.heap.size->S b->T b):Grew w w' T :=
 ⟨h.os,h.tape,h.output,h.size,fun b hb hn=>h.block b hb (fun s=>hn (k b hb s))⟩
theorem Grew.trans {a b c:World} {S:Nat->Prop} (h:Grew a b S) (k:Grew b c S):Grew a c S :=
 ⟨k.os.trans h.os,k.tape.trans h.tape,k.output.trans h.output,Nat.le_trans h.size k.size,fun i hi hn=>(k.block i (Nat.lt_of_lt_of_le hi h.size) hn).trans (h.block i hi hn)⟩
theorem Grew.trans' {a b c:World} {S T:Nat->Prop} (h:Grew a b S) (k:Grew b c T) (hT:∀ x,T x->S x ∨ a.heap.size<=x):Grew a c S :=
 ⟨k.os.trans h.os,k.tape.trans h.tape,k.output.trans h.output,Nat.le_trans h.size k.size,fun i hi hn=>(k.block i (Nat.lt_of_lt_of_le hi h.size) (fun q=>(hT i q).elim hn (fun z=>by omega))).trans (h.block i hi hn)⟩
theorem Grew.new {w w' : World} (h:Below w.heap.size w w') (S:Nat->Prop):Grew w w' S:=⟨h.os,h.tape,h.output,h.size,fun k hk _=>h.block k hk⟩
theorem Grew.grown {w w' : World} {row:Option Nat} (h:w.grownBy w' row):Grew w w' (fun k=>row=some k):=⟨h.os,h.tape,h.output,h.size,fun k hk hn=>h.block k hk (fun e=>hn e.symm)⟩
theorem Grew.set (w:World) (b i:Nat) (v:Value):Grew w (w.setCell ⟨b,i,none⟩ v) (fun k=>k=b) :=
 ⟨rfl,rfl,rfl,by simp [World.setCell],fun k _ hn=>Below.heap_setCell _ _ _ _ hn⟩
theorem Grew.below {w w' : World} {S:Nat->Prop} {B:Nat} (h:Grew w w' S) (hB:B<=w.heap.size) (k:∀ b,b<w.heap.size->S b->B<=b):Below B w w' :=
 ⟨h.os,h.tape,h.output,h.size,fun b hb=>h.block b (by omega) (fun s=>by have:=k b (by omega) s;omega)⟩
theorem Grew.drew {w w' : World} {S:Nat->Prop} (h:Grew w w' S):Grew w w'.drew S:=⟨h.os,h.tape,h.output,h.size,h.block⟩
theorem Grew.cell {w w' : World} {S:Nat->Prop} {b o:Nat} {v:Value} (h:Grew w w' S) (hc:w.cell? ⟨b,o,none⟩=some v) (hn:¬ S b):w'.cell? ⟨b,o,none⟩=some v :=
 (World.cell?_of_block (w:=w) (h.block b (World.block_lt_of_cell? _ _ hc) hn)).trans hc
theorem Grew.row {w w' : World} {S:Nat->Prop} {b t n:Nat} {f:Nat->Value} (h:Grew w w' S) (hr:w.rowIs b t n f) (hn:¬ S b):w'.rowIs b t n f:=hr.of_block (h.block b hr.lt hn)
theorem Grew.own {w w' : World} {S:Nat->Prop} {B e size n:Nat} {v:Value} {xs:List Value} (h:Grew w w' S) (ho:w.ownsRow B e size v n xs) (hn:∀ b,v.ownBlock=some b->¬ S b):w'.ownsRow B e size v n xs:=by
 have hlt:=ho.lt
 obtain ⟨hl,ho⟩:=ho
 refine ⟨hl,?_⟩
 rcases ho with ho|⟨g,cap,cur,rfl,hB,hh,h1⟩
 ·exact .inl ho
 ·exact .inr ⟨g,cap,cur,rfl,hB,(h.block g (hlt g rfl).2 (hn g rfl)).trans hh,h1⟩
def inB (v:Value) (b:Nat):Prop:=∃ o n c,v=.slice (some ⟨b,o,none⟩) n c/\0<n
theorem IR.inlt {w:World} {v:Value} {l:List Int} (h:IR w v l) {b:Nat} (k:inB v b):b<w.heap.size:=by
 obtain ⟨o,n,c,e,hn⟩:=k
 exact h.lt _ _ _ e hn
theorem Grew.ir {w w' : World} {S:Nat->Prop} {v:Value} {l:List Int} (h:Grew w w' S) (hv:IR w v l) (hn:∀ b,inB v b->¬ S b):IR w' v l:=by
 obtain ⟨ao,cap,rfl,hle,hc⟩:=hv
 refine ⟨ao,cap,rfl,hle,fun i hi=>?_⟩
 obtain ⟨b,o,rfl,q⟩:=hc i hi
 exact ⟨b,o,rfl,h.cell q (hn b ⟨o,_,_,rfl,by omega⟩)⟩
theorem inB_own {w:World} {B e size n b:Nat} {v:Value} {xs:List Value} (h:w.ownsRow B e size v n xs) (k:inB v b):v.ownBlock=some b:=by
 obtain ⟨o,m,c,rfl,hm⟩:=k
 rcases h.2 with ⟨e0,_⟩|⟨g,cap,cur,e0,_⟩
 ·cases e0
 ·injection e0 with e1
  injection e1 with e1
  injection e1 with e1
  subst e1
  rfl
theorem own_shape {w:World} {B e size n:Nat} {v:Value} {xs:List Value} (h:w.ownsRow B e size v n xs):∃ ao cap,v=.slice ao n cap:=by
 rcases h.2 with ⟨rfl,rfl⟩|⟨g,cap,cur,rfl,_⟩
 ·exact ⟨none,0,rfl⟩
 ·exact ⟨_,cap,rfl⟩
/-! Maps -/
theorem gown_mono {w:World} {B B' e size n:Nat} {v:Value} {xs:List Value} (h:w.ownsRow B e size v n xs) (hB:B' <= B):w.ownsRow B' e size v n xs:=by
 obtain ⟨hl,h⟩:=h
 refine ⟨hl,?_⟩
 rcases h with h|⟨g,cap,cur,hv,hb,hh⟩
 ·exact .inl h
 ·exact .inr ⟨g,cap,cur,hv,Nat.le_trans hB hb,hh⟩
end Go.Proofs.YtgnbibinclepcaaGreatDoor
/- Worlds that have grown outside of some blocks; maps from numbers to numbers; appending, with where the new row lies. -/
namespace Go.Proofs.YtgnbibinclepcaaGreatDoor
open Go.RowKit Go.Maps
theorem keyL:Keyed Tryz.prog 2:=int_keyed Tryz.underlying2
theorem zeroI (w:World):(zeroValue 2).run Tryz.prog w=.ok (.int .i64 0) w:=by kernel_rfl
theorem wf64 {k:Int} (h:In64 k):(Lit.int .i64 k).wf=true:=WalkArith.wf_i64 (by unfold In64 at h;omega)
def MP (w:World) (b n:Nat) (f:Int->Option Int):Prop :=
 ∃ D:DataW Unit,w.ownsMap Tryz.prog 2 (plainElem Tryz.prog 2) b n D/\∀ k,In64 k->Maps.has D (.int .i64 k)=(f k).isSome/\D.atKey (.int .i64 k) (.lit (.int .i64 0))=.lit (.int .i64 ((f k).getD 0))
theorem MP.lt {w:World} {b n:Nat} {f:Int->Option Int} (h:MP w b n f):b<w.heap.size:=by
 obtain ⟨D,h,_⟩:=h
 exact h.lt
theorem MP.made (w:World):MP (w.alloc (.map #[] 0)) w.heap.size 0 (fun _=>none) :=
 ⟨.map [],World.ownsMap_made _ _ _ _,fun _ _=>⟨rfl,rfl⟩⟩
theorem Grew.mp {w w' : World} {S:Nat->Prop} {b n:Nat} {f:Int->Option Int} (h:Grew w w' S) (hm:MP w b n f) (hn:¬ S b):MP w' b n f:=by
 have hlt:=hm.lt
 obtain ⟨D,⟨es,clock,hb,r⟩,q⟩:=hm
 exact ⟨D,⟨es,clock,(h.block b hlt hn).trans hb,r⟩,q⟩
theorem MP.later {w w' : World} {b n:Nat} {f:Int->Option Int} (hm:MP w b n f) (h:Below w.heap.size w w'):MP w' b n f:=(Grew.new h (fun _=>False)).mp hm (fun x=>x)
def putF (f:Int->Option Int) (k v:Int):Int->Option Int:=fun j=>if j=k then some v else f j
section
variable {ops : Array Oper} {rest : List Oper} {o : Oper} {a : Act} {Q : Exit -> Act -> World -> Prop}
theorem look_ok (w:World) (hg:o.guard=none) (m x:Operand) (hop:o.op=Op.lookup 74 m x true) (b n:Nat) (f:Int->Option Int) (hm:a.eval m=.map (some b)) (hM:MP w b n f)
  (k:Int) (hx:a.eval x=.int .i64 k) (hk:In64 k) (h:wpList Tryz.prog ops Q rest (a.put o.dst (.tuple #[.int .i64 ((f k).getD 0),.bool (f k).isSome])) w):wpList Tryz.prog ops Q (o::rest) a w:=by
 obtain ⟨D,hown,hD⟩:=hM
 refine wpList_lookup_own_ok_int w hg m x 74 hop 2 2 .i64 keyL Tryz.underlying74 Tryz.underlying2 (zeroI _) b n D hm hown _ _ hx (keyOf_int_mk Tryz.underlying2 (wf64 hk)) (fun c hc _=>?_)
 obtain ⟨h1,h2⟩:=hD k hk
 rw [h2] at hc
 simp only [DataW.lit.injEq,Lit.int.injEq,true_and] at hc
 rw [h1,← hc]
 exact h
theorem look_up (w:World) (hg:o.guard=none) (m x:Operand) (hop:o.op=Op.lookup 74 m x false) (b n:Nat) (f:Int->Option Int) (hm:a.eval m=.map (some b)) (hM:MP w b n f)
  (k:Int) (hx:a.eval x=.int .i64 k) (hk:In64 k) (h:wpList Tryz.prog ops Q rest (a.put o.dst (.int .i64 ((f k).getD 0))) w):wpList Tryz.prog ops Q (o::rest) a w:=by
 obtain ⟨D,hown,hD⟩:=hM
 refine wpList_lookup_own_int w hg m x 74 hop 2 2 .i64 keyL Tryz.underlying74 Tryz.underlying2 (zeroI _) b n D hm hown _ _ hx (keyOf_int_mk Tryz.underlying2 (wf64 hk)) (fun c hc _=>?_)
 obtain ⟨h1,h2⟩:=hD k hk
 rw [h2] at hc
 simp only [DataW.lit.injEq,Lit.int.injEq,true_and] at hc
 rw [<- hc]
 exact h
end
theorem MP.update {w:World} {b n:Nat} {f:Int->Option Int} (hM:MP w b n f) (hn:n<=1000000000000) (k v:Int) (hk:In64 k) (hv:In64 v) :
  ∃ w',(Instr.mapUpdate 74 (.map (some b)) (.int .i64 k) (.int .i64 v)).run Tryz.prog w=.ok () w' /\ MP w' b (n+1) (putF f k v)/\w.grownBy w' (some b):=by
 obtain ⟨D,hown,hD⟩:=hM
 have hI:IsMap D:=hown.isMap
 obtain ⟨w',hr,ho,hg⟩:=hown.update keyL Tryz.underlying74 (by unfold maxLen;omega) (keyOf_int_mk Tryz.underlying2 (wf64 hk)) (plainElem_int Tryz.underlying2 (wf64 hv))
 refine ⟨w',hr,⟨_,ho,fun j hj=>?_⟩,hg⟩
 unfold putF
 by_cases e:j=k
 ·subst e
  rw [if_pos rfl,has_put_same (k:=.int .i64 j) hI trivial,atKey_put_same (k:=.int .i64 j) hI trivial]
  exact ⟨rfl,rfl⟩
 ·have ne:(Lit.int .i64 j) ≠ .int .i64 k:=fun q=>e (by simpa using q)
  rw [if_neg e,has_put_other ne,atKey_put_other ne]
  exact hD j hj
/-! Appending one number, and where the new row lies. -/
theorem app_at {ops:Array Oper} {rest:List Oper} {o:Oper} {a:Act} {Q:Exit->Act->World->Prop} (w:World) (hgd:o.guard=none) (s x:Operand)
  (ho:o.op=.call { callee:=.builtin .append,args:=#[s,x],argTypes:=#[24,24] }) (B:Nat) (v:Value) (n:Nat) (xs:List Value) (hs:a.eval s=v) (hown:w.ownsRow B 2 1 v n xs)
  (g c:Nat) (z:Int) (hx:a.eval x=.slice (some ⟨g,0,none⟩) 1 c) (hc:w.cell? ⟨g,0,none⟩=some (.int .i64 z)) (hn:n<=1000000000000) (hB:B<=w.heap.size)
  (h:∀ v' w',w'.ownsRow B 2 1 v' (n+1) (xs ++ [.int .i64 z])->w.grownBy w' v.ownBlock->(v'.ownBlock=v.ownBlock ∨ v'.ownBlock=some w.heap.size)->wpList Tryz.prog ops Q rest (a.put o.dst v') w'):wpList Tryz.prog ops Q (o::rest) a w:=by
 obtain ⟨i,hi,hzz⟩:=Option.map_eq_some_iff.1 Tryz.infoI
 simp only [Prod.mk.injEq] at hzz
 obtain ⟨hz,hsz,hby⟩:=hzz
 refine wpList_append_own_at w hgd s x 24 ho B 2 i _ 1 8 Tryz.underlying24 hi hz hsz hby rfl (by omega) v n xs hs hown ⟨g,0,none⟩ 1 c [.int .i64 z] hx rfl (fun j u hj=>?_) (fun u hu=>?_) (by unfold maxLen;omega) (by omega) hB (fun v' w' h1 h2 _ h4=>h v' w' h1 h2 h4)
 ·match j,hj with
  | 0,hj=>simp at hj;subst hj;simpa [Addr.add] using hc
 ·simp at hu;subst hu;rfl
theorem Tryz.infoN:(Tryz.prog.info? 73).map (fun i=>(i.zero,i.size,i.bytes))=some (some (.agg #[.int .i64 0,.int .i64 0,.slice none 0 0]),3,40):=by kernel_rfl
theorem app_node {ops:Array Oper} {rest:List Oper} {o:Oper} {a:Act} {Q:Exit->Act->World->Prop} (w:World) (hgd:o.guard=none) (s x:Operand)
  (ho:o.op=.call { callee:=.builtin .append,args:=#[s,x],argTypes:=#[39,39] }) (B:Nat) (v:Value) (n:Nat) (xs:List Value) (hs:a.eval s=v) (hown:w.ownsRow B 73 3 v n xs)
  (g c:Nat) (z y:Int) (fa:Option Addr) (fn fc:Nat) (hx:a.eval x=.slice (some ⟨g,0,none⟩) 1 c) (hc:w.cell? ⟨g,0,none⟩=some (.int .i64 z)/\w.cell? ⟨g,1,none⟩=some (.int .i64 y)/\w.cell? ⟨g,2,none⟩=some (.slice fa fn fc)) (hn:n<=1000000000) (hB:B<=w.heap.size)
  (h:∀ v' w',w'.ownsRow B 73 3 v' (n+1) (xs ++ [.int .i64 z,.int .i64 y,.slice fa fn fc])->w.grownBy w' v.ownBlock->(v'.ownBlock=v.ownBlock ∨ v'.ownBlock=some w.heap.size)->wpList Tryz.prog ops Q rest (a.put o.dst v') w'):wpList Tryz.prog ops Q (o::rest) a w:=by
 obtain ⟨i,hi,hzz⟩:=Option.map_eq_some_iff.1 Tryz.infoN
 simp only [Prod.mk.injEq] at hzz
 obtain ⟨hz,hsz,hby⟩:=hzz
 refine wpList_append_own_at w hgd s x 39 ho B 73 i _ 3 40 Tryz.underlying39 hi hz hsz hby rfl (by omega) v n xs hs hown ⟨g,0,none⟩ 1 c [.int .i64 z,.int .i64 y,.slice fa fn fc] hx rfl (fun j u hj=>?_) (fun u hu=>?_) (by unfold maxLen;omega) (by omega) hB (fun v' w' h1 h2 _ h4=>h v' w' h1 h2 h4)
 ·match j,hj with
  | 0,hj=>simp at hj;subst hj;simpa [Addr.add] using hc.1
  | 1,hj=>simp at hj;subst hj;simpa [Addr.add] using hc.2.1
  | 2,hj=>simp at hj;subst hj;simpa [Addr.add] using hc.2.2
 ·simp at hu;rcases hu with rfl|rfl|rfl <;> rfl
end Go.Proofs.YtgnbibinclepcaaGreatDoor
/- l6Told of the model: a word with its object's number. -/
namespace Go.Proofs.YtgnbibinclepcaaGreatDoor
open Go.RowKit
def nmF (o:List Nat) (i:Nat):Value:=.int .i64 (if i ∈ o then ((o.idxOf i:Nat):Int)+1 else 0)
def ToldOut (b3 B:Nat) (ov:Value) (o:List Nat) (x:Int) (w:World) (e:Ending) (w' : World):Prop :=
 ∃ ov',e=.returned (.tuple #[.int .i64 (ren (fol1 o x) x),ov'])/\w'.rowIs b3 2 3200 (nmF (fol1 o x))/\w'.ownsRow B 2 1 ov' (fol1 o x).length (icells (ints (fol1 o x)))/\ov'.ownBlock ≠ some b3 ∧
  (ov'.ownBlock=ov.ownBlock ∨ ∃ b,ov'.ownBlock=some b/\w.heap.size<=b)/\Grew w w' (fun k=>k=b3 ∨ ov.ownBlock=some k)
theorem odd_parts {x:Int} (h:isK 2 x=true):∃ a:Nat,a<3200/\(x / 2).toNat=a/\(x.tmod 2 == 0)=false/\x.tdiv 2=(a:Int):=by
 unfold isK kindW at h
 have h':=of_decide_eq_true h
 split at h'
 ·rename_i h1
  split at h'
  ·rename_i h2
   unfold adrB at h2
   have h3:=of_decide_eq_true h2
   refine ⟨(x / 2).toNat,by omega,rfl,by rw [tmod_two];exact decide_eq_false (by omega),?_⟩
   rw [Int.tdiv_eq_ediv_of_nonneg (by omega)]
   omega
  ·omega
 ·split at h' <;> omega
theorem even_not {x:Int} (h:x % 2=0):isK 2 x=false:=by
 unfold isK kindW
 rw [if_neg (by omega)]
 split <;> rfl
theorem nm_new {w:World} {b:Nat} {o:List Nat} {a:Nat} (h:w.rowIs b 2 3200 (nmF o)) (ha:a ∉ o):(w.setCell ⟨b,a,none⟩ (.int .i64 ((o.length:Int)+1))).rowIs b 2 3200 (nmF (o ++ [a])):=by
 refine (h.set a _).congr fun i _=>?_
 unfold nmF
 by_cases e:i=a
 ·subst e
  rw [if_pos rfl,if_pos (by simp),List.idxOf_append,if_neg ha]
  simp
 ·rw [if_neg e]
  by_cases m:i ∈ o
  ·rw [if_pos m,if_pos (by simp [m]),List.idxOf_append,if_pos m]
  ·rw [if_neg m,if_neg (by simp [m,e])]
set_option maxHeartbeats 1600000 in
theorem l6Told_any (b3 c3 B:Nat) (ov:Value) (o:List Nat) (x:Int) (w:World) (hrow:w.rowIs b3 2 3200 (nmF o)) (hov:w.ownsRow B 2 1 ov o.length (icells (ints o))) (hap:ov.ownBlock ≠ some b3) (hB:B<=w.heap.size) (hx:x % 2=0 ∨ isK 2 x=true) (hl:o.length<=3200) :
  Calls Tryz.prog 93 #[.slice (some ⟨b3,0,none⟩) 3200 c3,ov,.int .i64 x] w fun e w'=>ToldOut b3 B ov o x w e w':=by
 rcases hx with hx|hx
 ·have t:(x.tmod 2 == 0)=true:=by rw [tmod_two];exact decide_eq_true hx
  have f:fol1 o x=o:=by unfold fol1;rw [even_not hx];rfl
  have r:ren o x=x:=by unfold ren;rw [even_not hx];rfl
  have G:Hid (ToldOut b3 B ov o x w (.returned (.tuple #[.int .i64 x,ov])) w):=⟨ov,by rw [f,r],by rw [f];exact hrow,by rw [f];exact hov,hap,.inl rfl,Grew.refl _ _⟩
  clear f r hx hrow hov
  go_enter Tryz.func93,Tryz.ntmps93
  go_wp2
  exact bodyPost_ret (v:=.tuple #[.int .i64 x,ov]) (by simp [results,Tryz.results93,go_sem]) rfl G.out
 ·obtain ⟨a,ha,hat,t,hd⟩:=odd_parts hx
  have hai:(a:Int)<3200:=by omega
  have c0:=hrow.cell (i:=a) ha
  by_cases hm:a ∈ o
  ·have f:fol1 o x=o:=by unfold fol1;rw [if_pos hx,hat,if_pos hm]
   have r:ren o x=2 * ((o.idxOf a:Nat):Int)+1:=by unfold ren;rw [if_pos hx,hat]
   have G:Hid (ToldOut b3 B ov o x w (.returned (.tuple #[.int .i64 (2 * ((o.idxOf a:Nat):Int)+1),ov])) w):=⟨ov,by rw [f,r],by rw [f];exact hrow,by rw [f];exact hov,hap,.inl rfl,Grew.refl _ _⟩
   have hi:o.idxOf a<3200:=Nat.lt_of_lt_of_le (List.idxOf_lt_length_of_mem hm) hl
   unfold nmF at c0
   rw [if_pos hm] at c0
   clear f r hx hrow hov hat hm
   generalize o.idxOf a=m at *
   have ne:((m:Int)+1 == 0)=false:=by simp;omega
   go_enter Tryz.func93,Tryz.ntmps93
   go_wp2
   exact bodyPost_ret (v:=.tuple #[.int .i64 (2 * (m:Int)+1),ov]) (by simp [results,Tryz.results93,go_sem]) rfl G.out
  ·have f:fol1 o x=o ++ [a]:=by unfold fol1;rw [if_pos hx,hat,if_neg hm]
   have r:ren (o ++ [a]) x=2 * ((o.length:Nat):Int)+1:=by
    unfold ren
    rw [if_pos hx,hat,List.idxOf_append,if_neg hm]
    simp
   unfold nmF at c0
   rw [if_neg hm] at c0
   have FR:Hid (fol1 o x=o ++ [a]/\ren (fol1 o x) x=2 * ((o.length:Nat):Int)+1):=⟨f,by rw [f,r]⟩
   have NM:Hid (∀ W:World,W.rowIs b3 2 3200 (nmF o)->(W.setCell ⟨b3,a,none⟩ (.int .i64 ((o.length:Int)+1))).rowIs b3 2 3200 (nmF (o ++ [a]))):=fun W hW=>nm_new hW hm
   have hs3:=hrow.lt
   have N0:Hid (nmF o a=.int .i64 0/\nmF (o ++ [a]) a=.int .i64 ((o.length:Int)+1)):=⟨by unfold nmF;rw [if_neg hm],by unfold nmF;rw [if_pos (by simp),List.idxOf_append,if_neg hm];simp⟩
   clear f r hx hat hm
   have al:=bel_one w (.cells #[.int .i64 a] 2)
   have hov2:=own_later hov al
   have hrow2:(w.alloc (.cells #[.int .i64 a] 2)).rowIs b3 2 3200 (nmF o):=(Grew.new al (fun _=>False)).row hrow (fun q=>q)
   have hc:∀ W:World,(W.alloc (.cells #[.int .i64 a] 2)).cell? ⟨W.heap.size,0,none⟩=some (.int .i64 (a:Int)):=fun W=>by simp
   have HR:Hid ((w.alloc (.cells #[.int .i64 a] 2)).rowIs b3 2 3200 (nmF o)):=hrow2
   clear hrow hrow2
   go_enter Tryz.func93,Tryz.ntmps93
   go_wp2_with (at_builtin;refine app_at _ rfl _ _ rfl B _ o.length (icells (ints o)) rfl hov2 _ 1 a rfl (hc _) (by omega) (Nat.le_trans hB (by simp)) ?_;intro v4 w4 hown4 hg4 hloc;(obtain ⟨fo,fc,hv4⟩:∃ fo fc,v4=.slice fo (o.length+1) fc:=own_shape hown4);subst hv4;have R4:=(Grew.grown hg4).row HR.out (fun q=>hap q);have R5:=NM.out _ R4;have hf4:=R4.frozen a;have c4:=R4.cell (i:=a) ha;have c5:=R5.cell (i:=a) ha;rw [N0.out.1] at c4;rw [N0.out.2] at c5)
   have hloc2:Value.ownBlock (.slice fo (o.length+1) fc)=ov.ownBlock ∨ Value.ownBlock (.slice fo (o.length+1) fc)=some (w.heap.size+1):=by
    rcases hloc with e|e
    ·exact .inl e
    ·exact .inr (by rw [e];simp)
   have hg5:(w.alloc (.cells #[.int .i64 a] 2)).grownBy w4 ov.ownBlock:=hg4
   have lv:Value.ownBlock (.slice fo (o.length+1) fc) ≠ some b3:=by
    rcases hloc2 with e|e
    ·rw [e];exact hap
    ·rw [e];simp;omega
   have P:ToldOut b3 B ov o x w (.returned (.tuple #[.int .i64 (2 * (o.length:Int)+1),.slice fo (o.length+1) fc])) (w4.setCell ⟨b3,a,none⟩ (.int .i64 ((o.length:Int)+1))):=by
    refine ⟨_,by rw [FR.out.2],by rw [FR.out.1];exact R5,?_,lv,?_,?_⟩
    ·rw [FR.out.1]
     have o5:=(Grew.set w4 b3 a (.int .i64 ((o.length:Int)+1))).own hown4 (fun b e q=>lv (by rw [e,q]))
     simpa [icells,ints] using o5
    ·rcases hloc2 with e|e
     ·exact .inl e
     ·exact .inr ⟨_,e,by omega⟩
    ·exact ((Grew.new al _).trans ((Grew.grown hg5).mono fun k _ e=>.inr e)).trans ((Grew.set w4 b3 a (.int .i64 ((o.length:Int)+1))).mono fun k _ e=>.inl e)
   exact bodyPost_ret (v:=.tuple #[.int .i64 (2 * (o.length:Int)+1),.slice fo (o.length+1) fc]) (by simp [results,Tryz.results93,go_sem]) rfl P
end Go.Proofs.YtgnbibinclepcaaGreatDoor
/- Rows of nodes, and graphs that were made since. -/
namespace Go.Proofs.YtgnbibinclepcaaGreatDoor
open Go.RowKit
def Trip (xs:List Value) (ns:List Nd) (fv:Nat->Value):Prop :=
 xs.length=ns.length * 3/\∀ i,i<ns.length->xs[i * 3]?=some (.int .i64 (ns.getD i nd0).cls)/\xs[i * 3+1]?=some (.int .i64 (ns.getD i nd0).hash)/\xs[i * 3+2]?=some (fv i)
theorem Trip.nil (fv:Nat->Value):Trip [] [] fv:=⟨rfl,fun i hi=>by simp at hi⟩
theorem Trip.snoc {xs:List Value} {ns:List Nd} {fv:Nat->Value} (h:Trip xs ns fv) (c z:Int) (fl:List Int) (f:Value) :
  Trip (xs ++ [.int .i64 c,.int .i64 z,f]) (ns ++ [⟨c,z,fl⟩]) (fun i=>if i=ns.length then f else fv i):=by
 obtain ⟨hl,h⟩:=h
 refine ⟨by simp [hl];omega,fun i hi=>?_⟩
 have hi' : i<ns.length+1:=by simpa using hi
 by_cases e:i=ns.length
 ·subst e
  rw [<- hl,List.getElem?_append_right (by omega),List.getElem?_append_right (by omega),List.getElem?_append_right (by omega)]
  simp
 ·have hlt:i<ns.length:=by omega
  obtain ⟨h0,h1,h2⟩:=h i hlt
  rw [List.getElem?_append_left (by omega),List.getElem?_append_left (by omega),List.getElem?_append_left (by omega)]
  have ef:(fun i=>if i=ns.length then f else fv i) i=fv i:=if_neg e
  rw [ef]
  have eg:(ns ++ [(⟨c,z,fl⟩:Nd)]).getD i nd0=ns.getD i nd0:=by simp [List.getD_eq_getElem?_getD,List.getElem?_append_left hlt]
  rw [eg]
  exact ⟨h0,h1,h2⟩
theorem own_cell3 {w:World} {B e:Nat} {v:Value} {n:Nat} {xs:List Value} (h:w.ownsRow B e 3 v n xs):∃ ao cap,v=.slice ao n cap/\n<=cap/\∀ j,j<n * 3->∃ b,ao=some ⟨b,0,none⟩/\w.cell? ⟨b,j,none⟩=xs[j]?:=by
 obtain ⟨hl,h⟩:=h
 rcases h with ⟨rfl,rfl⟩|⟨g,cap,cur,rfl,hB,hh,h1,h2,h3,h4⟩
 ·exact ⟨none,0,rfl,Nat.le_refl _,fun i hi=>by omega⟩
 ·refine ⟨_,cap,rfl,h1,fun i hi=>⟨g,rfl,?_⟩⟩
  rw [<- h4,List.getElem?_take_of_lt (by omega)]
  simp [World.cell?,hh]
def NK (B:Nat) (w:World) (nv:Value) (ns:List Nd) (K:Nat->Prop):Prop :=
 ∃ xs fv,w.ownsRow B 73 3 nv ns.length xs/\Trip xs ns fv/\∀ i,i<ns.length->IR w (fv i) (ns.getD i nd0).fl/\∀ b,inB (fv i) b->K b
theorem NK.nr {B:Nat} {w:World} {nv:Value} {ns:List Nd} {K:Nat->Prop} (h:NK B w nv ns K):NR w nv ns:=by
 obtain ⟨xs,fv,ho,ht,hf⟩:=h
 obtain ⟨ao,cap,rfl,hle,hc⟩:=own_cell3 ho
 refine ⟨ao,cap,rfl,hle,fun i hi=>?_⟩
 obtain ⟨b,rfl,c0⟩:=hc (i * 3) (by omega)
 obtain ⟨_,e1,c1⟩:=hc (i * 3+1) (by omega)
 obtain ⟨_,e2,c2⟩:=hc (i * 3+2) (by omega)
 cases e1
 cases e2
 obtain ⟨t0,t1,t2⟩:=ht.2 i hi
 obtain ⟨fa,fc,hfv,_⟩:=id (hf i hi).1
 refine ⟨b,0,fa,(ns.getD i nd0).fl.length,fc,rfl,?_,?_,?_,?_⟩
 ·rw [Nat.zero_add,c0,t0]
 ·rw [Nat.zero_add,c1,t1]
 ·rw [Nat.zero_add,c2,t2,hfv]
 ·rw [<- hfv]
  exact (hf i hi).1
theorem Grew.nk {w w' : World} {S K:Nat->Prop} {B:Nat} {nv:Value} {ns:List Nd} (h:Grew w w' S) (k:NK B w nv ns K) (h1:∀ b,nv.ownBlock=some b->¬ S b) (h2:∀ b,K b->¬ S b):NK B w' nv ns K:=by
 obtain ⟨xs,fv,ho,ht,hf⟩:=k
 exact ⟨xs,fv,h.own ho h1,ht,fun i hi=>⟨h.ir (hf i hi).1 (fun b q=>h2 b ((hf i hi).2 b q)),(hf i hi).2⟩⟩
def GRn (B:Nat) (w:World) (v:Value) (g:Gr):Prop:=∃ vr vn K,v=.agg #[vr,vn,.int .i64 g.hash]/\(IR w vr g.roots/\∀ b,inB vr b->K b)/\NK B w vn g.nodes K/\∀ b,K b->B<=b
theorem GRn.gr {B:Nat} {w:World} {v:Value} {g:Gr} (h:GRn B w v g):GR w v g:=by
 obtain ⟨vr,vn,K,e,hr,hn,_⟩:=h
 exact ⟨vr,vn,e,hr.1,hn.nr⟩
end Go.Proofs.YtgnbibinclepcaaGreatDoor
/- Graphs as they are read, and the parts of one that is being made. -/
namespace Go.Proofs.YtgnbibinclepcaaGreatDoor
open Go.RowKit
theorem gr_set0 {w:World} {b t:Nat} {rv nv:Value} {hh:Int} (h:w.rowIs b t 3 (grF rv nv hh)) (u:Value):(w.setCell ⟨b,0,none⟩ u).rowIs b t 3 (grF u nv hh) :=
 (h.set 0 u).congr fun i _=>by unfold grF;by_cases e:i=0 <;> simp [e]
theorem gr_set1 {w:World} {b t:Nat} {rv nv:Value} {hh:Int} (h:w.rowIs b t 3 (grF rv nv hh)) (u:Value):(w.setCell ⟨b,1,none⟩ u).rowIs b t 3 (grF rv u hh) :=
 (h.set 1 u).congr fun i _=>by
  unfold grF
  by_cases e:i=1
  ·simp [e]
  ·by_cases e0:i=0
   ·simp [e0]
   ·simp [e,e0]
def ndF (c z:Int) (f:Value) (i:Nat):Value:=if i=0 then .int .i64 c else if i=1 then .int .i64 z else f
theorem nd_set2 {w:World} {b t:Nat} {c z:Int} {f:Value} (h:w.rowIs b t 3 (ndF c z f)) (u:Value):(w.setCell ⟨b,2,none⟩ u).rowIs b t 3 (ndF c z u) :=
 (h.set 2 u).congr fun i hi=>by
  unfold ndF
  by_cases e:i=2
  ·simp [e]
  ·rw [if_neg e]
   by_cases e0:i=0
   ·simp [e0]
   ·by_cases e1:i=1
    ·simp [e1]
    ·omega
structure Sh1 (N:Nat) (W0 wr:World) (hh:Int) (o:List Nat) (rl:List Int) (ov rv:Value):Prop where
 bel:Below (N+2) W0 wr
 sz:N+5<=wr.heap.size
 num:wr.rowIs (N+2) 2 3200 (nmF o)
 ord:wr.ownsRow (N+3) 2 1 ov o.length (icells (ints o))
 ordg:ov.ownBlock ≠ some (N+4)
 g:wr.rowIs (N+4) 41 3 (grF rv (.slice none 0 0) hh)
 rt:wr.ownsRow (N+5) 2 1 rv rl.length (icells rl)
 ap:∀ b,rv.ownBlock=some b->ov.ownBlock ≠ some b
theorem Sh1.told {N:Nat} {W0 wr w1:World} {hh:Int} {o o1:List Nat} {rl:List Int} {ov rv ov1:Value} (s:Sh1 N W0 wr hh o rl ov rv)
  (r:w1.rowIs (N+2) 2 3200 (nmF o1)) (ho:w1.ownsRow (N+3) 2 1 ov1 o1.length (icells (ints o1))) (hl:ov1.ownBlock=ov.ownBlock ∨ ∃ b,ov1.ownBlock=some b/\wr.heap.size<=b)
  (g:Grew wr w1 (fun k=>k=N+2 ∨ ov.ownBlock=some k)):Sh1 N W0 w1 hh o1 rl ov1 rv:=by
 have hsz:=s.sz
 have ob:=s.ord.lt
 have rb:=s.rt.lt
 refine ⟨s.bel.trans (g.below (by omega) fun b _ q=>?_),Nat.le_trans s.sz g.size,r,ho,?_,g.row s.g ?_,g.own s.rt ?_,?_⟩
 ·rcases q with q|q
  ·omega
  ·have:=(ob b q).1;omega
 ·rcases hl with e|⟨b,e,hb⟩
  ·rw [e];exact s.ordg
  ·rw [e];simp;omega
 ·rintro (q|q)
  ·omega
  ·exact s.ordg q
 ·rintro b e (q|q)
  ·have:=(rb b e).1;omega
  ·exact s.ap b e q
 ·intro b e
  have:=(rb b e).2
  rcases hl with q|⟨b',q,hb⟩
  ·rw [q];exact s.ap b e
  ·rw [q];simp;omega
theorem Sh1.root {N:Nat} {W0 wr w2 w3:World} {hh:Int} {o:List Nat} {rl:List Int} {ov rv rv1:Value} {x:Int} (s:Sh1 N W0 wr hh o rl ov rv) (a:Below wr.heap.size wr w2)
  (ho:w3.ownsRow (N+5) 2 1 rv1 (rl.length+1) (icells rl ++ [.int .i64 x])) (g:w2.grownBy w3 rv.ownBlock) (hl:rv1.ownBlock=rv.ownBlock ∨ rv1.ownBlock=some w2.heap.size) :
  Sh1 N W0 (w3.setCell ⟨N+4,0,none⟩ rv1) hh o (rl ++ [x]) ov rv1:=by
 have hsz:=s.sz
 have ob:=s.ord.lt
 have rb:=s.rt.lt
 have az:=a.size
 have G1:Grew wr w3 (fun k=>rv.ownBlock=some k):=(Grew.new a _).trans (Grew.grown g)
 have gg:=G1.row s.g (fun q=>by have:=(rb _ q).1;omega)
 have G2:=Grew.set w3 (N+4) 0 rv1
 have ne4:∀ b,rv1.ownBlock=some b->b ≠ N+4:=fun b e=>by have:=(ho.lt b e).1;omega
 refine ⟨(s.bel.trans (G1.below (by omega) fun b _ q=>by have:=(rb b q).1;omega)).trans (G2.below (by have:=G1.size;omega) fun b _ q=>by omega),?_,?_,?_,s.ordg,gr_set0 gg rv1,?_,?_⟩
 ·have:=G1.size;have:=G2.size;omega
 ·exact G2.row (G1.row s.num (fun q=>by have:=(rb _ q).1;omega)) (by omega)
 ·exact G2.own (G1.own s.ord (fun b e q=>s.ap b q e)) (fun b e q=>s.ordg (by rw [e,q]))
 ·have:=G2.own ho ne4
  simpa [icells] using this
 ·intro b e q
  have:=(ob b q).2
  rcases hl with k|k
  ·exact s.ap b (by rw [<- k];exact e) q
  ·rw [k] at e;simp at e;omega
structure Sh2 (N:Nat) (W0 wr:World) (hh:Int) (o:List Nat) (rl:List Int) (ns:List Nd) (ov rv nv:Value) (K:Nat->Prop):Prop where
 bel:Below (N+2) W0 wr
 sz:N+5<=wr.heap.size
 num:wr.rowIs (N+2) 2 3200 (nmF o)
 ord:wr.ownsRow (N+3) 2 1 ov o.length (icells (ints o))
 ordg:ov.ownBlock ≠ some (N+4)
 g:wr.rowIs (N+4) 41 3 (grF rv nv hh)
 nd:NK (N+5) wr nv ns K
 ndb:∀ b,nv.ownBlock=some b->N+5<=b/\b<wr.heap.size/\ov.ownBlock ≠ some b
 rt:IR wr rv rl/\∀ b,inB rv b->K b
 kk:∀ b,K b->N+5<=b/\b<wr.heap.size/\ov.ownBlock ≠ some b/\nv.ownBlock ≠ some b
theorem Sh1.two {N:Nat} {W0 wr:World} {hh:Int} {o:List Nat} {rl:List Int} {ov rv:Value} (s:Sh1 N W0 wr hh o rl ov rv):Sh2 N W0 wr hh o rl [] ov rv (.slice none 0 0) (fun b=>rv.ownBlock=some b) :=
 ⟨s.bel,s.sz,s.num,s.ord,s.ordg,s.g,⟨[],fun _=>.slice none 0 0,World.ownsRow_nil _ _ _ _,Trip.nil _,fun i hi=>by simp at hi⟩,fun b e=>by simp [Value.ownBlock] at e,
  ⟨IR_of_owns s.rt,fun b k=>inB_own s.rt k⟩,fun b e=>⟨(s.rt.lt b e).1,(s.rt.lt b e).2,s.ap b e,by simp [Value.ownBlock]⟩⟩
theorem Sh2.told {N:Nat} {W0 wr w1:World} {hh:Int} {o o1:List Nat} {rl:List Int} {ns:List Nd} {ov rv nv ov1:Value} {K:Nat->Prop} (s:Sh2 N W0 wr hh o rl ns ov rv nv K)
  (r:w1.rowIs (N+2) 2 3200 (nmF o1)) (ho:w1.ownsRow (N+3) 2 1 ov1 o1.length (icells (ints o1))) (hl:ov1.ownBlock=ov.ownBlock ∨ ∃ b,ov1.ownBlock=some b/\wr.heap.size<=b)
  (g:Grew wr w1 (fun k=>k=N+2 ∨ ov.ownBlock=some k)):Sh2 N W0 w1 hh o1 rl ns ov1 rv nv K:=by
 have hsz:=s.sz
 have gsz:=g.size
 have ob:=s.ord.lt
 have nn:∀ b,b<wr.heap.size->ov.ownBlock ≠ some b->ov1.ownBlock ≠ some b:=fun b h1 h2=>by
  rcases hl with e|⟨b',e,hb⟩
  ·rw [e];exact h2
  ·rw [e];simp;omega
 have kS:∀ b,K b->¬ (b=N+2 ∨ ov.ownBlock=some b):=fun b k q=>by
  obtain ⟨k1,k2,k3,k4⟩:=s.kk b k
  rcases q with q|q
  ·omega
  ·exact k3 q
 refine ⟨s.bel.trans (g.below (by omega) fun b _ q=>?_),by omega,r,ho,nn _ (by omega) s.ordg,g.row s.g ?_,g.nk s.nd ?_ kS,?_,⟨g.ir s.rt.1 (fun b q=>kS b (s.rt.2 b q)),s.rt.2⟩,?_⟩
 ·rcases q with q|q
  ·omega
  ·have:=(ob b q).1;omega
 ·rintro (q|q)
  ·omega
  ·exact s.ordg q
 ·rintro b e (q|q)
  ·have:=(s.ndb b e).1;omega
  ·exact (s.ndb b e).2.2 q
 ·intro b e
  obtain ⟨h1,h2,h3⟩:=s.ndb b e
  exact ⟨h1,by omega,nn b h2 h3⟩
 ·intro b k
  obtain ⟨h1,h2,h3,h4⟩:=s.kk b k
  exact ⟨h1,by omega,nn b h2 h3,h4⟩
theorem Sh2.new {N:Nat} {W0 wr w1:World} {hh:Int} {o:List Nat} {rl:List Int} {ns:List Nd} {ov rv nv:Value} {K:Nat->Prop} (s:Sh2 N W0 wr hh o rl ns ov rv nv K) {S:Nat->Prop} (g:Grew wr w1 S)
  (h1:∀ b,S b->N+5<=b/\ov.ownBlock ≠ some b/\nv.ownBlock ≠ some b/\¬ K b):Sh2 N W0 w1 hh o rl ns ov rv nv K:=by
 have hsz:=s.sz
 have gsz:=g.size
 refine ⟨s.bel.trans (g.below (by omega) fun b _ q=>by have:=(h1 b q).1;omega),by omega,g.row s.num (fun q=>by have:=(h1 _ q).1;omega),g.own s.ord (fun b e q=>(h1 b q).2.1 e),s.ordg,g.row s.g (fun q=>by have:=(h1 _ q).1;omega),
  g.nk s.nd (fun b e q=>(h1 b q).2.2.1 e) (fun b k q=>(h1 b q).2.2.2 k),fun b e=>?_,⟨g.ir s.rt.1 (fun b q k=>(h1 b k).2.2.2 (s.rt.2 b q)),s.rt.2⟩,fun b k=>?_⟩
 ·obtain ⟨q1,q2,q3⟩:=s.ndb b e
  exact ⟨q1,by omega,q3⟩
 ·obtain ⟨q1,q2,q3,q4⟩:=s.kk b k
  exact ⟨q1,by omega,q3,q4⟩
structure Sh3 (N:Nat) (W0 wr:World) (hh:Int) (o:List Nat) (rl:List Int) (ns:List Nd) (ov rv nv:Value) (K:Nat->Prop) (bn:Nat) (c z:Int) (fl:List Int) (fv:Value):Prop where
 s:Sh2 N W0 wr hh o rl ns ov rv nv K
 bnl:N+5<=bn
 bnk:¬ K bn/\ov.ownBlock ≠ some bn/\nv.ownBlock ≠ some bn/\fv.ownBlock ≠ some bn
 nb:wr.rowIs bn 73 3 (ndF c z fv)
 fo:wr.ownsRow (N+5) 2 1 fv fl.length (icells fl)
 fap:∀ b,fv.ownBlock=some b->ov.ownBlock ≠ some b/\nv.ownBlock ≠ some b/\¬ K b
theorem Sh3.told {N:Nat} {W0 wr w1:World} {hh:Int} {o o1:List Nat} {rl:List Int} {ns:List Nd} {ov rv nv ov1:Value} {K:Nat->Prop} {bn:Nat} {c z:Int} {fl:List Int} {fv:Value} (s:Sh3 N W0 wr hh o rl ns ov rv nv K bn c z fl fv)
  (r:w1.rowIs (N+2) 2 3200 (nmF o1)) (ho:w1.ownsRow (N+3) 2 1 ov1 o1.length (icells (ints o1))) (hl:ov1.ownBlock=ov.ownBlock ∨ ∃ b,ov1.ownBlock=some b/\wr.heap.size<=b)
  (g:Grew wr w1 (fun k=>k=N+2 ∨ ov.ownBlock=some k)):Sh3 N W0 w1 hh o1 rl ns ov1 rv nv K bn c z fl fv:=by
 have hb:=s.bnl
 have hlt:=s.nb.lt
 have nn:∀ b,b<wr.heap.size->ov.ownBlock ≠ some b->ov1.ownBlock ≠ some b:=fun b h1 h2=>by
  rcases hl with e|⟨b',e,hb⟩
  ·rw [e];exact h2
  ·rw [e];simp;omega
 refine ⟨s.s.told r ho hl g,hb,⟨s.bnk.1,nn _ hlt s.bnk.2.1,s.bnk.2.2⟩,g.row s.nb ?_,g.own s.fo ?_,fun b e=>⟨nn _ (s.fo.lt b e).2 (s.fap b e).1,(s.fap b e).2⟩⟩
 ·rintro (q|q)
  ·omega
  ·exact s.bnk.2.1 q
 ·rintro b e (q|q)
  ·have:=(s.fo.lt b e).1;omega
  ·exact (s.fap b e).1 q
theorem Sh3.field {N:Nat} {W0 wr w2 w3:World} {hh:Int} {o:List Nat} {rl:List Int} {ns:List Nd} {ov rv nv:Value} {K:Nat->Prop} {bn:Nat} {c z x:Int} {fl:List Int} {fv fv1:Value} (s:Sh3 N W0 wr hh o rl ns ov rv nv K bn c z fl fv)
  (a:Below wr.heap.size wr w2) (ho:w3.ownsRow (N+5) 2 1 fv1 (fl.length+1) (icells fl ++ [.int .i64 x])) (g:w2.grownBy w3 fv.ownBlock) (hl:fv1.ownBlock=fv.ownBlock ∨ fv1.ownBlock=some w2.heap.size) :
  Sh3 N W0 (w3.setCell ⟨bn,2,none⟩ fv1) hh o rl ns ov rv nv K bn c z (fl ++ [x]) fv1:=by
 have hb:=s.bnl
 have hlt:=s.nb.lt
 have az:=a.size
 have G1:Grew wr w3 (fun k=>fv.ownBlock=some k):=(Grew.new a _).trans (Grew.grown g)
 have G2:=Grew.set w3 bn 2 fv1
 have f1:∀ b,fv1.ownBlock=some b->fv.ownBlock=some b ∨ wr.heap.size<=b:=fun b e=>by
  rcases hl with k|k
  ·exact .inl (by rw [<- k];exact e)
  ·rw [k] at e;simp at e;exact .inr (by omega)
 have nbn:fv1.ownBlock ≠ some bn:=fun e=>by
  rcases f1 bn e with k|k
  ·exact s.bnk.2.2.2 k
  ·omega
 refine ⟨(s.s.new G1 fun b e=>⟨(s.fo.lt b e).1,s.fap b e⟩).new G2 fun b e=>?_,hb,⟨s.bnk.1,s.bnk.2.1,s.bnk.2.2.1,nbn⟩,nd_set2 (G1.row s.nb s.bnk.2.2.2) fv1,?_,fun b e=>?_⟩
 ·subst e
  exact ⟨hb,s.bnk.2.1,s.bnk.2.2.1,s.bnk.1⟩
 ·have:=G2.own ho (fun b e q=>nbn (by rw [e,q]))
  simpa [icells] using this
 ·rcases f1 b e with k|k
  ·exact s.fap b k
  ·refine ⟨fun q=>?_,fun q=>?_,fun q=>?_⟩
   ·have:=(s.s.ord.lt b q).2;omega
   ·have:=(s.s.ndb b q).2.1;omega
   ·have:=(s.s.kk b q).2.1;omega
theorem Sh3.done {N:Nat} {W0 wr w2 w3:World} {hh:Int} {o:List Nat} {rl:List Int} {ns:List Nd} {ov rv nv nv1:Value} {K:Nat->Prop} {bn:Nat} {c z:Int} {fl:List Int} {fv:Value} (s:Sh3 N W0 wr hh o rl ns ov rv nv K bn c z fl fv)
  (a:Below wr.heap.size wr w2) {xs:List Value} {fw:Nat->Value} (ht:Trip xs ns fw) (hf:∀ i,i<ns.length->IR wr (fw i) (ns.getD i nd0).fl/\∀ b,inB (fw i) b->K b)
  (ho:w3.ownsRow (N+5) 73 3 nv1 (ns.length+1) (xs ++ [.int .i64 c,.int .i64 z,fv])) (g:w2.grownBy w3 nv.ownBlock) (hl:nv1.ownBlock=nv.ownBlock ∨ nv1.ownBlock=some w2.heap.size) :
  Sh2 N W0 (w3.setCell ⟨N+4,1,none⟩ nv1) hh o rl (ns ++ [⟨c,z,fl⟩]) ov rv nv1 (fun b=>K b ∨ fv.ownBlock=some b):=by
 have hsz:=s.s.sz
 have az:=a.size
 have G1:Grew wr w3 (fun k=>nv.ownBlock=some k):=(Grew.new a _).trans (Grew.grown g)
 have G2:=Grew.set w3 (N+4) 1 nv1
 have g1z:=G1.size
 have g2z:=G2.size
 have n1:∀ b,nv1.ownBlock=some b->nv.ownBlock=some b ∨ wr.heap.size<=b:=fun b e=>by
  rcases hl with k|k
  ·exact .inl (by rw [<- k];exact e)
  ·rw [k] at e;simp at e;exact .inr (by omega)
 have n5:∀ b,nv1.ownBlock=some b->N+5<=b:=fun b e=>(ho.lt b e).1
 refine ⟨(s.s.bel.trans (G1.below (by omega) fun b _ q=>by have:=(s.s.ndb b q).1;omega)).trans (G2.below (by omega) fun b _ q=>by omega),by omega,?_,?_,s.s.ordg,gr_set1 (G1.row s.s.g fun q=>by have:=(s.s.ndb _ q).1;omega) nv1,?_,fun b e=>⟨n5 b e,?_,fun q=>?_⟩,⟨?_,fun b q=>.inl (s.s.rt.2 b q)⟩,?_⟩
 ·exact G2.row (G1.row s.s.num fun q=>by have:=(s.s.ndb _ q).1;omega) (by omega)
 ·exact G2.own (G1.own s.s.ord fun b e q=>(s.s.ndb b q).2.2 e) (fun b e q=>s.s.ordg (by rw [e,q]))
 ·refine ⟨_,_,(show (w3.setCell ⟨N+4,1,none⟩ nv1).ownsRow (N+5) _ 3 nv1 (ns ++ [(⟨c,z,fl⟩:Nd)]).length _ from ?_),ht.snoc c z fl fv,fun i hi=>?_⟩
  ·have:=G2.own ho (fun b e q=>by have:=n5 b e;omega)
   simpa using this
  ·have hi' : i<ns.length+1:=by simpa using hi
   by_cases e:i=ns.length
   ·subst e
    have e2:(ns ++ [(⟨c,z,fl⟩:Nd)]).getD ns.length nd0=⟨c,z,fl⟩:=by simp
    rw [if_pos rfl,e2]
    refine ⟨G2.ir (G1.ir (IR_of_owns s.fo) fun b q k=>?_) fun b q k=>?_,fun b q=>.inr (inB_own s.fo q)⟩
    ·exact (s.fap b (inB_own s.fo q)).2.1 k
    ·have:=(s.fo.lt b (inB_own s.fo q)).1;omega
   ·have hlt:i<ns.length:=by omega
    have eg:(ns ++ [(⟨c,z,fl⟩:Nd)]).getD i nd0=ns.getD i nd0:=by simp [List.getD_eq_getElem?_getD,List.getElem?_append_left hlt]
    rw [if_neg e,eg]
    obtain ⟨f1,f2⟩:=hf i hlt
    refine ⟨G2.ir (G1.ir f1 fun b q k=>(s.s.kk b (f2 b q)).2.2.2 k) fun b q k=>?_,fun b q=>.inl (f2 b q)⟩
    have:=(s.s.kk b (f2 b q)).1;omega
 ·have:=(ho.lt b e).2;omega
 ·rcases n1 b e with k|k
  ·exact (s.s.ndb b k).2.2 q
  ·have:=(s.s.ord.lt b q).2;omega
 ·refine G2.ir (G1.ir s.s.rt.1 fun b q k=>(s.s.kk b (s.s.rt.2 b q)).2.2.2 k) fun b q k=>?_
  have:=(s.s.kk b (s.s.rt.2 b q)).1;omega
 ·rintro b (k|k)
  ·obtain ⟨k1,k2,k3,k4⟩:=s.s.kk b k
   exact ⟨k1,by omega,k3,fun q=>by
    rcases n1 b q with e|e
    ·exact k4 e
    ·omega⟩
  ·obtain ⟨k1,k2⟩:=s.fo.lt b k
   obtain ⟨k3,k4,k5⟩:=s.fap b k
   exact ⟨k1,by omega,k3,fun q=>by
    rcases n1 b q with e|e
    ·exact k4 e
    ·omega⟩
end Go.Proofs.YtgnbibinclepcaaGreatDoor
/- l6Shape of the model: the graph of a right heap. -/
namespace Go.Proofs.YtgnbibinclepcaaGreatDoor
open Go.RowKit
theorem fit_two {l:List Nat} {x:Int} (h:fitB l x=true):x % 2=0 ∨ isK 2 x=true:=by
 by_cases e:isK 2 x=true
 ·exact .inr e
 ·refine .inl ?_
  unfold fitB at h
  unfold isK at e
  simp only [Bool.or_eq_true,decide_eq_true_eq,Bool.and_eq_true] at h e
  have k1:kindW x=1:=by
   rcases h with q|q
   ·exact q
   ·exact absurd q.1 e
  unfold kindW at k1
  split at k1
  ·split at k1 <;> omega
  ·omega
theorem gmakeW (w:World):(Instr.makeSlice 24 (.int .i64 3200) (.int .i64 3200)).run Tryz.prog w=.ok (.slice (some ⟨w.heap.size,0,none⟩) 3200 3200) (w.alloc (.cells (madeCells #[.int .i64 0] 3200) 2)):=make28 3200 (by omega) w
theorem root_step {h:Hp} {l:List Nat} (r:RightAt h l) {k:Nat} (hk:k<h.roots.length) :
  (h.roots.getD k 0 % 2=0 ∨ isK 2 (h.roots.getD k 0)=true)/\(fol [] (h.roots.take k)).length<=3200/\fol1 (fol [] (h.roots.take k)) (h.roots.getD k 0)=fol [] (h.roots.take (k+1)) ∧
  ren (fol1 (fol [] (h.roots.take k)) (h.roots.getD k 0)) (h.roots.getD k 0)=ren (ordF h.words h.roots) (h.roots.getD k 0):=by
 have hm:h.roots.getD k 0 ∈ h.roots:=by simp [hk]
 have hp:∀ j,fol [] (h.roots.take j) <+: ordF h.words h.roots:=fun j=>(fol_take_pre [] h.roots j).trans (tr_ord (W:=h.words) (R:=h.roots) (k:=0) (by omega))
 refine ⟨fit_two (right_roots r _ hm),Nat.le_trans (hp k).length_le (ord_len r),(fol_snoc [] h.roots k hk).symm,?_⟩
 rw [<- fol_snoc [] h.roots k hk]
 refine ren_pre (hp (k+1)) fun q=>?_
 rw [fol_snoc [] h.roots k hk]
 exact fol1_has q
theorem field_step {h:Hp} {l:List Nat} (r:RightAt h l) {k j:Nat} (hk:k<(tr h.words h.roots k).length) (hk3:k<3200) (hj:j<(flds h.words ((tr h.words h.roots k).getD k 0)).length) :
  let a:=(tr h.words h.roots k).getD k 0
  ((flds h.words a).getD j 0 % 2=0 ∨ isK 2 ((flds h.words a).getD j 0)=true)/\(fol (tr h.words h.roots k) ((flds h.words a).take j)).length<=3200 ∧
  fol1 (fol (tr h.words h.roots k) ((flds h.words a).take j)) ((flds h.words a).getD j 0)=fol (tr h.words h.roots k) ((flds h.words a).take (j+1)) ∧
  ren (fol1 (fol (tr h.words h.roots k) ((flds h.words a).take j)) ((flds h.words a).getD j 0)) ((flds h.words a).getD j 0)=ren (ordF h.words h.roots) ((flds h.words a).getD j 0):=by
 intro a
 have ha:a ∈ l:=tr_sub r k (by simp [a,hk])
 have hm:(flds h.words a).getD j 0 ∈ flds h.words a:=by
  rw [gd_in hj]
  exact List.getElem_mem hj
 have hp:∀ j,fol (tr h.words h.roots k) ((flds h.words a).take j) <+: ordF h.words h.roots:=fun j=>by
  have h1:=fol_take_pre (tr h.words h.roots k) (flds h.words a) j
  rw [<- tr_next _ _ _ hk] at h1
  exact h1.trans (tr_ord (k:=k+1) (by omega))
 refine ⟨fit_two (right_fields r ha _ hm),Nat.le_trans (hp j).length_le (ord_len r),(fol_snoc _ _ j hj).symm,?_⟩
 rw [<- fol_snoc _ _ j hj]
 refine ren_pre (hp (j+1)) fun q=>?_
 rw [fol_snoc _ _ j hj]
 exact fol1_has q
theorem gr_store {w:World} {b t:Nat} {rv nv u0 u1:Value} {hh h2:Int} (h:w.rowIs b t 3 (grF rv nv hh)) :
  (((w.setCell ⟨b,0,none⟩ u0).setCell ⟨b,1,none⟩ u1).setCell ⟨b,2,none⟩ (.int .i64 h2)).rowIs b t 3 (grF u0 u1 h2)/\Grew w (((w.setCell ⟨b,0,none⟩ u0).setCell ⟨b,1,none⟩ u1).setCell ⟨b,2,none⟩ (.int .i64 h2)) (fun k=>k=b):=by
 refine ⟨((gr_set1 (gr_set0 h u0) u1).set 2 _).congr fun i hi=>?_,((Grew.set _ _ _ _).trans (Grew.set _ _ _ _)).trans (Grew.set _ _ _ _)⟩
 unfold grF
 by_cases e:i=2
 ·simp [e]
 ·rw [if_neg e]
  by_cases e0:i=0
  ·simp [e0]
  ·by_cases e1:i=1
   ·simp [e1]
   ·omega
theorem flds_getH {W:List Int} {a m j:Nat} (hm:gw W a=(m:Int)) (hj:j<m):(flds W a).getD j 0=gw W (a+4+j):=by
 unfold flds
 rw [hm,Int.toNat_natCast]
 simp [hj]
theorem field_need {h:Hp} {l:List Nat} (r:RightAt h l) {k m j:Nat} (hk:k<(tr h.words h.roots k).length) (hk3:k<3200) (hm:gw h.words ((tr h.words h.roots k).getD k 0)=(m:Int)) (hj:j<m) :
  (gw h.words ((tr h.words h.roots k).getD k 0+4+j) % 2=0 ∨ isK 2 (gw h.words ((tr h.words h.roots k).getD k 0+4+j))=true)/\(fol (tr h.words h.roots k) ((flds h.words ((tr h.words h.roots k).getD k 0)).take j)).length<=3200 ∧
  fol1 (fol (tr h.words h.roots k) ((flds h.words ((tr h.words h.roots k).getD k 0)).take j)) (gw h.words ((tr h.words h.roots k).getD k 0+4+j))=fol (tr h.words h.roots k) ((flds h.words ((tr h.words h.roots k).getD k 0)).take (j+1)) ∧
  ren (fol1 (fol (tr h.words h.roots k) ((flds h.words ((tr h.words h.roots k).getD k 0)).take j)) (gw h.words ((tr h.words h.roots k).getD k 0+4+j))) (gw h.words ((tr h.words h.roots k).getD k 0+4+j))=ren (ordF h.words h.roots) (gw h.words ((tr h.words h.roots k).getD k 0+4+j)) ∧
  ((flds h.words ((tr h.words h.roots k).getD k 0)).take (j+1)).map (ren (ordF h.words h.roots))=((flds h.words ((tr h.words h.roots k).getD k 0)).take j).map (ren (ordF h.words h.roots)) ++ [ren (ordF h.words h.roots) (gw h.words ((tr h.words h.roots k).getD k 0+4+j))]:=by
 have hl:j<(flds h.words ((tr h.words h.roots k).getD k 0)).length:=by rw [flds_length,hm];exact hj
 have q:=field_step r hk hk3 hl
 simp only at q
 rw [flds_getH hm hj] at q
 refine ⟨q.1,q.2.1,q.2.2.1,q.2.2.2,?_⟩
 rw [itake_snoc _ _ hl,flds_getH hm hj]
 simp
theorem Sh2.node {N:Nat} {W0 wr:World} {hh:Int} {o:List Nat} {rl:List Int} {ns:List Nd} {ov rv nv:Value} {K:Nat->Prop} (s:Sh2 N W0 wr hh o rl ns ov rv nv K) (c z:Int) :
  Sh3 N W0 (wr.alloc (.cells #[.int .i64 c,.int .i64 z,.slice none 0 0] 73)).drew hh o rl ns ov rv nv K wr.heap.size c z [] (.slice none 0 0):=by
 refine ⟨s.new (S:=fun _=>False) (Grew.new (bel_one _ _) _).drew (fun b q=>q.elim),s.sz,⟨fun q=>?_,fun q=>?_,fun q=>?_,by simp [Value.ownBlock]⟩,?_,World.ownsRow_nil _ _ _ _,fun b e=>by simp [Value.ownBlock] at e⟩
 ·have:=(s.kk _ q).2.1;omega
 ·have:=(s.ord.lt _ q).2;omega
 ·have:=(s.ndb _ q).2.1;omega
 ·exact World.rowIs_alloc wr #[.int .i64 c,.int .i64 z,.slice none 0 0] _ _ (fun i hi=>by
   match i,hi with
   | 0,_=>rfl
   | 1,_=>rfl
   | 2,_=>rfl)
end Go.Proofs.YtgnbibinclepcaaGreatDoor
/- Graphs that own their memory. -/
namespace Go.Proofs.YtgnbibinclepcaaGreatDoor
open Go.RowKit
def NOwn (B:Nat) (w:World) (nv:Value) (ns:List Nd) (fv:Nat->Value):Prop :=
 ∃ xs,w.ownsRow B 73 3 nv ns.length xs/\Trip xs ns fv/\(∀ i,i<ns.length->w.ownsRow B 2 1 (fv i) (ns.getD i nd0).fl.length (icells (ns.getD i nd0).fl)) ∧
  ∀ i j,i<ns.length->j<ns.length->i ≠ j->∀ b,(fv i).ownBlock=some b->(fv j).ownBlock ≠ some b
def GN (B:Nat) (w:World) (v:Value) (g:Gr):Prop :=
 ∃ vr vn fv,v=.agg #[vr,vn,.int .i64 g.hash]/\w.ownsRow B 2 1 vr g.roots.length (icells g.roots)/\NOwn B w vn g.nodes fv/\∀ i,i<g.nodes.length->∀ b,vr.ownBlock=some b->(fv i).ownBlock ≠ some b
theorem type_ne {w:World} {B B' e e' s s' n n' b:Nat} {v v' : Value} {xs xs' : List Value} (h:w.ownsRow B e s v n xs) (h' : w.ownsRow B' e' s' v' n' xs') (ne:e ≠ e') (hb:v.ownBlock=some b):v'.ownBlock ≠ some b:=by
 intro hb'
 rcases h.2 with ⟨rfl,_⟩|⟨g,cap,cur,rfl,_,hh,_⟩
 ·simp [Value.ownBlock] at hb
 ·rcases h'.2 with ⟨rfl,_⟩|⟨g',cap',cur',rfl,_,hh',_⟩
  ·simp [Value.ownBlock] at hb'
  ·simp [Value.ownBlock] at hb hb'
   subst hb hb'
   rw [hh] at hh'
   simp at hh'
   exact ne hh'.2
theorem NOwn.nk {B:Nat} {w:World} {nv:Value} {ns:List Nd} {fv:Nat->Value} (h:NOwn B w nv ns fv):NK B w nv ns (fun b=>B<=b/\b<w.heap.size):=by
 obtain ⟨xs,ho,ht,hf,_⟩:=h
 exact ⟨xs,fv,ho,ht,fun i hi=>⟨IR_of_owns (hf i hi),fun b k=>(hf i hi).lt b (inB_own (hf i hi) k)⟩⟩
theorem GN.grn {B:Nat} {w:World} {v:Value} {g:Gr} (h:GN B w v g):GRn B w v g:=by
 obtain ⟨vr,vn,fv,e,hr,hn,_⟩:=h
 exact ⟨vr,vn,_,e,⟨IR_of_owns hr,fun b k=>hr.lt b (inB_own hr k)⟩,hn.nk,fun b k=>k.1⟩
theorem Grew.nown {B:Nat} {w w' : World} {nv:Value} {ns:List Nd} {fv:Nat->Value} {S:Nat->Prop} (q:Grew w w' S) (h:NOwn B w nv ns fv) (hS:∀ b,S b->b<B):NOwn B w' nv ns fv:=by
 obtain ⟨xs,ho,ht,hf,ha⟩:=h
 exact ⟨xs,q.own ho (fun b e s=>by have:=(ho.lt b e).1;have:=hS b s;omega),ht,fun i hi=>q.own (hf i hi) (fun b e s=>by have:=((hf i hi).lt b e).1;have:=hS b s;omega),ha⟩
theorem GN.base {B B' : Nat} {w:World} {v:Value} {g:Gr} (h:GN B w v g) (hB:B' <= B):GN B' w v g:=by
 obtain ⟨vr,vn,fv,e,hr,⟨xs,ho,ht,hf,ha⟩,h2⟩:=h
 exact ⟨vr,vn,fv,e,gown_mono hr hB,⟨xs,gown_mono ho hB,ht,fun i hi=>gown_mono (hf i hi) hB,ha⟩,h2⟩
theorem NOwn.snoc {B:Nat} {w w1 w2 w3:World} {nv nv1 f:Value} {ns:List Nd} {fv:Nat->Value} {c z:Int} {fl:List Int} (h:NOwn B w nv ns fv) (b1:Below w.heap.size w w1) (hf:w1.ownsRow w.heap.size 2 1 f fl.length (icells fl)) (hB:B<=w.heap.size)
  (b2:Below w1.heap.size w1 w2) {xs:List Value} (ht:Trip xs ns fv) (ho:w3.ownsRow B 73 3 nv1 (ns.length+1) (xs ++ [.int .i64 c,.int .i64 z,f])) (g:w2.grownBy w3 nv.ownBlock) :
  NOwn B w3 nv1 (ns ++ [⟨c,z,fl⟩]) (fun i=>if i=ns.length then f else fv i):=by
 obtain ⟨xs0,ho0,_,hf0,ha0⟩:=h
 have o1:w1.ownsRow B _ 3 nv ns.length xs0:=own_later ho0 b1
 have G:Grew w1 w3 (fun k=>nv.ownBlock=some k):=(Grew.new b2 _).trans (Grew.grown g)
 have oF:w3.ownsRow B 2 1 f fl.length (icells fl):=gown_mono (G.own hf (fun b e q=>type_ne hf o1 (by decide) e q)) hB
 have oI:∀ i,i<ns.length->w3.ownsRow B 2 1 (fv i) (ns.getD i nd0).fl.length (icells (ns.getD i nd0).fl):=fun i hi=>G.own (own_later (hf0 i hi) b1) (fun b e q=>type_ne (hf0 i hi) ho0 (by decide) e q)
 have eg:∀ i,i<ns.length->(ns ++ [(⟨c,z,fl⟩:Nd)]).getD i nd0=ns.getD i nd0:=fun i hi=>by simp [List.getD_eq_getElem?_getD,List.getElem?_append_left hi]
 have en:(ns ++ [(⟨c,z,fl⟩:Nd)]).getD ns.length nd0=⟨c,z,fl⟩:=by simp
 have hl:(ns ++ [(⟨c,z,fl⟩:Nd)]).length=ns.length+1:=by simp
 refine ⟨_,by rw [hl];exact ho,ht.snoc c z fl f,fun i hi=>?_,fun i j hi hj ne b e=>?_⟩
 ·rw [hl] at hi
  dsimp only
  by_cases e:i=ns.length
  ·subst e
   rw [if_pos rfl,en]
   exact oF
  ·rw [if_neg e,eg i (by omega)]
   exact oI i (by omega)
 ·rw [hl] at hi hj
  dsimp only at e ⊢
  by_cases e1:i=ns.length
  ·rw [if_pos e1] at e
   rw [if_neg (by omega)]
   intro q
   have h1:=(hf.lt b e).1
   have h2:=((hf0 j (by omega)).lt b q).2
   omega
  ·rw [if_neg e1] at e
   by_cases e2:j=ns.length
   ·rw [if_pos e2]
    intro q
    have h1:=(hf.lt b q).1
    have h2:=((hf0 i (by omega)).lt b e).2
    omega
   ·rw [if_neg e2]
    exact ha0 i j (by omega) (by omega) ne b e
end Go.Proofs.YtgnbibinclepcaaGreatDoor
/- A graph in the making whose rows are owned. -/
namespace Go.Proofs.YtgnbibinclepcaaGreatDoor
open Go.RowKit
theorem own_same {w:World} {B B' e s n:Nat} {v:Value} {xs ys:List Value} (h:w.ownsRow B e s v n xs) (h' : w.ownsRow B' e s v n ys):xs=ys:=by
 obtain ⟨hl,h⟩:=h
 obtain ⟨hl',h'⟩:=h'
 rcases h with ⟨rfl,rfl⟩|⟨g,cap,cur,rfl,_,hh,_,_,_,q⟩
 ·rw [Nat.zero_mul] at hl hl'
  rw [List.eq_nil_of_length_eq_zero hl,List.eq_nil_of_length_eq_zero hl']
 ·rcases h' with ⟨e1,_⟩|⟨g',cap',cur',e1,_,hh',_,_,_,q'⟩
  ·cases e1
  ·simp only [Value.slice.injEq,Option.some.injEq,Addr.mk.injEq,true_and,and_true] at e1
   obtain ⟨rfl,rfl⟩:=e1
   rw [hh] at hh'
   simp only [Option.some.injEq,Obj.cells.injEq,and_true] at hh'
   rw [<- q,← q',hh']
structure Ex2 (N:Nat) (wr:World) (rl:List Int) (ns:List Nd) (rv nv:Value) (K:Nat->Prop):Prop where
 rt:wr.ownsRow (N+5) 2 1 rv rl.length (icells rl)
 rk:∀ b,rv.ownBlock=some b->K b
 nd:∃ xs fv,wr.ownsRow (N+5) 73 3 nv ns.length xs/\Trip xs ns fv/\(∀ i,i<ns.length->wr.ownsRow (N+5) 2 1 (fv i) (ns.getD i nd0).fl.length (icells (ns.getD i nd0).fl)/\∀ b,(fv i).ownBlock=some b->K b/\rv.ownBlock ≠ some b)/\∀ i j,i<ns.length->j<ns.length->i ≠ j->∀ b,(fv i).ownBlock=some b->(fv j).ownBlock ≠ some b
theorem Ex2.keep {N:Nat} {wr w1:World} {rl:List Int} {ns:List Nd} {rv nv:Value} {K S:Nat->Prop} (e:Ex2 N wr rl ns rv nv K) (g:Grew wr w1 S) (h1:∀ b,S b->¬ K b) (h2:∀ b,S b->nv.ownBlock ≠ some b):Ex2 N w1 rl ns rv nv K:=by
 obtain ⟨xs,fv,ho,ht,hf,ha⟩:=e.nd
 exact ⟨g.own e.rt (fun b q s=>h1 b s (e.rk b q)),e.rk,xs,fv,g.own ho (fun b q s=>h2 b s q),ht,fun i hi=>⟨g.own (hf i hi).1 (fun b q s=>h1 b s ((hf i hi).2 b q).1),(hf i hi).2⟩,ha⟩
theorem Sh1.ex2 {N:Nat} {W0 wr:World} {hh:Int} {o:List Nat} {rl:List Int} {ov rv:Value} (s:Sh1 N W0 wr hh o rl ov rv):Ex2 N wr rl [] rv (.slice none 0 0) (fun b=>rv.ownBlock=some b) :=
 ⟨s.rt,fun b e=>e,[],fun _=>.slice none 0 0,World.ownsRow_nil _ _ _ _,Trip.nil _,fun i hi=>by simp at hi,fun i j hi=>by simp at hi⟩
theorem Sh2.exTold {N:Nat} {W0 wr w1:World} {hh:Int} {o:List Nat} {rl:List Int} {ns:List Nd} {ov rv nv:Value} {K:Nat->Prop} (s:Sh2 N W0 wr hh o rl ns ov rv nv K) (e:Ex2 N wr rl ns rv nv K) (g:Grew wr w1 (fun k=>k=N+2 ∨ ov.ownBlock=some k)):Ex2 N w1 rl ns rv nv K:=by
 refine e.keep g ?_ ?_
 ·rintro b (q|q) k
  ·have:=(s.kk b k).1;omega
  ·exact (s.kk b k).2.2.1 q
 ·rintro b (q|q) k
  ·have:=(s.ndb b k).1;omega
  ·exact (s.ndb b k).2.2 q
theorem Sh3.exField {N:Nat} {W0 wr w2 w3:World} {hh:Int} {o:List Nat} {rl:List Int} {ns:List Nd} {ov rv nv:Value} {K:Nat->Prop} {bn:Nat} {c z:Int} {fl:List Int} {fv:Value} (s:Sh3 N W0 wr hh o rl ns ov rv nv K bn c z fl fv) (e:Ex2 N wr rl ns rv nv K)
  (a:Below wr.heap.size wr w2) (g:w2.grownBy w3 fv.ownBlock) (u:Value):Ex2 N (w3.setCell ⟨bn,2,none⟩ u) rl ns rv nv K:=by
 have G1:Grew wr w3 (fun k=>fv.ownBlock=some k):=(Grew.new a _).trans (Grew.grown g)
 refine (e.keep G1 (fun b q=>(s.fap b q).2.2) (fun b q=>(s.fap b q).2.1)).keep (Grew.set w3 bn 2 u) ?_ ?_
 ·rintro b rfl
  exact s.bnk.1
 ·rintro b rfl
  exact s.bnk.2.2.1
theorem Sh3.exDone {N:Nat} {W0 wr w2 w3:World} {hh:Int} {o:List Nat} {rl:List Int} {ns:List Nd} {ov rv nv nv1:Value} {K:Nat->Prop} {bn:Nat} {c z:Int} {fl:List Int} {fv:Value} (s:Sh3 N W0 wr hh o rl ns ov rv nv K bn c z fl fv) (e:Ex2 N wr rl ns rv nv K)
  (a:Below wr.heap.size wr w2) {xs:List Value} {fw:Nat->Value} (ht:Trip xs ns fw) (hx:wr.ownsRow (N+5) 73 3 nv ns.length xs)
  (ho:w3.ownsRow (N+5) 73 3 nv1 (ns.length+1) (xs ++ [.int .i64 c,.int .i64 z,fv])) (g:w2.grownBy w3 nv.ownBlock) :
  Ex2 N (w3.setCell ⟨N+4,1,none⟩ nv1) rl (ns ++ [⟨c,z,fl⟩]) rv nv1 (fun b=>K b ∨ fv.ownBlock=some b):=by
 have G1:Grew wr w3 (fun k=>nv.ownBlock=some k):=(Grew.new a _).trans (Grew.grown g)
 have G2:=Grew.set w3 (N+4) 1 nv1
 obtain ⟨xs2,fv2,ho2,ht2,hf2,ha2⟩:=e.nd
 have ex:xs2=xs:=own_same ho2 hx
 subst ex
 have eF:∀ i,i<ns.length->fw i=fv2 i:=fun i hi=>by
  have q1:=(ht.2 i hi).2.2
  have q2:=(ht2.2 i hi).2.2
  rw [q1] at q2
  exact Option.some.inj q2
 have no5:∀ (v:Value) (n:Nat) (ys:List Value),wr.ownsRow (N+5) 2 1 v n ys->(∀ b,v.ownBlock=some b->nv.ownBlock ≠ some b)->(w3.setCell ⟨N+4,1,none⟩ nv1).ownsRow (N+5) 2 1 v n ys:=fun v n ys h k =>
  G2.own (G1.own h (fun b q s=>k b q s)) (fun b q s=>by have:=(h.lt b q).1;omega)
 refine ⟨no5 _ _ _ e.rt (fun b q=>(s.s.kk b (e.rk b q)).2.2.2),fun b q=>.inl (e.rk b q),_,_,(show (w3.setCell ⟨N+4,1,none⟩ nv1).ownsRow (N+5) _ 3 nv1 (ns ++ [(⟨c,z,fl⟩:Nd)]).length _ from ?_),ht.snoc c z fl fv,fun i hi=>?_,fun i j hi hj hij b q=>?_⟩
 ·have:=G2.own ho (fun b q s=>by have:=(ho.lt b q).1;omega)
  simpa using this
 ·have hi' : i<ns.length+1:=by simpa using hi
  by_cases q:i=ns.length
  ·subst q
   have e2:(ns ++ [(⟨c,z,fl⟩:Nd)]).getD ns.length nd0=⟨c,z,fl⟩:=by simp
   rw [if_pos rfl,e2]
   exact ⟨no5 _ _ _ s.fo (fun b k=>(s.fap b k).2.1),fun b k=>⟨.inr k,fun r=>(s.fap b k).2.2 (e.rk b r)⟩⟩
  ·have hlt:i<ns.length:=by omega
   have eg:(ns ++ [(⟨c,z,fl⟩:Nd)]).getD i nd0=ns.getD i nd0:=by simp [List.getD_eq_getElem?_getD,List.getElem?_append_left hlt]
   rw [if_neg q,eg,eF i hlt]
   obtain ⟨f1,f2⟩:=hf2 i hlt
   exact ⟨no5 _ _ _ f1 (fun b k=>(s.s.kk b (f2 b k).1).2.2.2),fun b k=>⟨.inl (f2 b k).1,(f2 b k).2⟩⟩
 ·have hi' : i<ns.length+1:=by simpa using hi
  have hj' : j<ns.length+1:=by simpa using hj
  by_cases q1:i=ns.length
  ·have q2:j ≠ ns.length:=fun r=>hij (q1.trans r.symm)
   rw [if_pos q1] at q
   rw [if_neg q2,eF j (by omega)]
   exact fun r=>(s.fap b q).2.2 ((hf2 j (by omega)).2 b r).1
  ·rw [if_neg q1,eF i (by omega)] at q
   by_cases q2:j=ns.length
   ·rw [if_pos q2]
    exact fun r=>(s.fap b r).2.2 ((hf2 i (by omega)).2 b q).1
   ·rw [if_neg q2,eF j (by omega)]
    exact ha2 i j (by omega) (by omega) hij b q
theorem Ex2.gn {N B:Nat} {wr:World} {rl:List Int} {ns:List Nd} {rv nv:Value} {K:Nat->Prop} (e:Ex2 N wr rl ns rv nv K) (hB:B<=N+5) (hh:Int):GN B wr (.agg #[rv,nv,.int .i64 hh]) ⟨rl,ns,hh⟩:=by
 obtain ⟨xs,fv,ho,ht,hf,ha⟩:=e.nd
 exact ⟨rv,nv,fv,rfl,gown_mono e.rt hB,⟨xs,gown_mono ho hB,ht,fun i hi=>gown_mono (hf i hi).1 hB,ha⟩,fun i hi b q r=>((hf i hi).2 b r).2 q⟩
end Go.Proofs.YtgnbibinclepcaaGreatDoor
