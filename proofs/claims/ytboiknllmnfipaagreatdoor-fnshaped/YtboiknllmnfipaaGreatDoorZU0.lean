
import Derived.WalkKit
import Derived.WalkSpells
import Derived.WalkLawsBesides
import Derived.Deep.OwnRows
import Derived.Test.YtboiknllmnfipaaGreatDoorRows
import Derived.Deep.RegionWith
import Derived.Shelf.Abstract
import Derived.OwnWalkIn
import Derived.TacticsInMore
import Derived.LoopNIn
import Derived.LoopIn
import Derived.ProofKit
import Derived.OpenShut
import Derived.SizedLaws
import Derived.Lib.SmallJoins
import Derived.Deep.Strs
import Derived.Deep.SlicePairs
import Derived.Laws.AppendOwn
import Derived.Deep.RegionHeld3
/- Plain facts on lists, numbers and worlds that the walks of this seat use; nothing of the program. -/
namespace Go.Proofs.YtboiknllmnfipaaGreatDoor.Disk
open Go.RowKit
theorem J7 {a b:Bool} (h:a=b):Ending.returned (.bool a)=.returned (.bool b):=by rw [h]
abbrev Wr:=Int × ByteArray
theorem J9 {p:Nat->Prop} {k:Nat} (h:∀ j,j<k->p j) (hk:p k):∀ j,j<k+1->p j:=fun j hj=>by
 by_cases e:j=k
 ·subst e;exact hk
 ·exact h j (by omega)
theorem grown_trans {a w w' : World} {row:Option Nat} (h:a.grownBy w row) (k:w.grownBy w' row):a.grownBy w' row :=
 ⟨k.os.trans h.os,k.tape.trans h.tape,k.output.trans h.output,Nat.le_trans h.size k.size,fun i hi hr=>(k.block i (Nat.lt_of_lt_of_le hi h.size) hr).trans (h.block i hi hr)⟩
theorem grown_below {w w' : World} {row:Option Nat} (h:Below w.heap.size w w'):w.grownBy w' row :=
 ⟨h.os,h.tape,h.output,h.size,fun k hk _=>h.block k hk⟩
theorem grown_set (w:World) (b i:Nat) (v:Value):w.grownBy (w.setCell ⟨b,i,none⟩ v) (some b) :=
 ⟨rfl,rfl,rfl,by simp [World.setCell],fun k _ hr=>Below.heap_setCell _ _ _ _ (fun e=>hr (by rw [e]))⟩
def OS (w:World) (t size:Nat) (v:Value) (n:Nat):Prop :=
 ∃ ao cap,v=.slice ao n cap/\(n=0 ∨ ∃ b N f,ao=some ⟨b,0,none⟩/\n * size<=N/\w.rowIs b t N f)
theorem OS.later {w w' : World} {t size:Nat} {v:Value} {n:Nat} (h:OS w t size v n) (hb:Below w.heap.size w w'):OS w' t size v n:=by
 obtain ⟨ao,cap,rfl,h⟩:=h
 refine ⟨ao,cap,rfl,?_⟩
 rcases h with h|⟨b,N,f,rfl,hN,hr⟩
 ·exact .inl h
 ·exact .inr ⟨b,N,f,rfl,hN,hr.of_block (hb.block b hr.lt)⟩
structure Two (w w' : World) (r1 r2:Option Nat):Prop where
 os:w'.os=w.os
 tape:w'.tape=w.tape
 output:w'.output=w.output
 size:w.heap.size<=w'.heap.size
 block:∀ k,k<w.heap.size->some k ≠ r1->some k ≠ r2->w'.heap[k]?=w.heap[k]?
def rowOf (v:Value) (n:Nat):Option Nat:=if n=0 then none else v.ownBlock
theorem OS.row {w:World} {t size:Nat} {v:Value} {n:Nat} (h:OS w t size v n):∀ b,rowOf v n=some b->b<w.heap.size:=by
 intro b e
 obtain ⟨ao,cap,rfl,h⟩:=h
 rcases h with rfl|⟨b',N,f,rfl,hN,hr⟩
 ·simp [rowOf] at e
 ·have:=hr.lt
  unfold rowOf at e
  by_cases hn:n=0
  ·simp [hn] at e
  ·simp [hn,Value.ownBlock] at e
   omega
theorem C5 (w:World) (o:Obj):Below w.heap.size w (w.alloc o):=(Below.refl _ _).alloc (Nat.le_refl _) _
end Go.Proofs.YtboiknllmnfipaaGreatDoor.Disk
/- Rows of numbers: what a slice reads as; copied, held against each other, marked, grown. -/
namespace Go.Proofs.YtboiknllmnfipaaGreatDoor
open Go.RowKit
theorem zA {α:Type} (l:List α) (i:Nat) (a:α):l.toArray.setIfInBounds i a=(l.set i a).toArray:=by simp
theorem zB {α:Type} (x a:α) (l:List α):(x::l).set 0 a=a::l:=rfl
theorem zC {α:Type} (x a:α) (l:List α) (i:Nat):(x::l).set (i+1) a=x::l.set i a:=rfl
theorem C2 {w w' : World} {b o:Nat} {v:Value} (hb:Below w.heap.size w w') (h:w.cell? ⟨b,o,none⟩=some v):w'.cell? ⟨b,o,none⟩=some v:=by
 have hlt:b<w.heap.size:=by
  rcases Nat.lt_or_ge b w.heap.size with h' | h'
  ·exact h'
  ·simp [World.cell?,Array.getElem?_eq_none h'] at h
 rw [hb.cell (p:=⟨b,o,none⟩) hlt]
 exact h
theorem C5 (w:World) (o:Obj):Below w.heap.size w (w.alloc o):=(Below.refl _ _).alloc (Nat.le_refl _) _
theorem C3 {a b c:World} (h:Below a.heap.size a b) (k:Below b.heap.size b c):Below a.heap.size a c:=h.trans (k.mono h.size)
theorem Qa {w W:World} {N:Nat} (h:Below w.heap.size w W) (hN:w.heap.size<=N):Below w.heap.size w ((((((((W.setCell ⟨N,0,none⟩ (.slice none 0 0)).setCell ⟨N,1,none⟩ (.slice none 0 0)).setCell ⟨N,2,none⟩ (.int .i64 0)).setCell ⟨N,3,none⟩ (.int .i64 0)).setCell ⟨N,4,none⟩ (.int .i64 0)).setCell ⟨N,5,none⟩ (.bool false)).setCell ⟨N,6,none⟩ (.int .i64 0)).setCell ⟨N,7,none⟩ (.slice none 0 0)):=by
 repeat (refine Below.setCell ?_ (p:=⟨N,_,none⟩) hN _)
 exact h
theorem Po {w:World} {b n:Nat} {t:TypeId} {f:Nat->Value} (h:w.rowIs b t n f) (hn:8<=n:=by omega):w.cell? ⟨b,0,none⟩=some (f 0)/\w.cell? ⟨b,1,none⟩=some (f 1)/\w.cell? ⟨b,2,none⟩=some (f 2)/\w.cell? ⟨b,3,none⟩=some (f 3)/\w.cell? ⟨b,4,none⟩=some (f 4)/\w.cell? ⟨b,5,none⟩=some (f 5)/\w.cell? ⟨b,6,none⟩=some (f 6)/\w.cell? ⟨b,7,none⟩=some (f 7):=⟨h.cell (by omega),h.cell (by omega),h.cell (by omega),h.cell (by omega),h.cell (by omega),h.cell (by omega),h.cell (by omega),h.cell (by omega)⟩
theorem E6 (w:World) (C:Array Value) (t n:Nat) (hn:w.heap.size=n) (j:Nat) (v:Value) (hv:C[j]?=some v):(w.alloc (.cells C t)).cell? ⟨n,j,none⟩=some v:=by
 subst hn
 rw [World.cell?_alloc_mark]
 exact hv
def IR (w:World) (v:Value) (l:List Int):Prop :=
 ∃ ao cap,v=.slice ao l.length cap/\l.length<=cap/\∀ i,i<l.length->∃ b o,ao=some ⟨b,o,none⟩/\w.cell? ⟨b,o+i,none⟩=some (.int .i64 (l.getD i 0))
theorem IR.later {w w' : World} {v:Value} {l:List Int} (h:IR w v l) (hb:Below w.heap.size w w'):IR w' v l:=by
 obtain ⟨ao,cap,rfl,hle,h⟩:=h
 exact ⟨ao,cap,rfl,hle,fun i hi=>by obtain ⟨b,o,e,hc⟩:=h i hi;exact ⟨b,o,e,C2 hb hc⟩⟩
theorem Ps {a b:List Int} (hl:a.length=b.length) (h:∀ j,j<a.length->a.getD j 0=b.getD j 0):a=b:=by
 refine List.ext_getElem hl fun i h1 h2=>?_
 have:=h i h1
 simpa [List.getD_eq_getElem?_getD,h1,h2] using this
theorem J9 {p:Nat->Prop} {k:Nat} (h:∀ j,j<k->p j) (hk:p k):∀ j,j<k+1->p j:=fun j hj=>by
 by_cases e:j=k
 ·subst e;exact hk
 ·exact h j (by omega)
theorem J7 {a b:Bool} (h:a=b):Ending.returned (.bool a)=.returned (.bool b):=by rw [h]
theorem H6 {B:Nat} {a w:World} (h:Below B a w) (n:Nat):Below B a (w.drewN n):=⟨h.os,h.tape,h.output,h.size,h.block⟩
theorem Tryz.info2:(Tryz.prog.info? 2).map (fun i=>(i.zero,i.size,i.bytes))=some (some (.int .i64 0),1,8):=by kernel_rfl
theorem Jho (n:Nat) (hn:n<=10000000000000) (w:World):(Instr.makeSlice 24 (.int .i64 (n:Int)) (.int .i64 (n:Int))).run Tryz.prog w=.ok (.slice (some ⟨w.heap.size,0,none⟩) n n) (w.alloc (.cells (madeCells #[.int .i64 0] n) 2)) :=
 run_make_row' (P:=Tryz.prog) 24 2 (.int .i64 0) 8 Tryz.underlying24 Tryz.info2 rfl .i64 .i64 n (by omega) (by omega) w
theorem I0 (w:World) (C:Array Value) (t:TypeId):(w.alloc (.cells C t)).rowIs w.heap.size t C.size (fun i=>C[i]?.getD undef) :=
 World.rowIs_alloc w C t _ (fun i hi=>by simp [hi])
def icells (l:List Int):List Value:=l.map fun z=>.int .i64 z
theorem Od (l:List Int):(icells l).length=l.length:=by simp [icells]
theorem Te (w:World) (B e size:Nat) (hB:B<=w.heap.size):(w.alloc (.cells #[] e)).ownsRow B e size (.slice (some ⟨w.heap.size,0,none⟩) 0 0) 0 [] :=
 ⟨by simp,.inr ⟨w.heap.size,0,#[],rfl,hB,heap_alloc_new w _,Nat.le_refl _,by unfold maxLen;omega,by simp,by simp⟩⟩
theorem E8 {w w' : World} {B e size:Nat} {v:Value} {n:Nat} {xs:List Value} (h:w.ownsRow B e size v n xs) (hb:Below w.heap.size w w'):w'.ownsRow B e size v n xs:=by
 obtain ⟨hl,h⟩:=h
 refine ⟨hl,?_⟩
 rcases h with h|⟨g,cap,cur,hv,hB,hh,h1,h2,h3,h4⟩
 ·exact .inl h
 ·refine .inr ⟨g,cap,cur,hv,hB,?_,h1,h2,h3,h4⟩
  have hlt:g<w.heap.size:=by
   rcases Nat.lt_or_ge g w.heap.size with h' | h'
   ·exact h'
   ·rw [Array.getElem?_eq_none h'] at hh;cases hh
  rw [hb.block g hlt]
  exact hh
theorem Ww {w:World} {B e:Nat} {v:Value} {n:Nat} {xs:List Value} (h:w.ownsRow B e 1 v n xs):∃ ao cap,v=.slice ao n cap/\n<=cap/\∀ i,i<n->∃ b,ao=some ⟨b,0,none⟩/\w.cell? ⟨b,i,none⟩=xs[i]?:=by
 obtain ⟨hl,h⟩:=h
 rcases h with ⟨rfl,rfl⟩|⟨g,cap,cur,rfl,hB,hh,h1,h2,h3,h4⟩
 ·exact ⟨none,0,rfl,Nat.le_refl _,fun i hi=>by omega⟩
 ·refine ⟨_,cap,rfl,h1,fun i hi=>⟨g,rfl,?_⟩⟩
  rw [<- h4,List.getElem?_take_of_lt (by omega)]
  simp [World.cell?,hh]
theorem E9 {w:World} {B:Nat} {v:Value} {l:List Int} (h:w.ownsRow B 2 1 v l.length (icells l)):IR w v l:=by
 obtain ⟨ao,cap,rfl,h1,h2⟩:=Ww h
 refine ⟨ao,cap,rfl,h1,fun i hi=>?_⟩
 obtain ⟨b,rfl,hc⟩:=h2 i hi
 refine ⟨b,0,rfl,?_⟩
 rw [Nat.zero_add,hc]
 simp [icells,hi]
theorem Tryz.infoI:(Tryz.prog.info? 2).map (fun i=>(i.zero,i.size,i.bytes))=some (some (.int .i64 0),1,8):=by kernel_rfl
theorem O0 {ops:Array Oper} {rest:List Oper} {o:Oper} {a:Act} {Q:Exit->Act->World->Prop} (w:World) (hgd:o.guard=none) (s x:Operand)
  (ho:o.op=.call { callee:=.builtin .append,args:=#[s,x],argTypes:=#[24,24] }) (B:Nat) (v:Value) (n:Nat) (xs:List Value) (hs:a.eval s=v) (hown:w.ownsRow B 2 1 v n xs)
  (g c:Nat) (z:Int) (hx:a.eval x=.slice (some ⟨g,0,none⟩) 1 c) (hc:w.cell? ⟨g,0,none⟩=some (.int .i64 z)) (hn:n<=1000000000000) (hB:B<=w.heap.size)
  (h:∀ v' w',w'.ownsRow B 2 1 v' (n+1) (xs ++ [.int .i64 z])->w.grownBy w' v.ownBlock->wpList Tryz.prog ops Q rest (a.put o.dst v') w'):wpList Tryz.prog ops Q (o::rest) a w:=by
 obtain ⟨i,hi,hzz⟩:=Option.map_eq_some_iff.1 Tryz.infoI
 simp only [Prod.mk.injEq] at hzz
 obtain ⟨hz,hsz,hby⟩:=hzz
 refine wpList_append_own w hgd s x 24 ho B 2 i _ 1 8 Tryz.underlying24 hi hz hsz hby rfl (by omega) v n xs hs hown ⟨g,0,none⟩ 1 c [.int .i64 z] hx rfl (fun j u hj=>?_) (fun u hu=>?_) (by unfold maxLen;omega) (by omega) hB (fun v' w' h1 h2 _=>h v' w' h1 h2)
 ·match j,hj with
  | 0,hj=>simp at hj;subst hj;simpa [Addr.add] using hc
 ·simp at hu;subst hu;rfl
theorem Tk {w0 w w' : World} {B e size n:Nat} {v:Value} {xs:List Value} (hb:Below B w0 w) (hown:w.ownsRow B e size v n xs) (hg:w.grownBy w' v.ownBlock) (hB:B<=w.heap.size):Below B w0 w':=by
 refine Below.grown hb hg hB (fun k hk=>?_)
 obtain ⟨_,h⟩:=hown
 rcases h with ⟨rfl,_⟩|⟨g,cap,cur,rfl,hg,_⟩
 ·cases hk
 ·cases hk;exact hg
def imarks (k:Int) (n:Nat):List Int:=(List.range n).map fun i:Nat=>k+i
theorem Q5 {w:World} {B e n:Nat} {v:Value} {xs:List Value} (h:w.ownsRow B e 1 v n xs):Disk.OS w e 1 v n:=by
 obtain ⟨hl,h⟩:=h
 rcases h with ⟨rfl,rfl⟩|⟨g,cap,cur,rfl,hB,hh,h1,h2,h3,h4⟩
 ·exact ⟨none,0,rfl,.inl rfl⟩
 ·exact ⟨_,cap,rfl,.inr ⟨g,cur.size,fun i=>cur[i]?.getD undef,rfl,by omega,cur,hh,rfl,fun i hi=>by simp [hi]⟩⟩
theorem Qg {w:World} {B e n:Nat} {v:Value} {xs:List Value} (h:w.ownsRow B e 1 v n xs):∀ b,Disk.rowOf v n=some b->B<=b:=by
 intro b hb
 obtain ⟨hl,h⟩:=h
 rcases h with ⟨rfl,rfl⟩|⟨g,cap,cur,rfl,hB,hh,h1,h2,h3,h4⟩
 ·simp [Disk.rowOf] at hb
 ·unfold Disk.rowOf at hb
  split at hb
  ·cases hb
  ·simp [Value.ownBlock] at hb
   omega
theorem IR.grown {w w' : World} {v:Value} {l:List Int} {row:Option Nat} (h:IR w v l) (hg:w.grownBy w' row) (hne:l=[] ∨ v.ownBlock ≠ row):IR w' v l:=by
 obtain ⟨ao,cap,rfl,hle,h⟩:=h
 refine ⟨ao,cap,rfl,hle,fun i hi=>?_⟩
 obtain ⟨b,o,rfl,hc⟩:=h i hi
 rcases hne with rfl|hne
 ·simp at hi
 ·exact ⟨b,o,rfl,hg.cell hc hne⟩
theorem IR.lt {w:World} {v:Value} {l:List Int} (h:IR w v l):∀ a n c,v=.slice (some a) n c->0<n->a.block<w.heap.size:=by
 obtain ⟨ao,cap,rfl,hle,h⟩:=h
 intro a n c e hp
 simp only [Value.slice.injEq] at e
 obtain ⟨rfl,rfl,_⟩:=e
 obtain ⟨b,o,e2,hc⟩:=h 0 hp
 simp only [Option.some.injEq] at e2
 subst e2
 exact World.block_lt_of_cell? _ _ hc
end Go.Proofs.YtboiknllmnfipaaGreatDoor
/- Words: WordOk, Int, Ref, IntOf, RefOf of the program and of the model. -/
namespace Go.Proofs.YtboiknllmnfipaaGreatDoor
open Go.RowKit
def N8 (x:Int):Prop:=-9223372036854775808<=x/\x<=9223372036854775807
def Xp (n:Int):Bool:=decide (-1000000000<=n/\n<=1000000000)
def Rq (a:Int):Bool:=decide (0<=a/\a<=3199)
def H8 (x:Int):Int:=if x % 2=1 then (if Rq (x / 2)=true then 2 else 0) else (if Xp (x / 2)=true then 1 else 0)
def Pn (x:Int):Bool:=!decide (H8 x=0)
def isK (k x:Int):Bool:=decide (H8 x=k)
def Yf (k x:Int):Int:=if H8 x=k then x / 2 else 0
theorem E7 {a b:Bool} (h:a=b):Ending.returned (.bool a)=.returned (.bool b):=by rw [h]
theorem Oj {a b:Int} (h:a=b):Ending.returned (.int .i64 a)=.returned (.int .i64 b):=by rw [h]
theorem Jbl {a b:Int} {c d:Bool} (h:a=b) (k:c=d):Ending.returned (.tuple #[.int .i64 a,.bool c])=.returned (.tuple #[.int .i64 b,.bool d]):=by rw [h,k]
theorem Jbp (x:Int):bits BinOp.and IntKind.i64 x 1=x % 2:=by
 have h:((BitVec.ofInt 64 x &&& BitVec.ofInt 64 1).toNat:Int)=x % 2:=by
  rw [BitVec.toNat_and,show (BitVec.ofInt 64 1).toNat=1 from rfl,Nat.and_one_is_mod,BitVec.toNat_ofInt]
  omega
 unfold bits
 show IntKind.wrap .i64 ((BitVec.ofInt 64 x &&& BitVec.ofInt 64 1).toNat:Int)=x % 2
 rw [h]
 rcases Int.emod_two_eq x with h2|h2 <;> rw [h2] <;> rfl
theorem Vf (x:Int) (w:World) :
  Calls Tryz.prog 99 #[.int .i64 x] w fun e w'=>e=.returned (.bool (decide (x % 2=1)))/\w' = w:=by
 go_enter Tryz.func99,Tryz.ntmps99
 go_wp2
 go_ret
 exact ⟨E7 (by rw [Jbp];rfl),rfl⟩
theorem Tn (x:Int) (w:World) :
  Calls Tryz.prog 86 #[.int .i64 x] w fun e w'=>e=.returned (.int .i64 (x / 2))/\w' = w:=by
 go_enter Tryz.func86,Tryz.ntmps86
 go_wp2
 go_ret
 exact ⟨rfl,rfl⟩
theorem Jgc (x:Int) (w:World) :
  Calls Tryz.prog 101 #[.int .i64 x] w fun e w'=>e=.returned (.bool (Xp x))/\w' = w:=by
 by_cases h : -1000000000<=x
 ·go_enter Tryz.func101,Tryz.ntmps101
  go_wp2
  go_ret
  exact ⟨E7 (by unfold Xp;simp [h]),rfl⟩
 ·go_enter Tryz.func101,Tryz.ntmps101
  go_wp2
  go_ret
  exact ⟨E7 (by unfold Xp;rw [decide_eq_false (by omega)]),rfl⟩
theorem Tx (x:Int) (w:World) :
  Calls Tryz.prog 100 #[.int .i64 x] w fun e w'=>e=.returned (.bool (Rq x))/\w' = w:=by
 by_cases h:0<=x
 ·go_enter Tryz.func100,Tryz.ntmps100
  go_wp2
  go_ret
  exact ⟨E7 (by unfold Rq;simp only [h,true_and];exact decide_eq_decide.2 (by omega)),rfl⟩
 ·go_enter Tryz.func100,Tryz.ntmps100
  go_wp2
  go_ret
  exact ⟨E7 (by unfold Rq;rw [decide_eq_false (by omega)]),rfl⟩
theorem I9 (x lo hi:Int) (w:World) :
  Calls Tryz.prog 32 #[.int .i64 x,.int .i64 lo,.int .i64 hi] w fun e w'=>e=.returned (.bool (decide (lo<=x/\x<=hi)))/\w' = w:=by
 by_cases h:lo<=x
 ·go_enter Tryz.func32,Tryz.ntmps32
  go_wp2
  go_ret
  exact ⟨E7 (by simp [h]),rfl⟩
 ·go_enter Tryz.func32,Tryz.ntmps32
  go_wp2
  go_ret
  exact ⟨E7 (by rw [decide_eq_false (by omega:¬ lo<=x)];rfl),rfl⟩
theorem Jbe (x:Int) (w:World) (h:Rq x=true) :
  Calls Tryz.prog 50 #[.int .i64 x] w fun e w'=>e=.returned (.int .i64 (2 * x+1))/\w' = w:=by
 have h':=of_decide_eq_true h
 obtain ⟨h1,h2⟩:=h'
 clear h
 go_enter Tryz.func50,Tryz.ntmps50
 go_wp2
 go_ret
 exact ⟨rfl,rfl⟩
theorem Jba (x:Int) (w:World) :
  Calls Tryz.prog 85 #[.int .i64 x] w fun e w'=>e=.returned (.int .i64 (H8 x))/\w' = w:=by
 go_enter Tryz.func85,Tryz.ntmps85
 go_wp2_with fail
 refine (Vf x _).mono ?_
 rintro e w1 ⟨rfl,rfl⟩
 by_cases h:x % 2=1
 ·have hd:decide (x % 2=1)=true:=decide_eq_true h
  rw [hd]
  clear hd
  cases ha:Rq (x / 2)
  ·have G:Hid (H8 x=0/\Rq (x / 2)=false):=⟨by unfold H8;rw [if_pos h,ha];rfl,ha⟩
   have h' : Hid (x % 2=1):=h
   clear h ha
   go_wp2_with fail
   refine (Tn x _).mono ?_
   rintro e w1 ⟨rfl,rfl⟩
   go_wp2_with fail
   refine (Tx _ _).mono ?_
   rintro e w1 ⟨rfl,rfl⟩
   rw [G.out.2]
   go_wp2_with fail
   refine (Vf x _).mono ?_
   rintro e w1 ⟨rfl,rfl⟩
   rw [decide_eq_true h'.out]
   go_wp2
   go_ret
   exact ⟨Oj G.out.1.symm,rfl⟩
  ·have G:Hid (H8 x=2/\Rq (x / 2)=true):=⟨by unfold H8;rw [if_pos h,if_pos ha],ha⟩
   clear h ha
   go_wp2_with fail
   refine (Tn x _).mono ?_
   rintro e w1 ⟨rfl,rfl⟩
   go_wp2_with fail
   refine (Tx _ _).mono ?_
   rintro e w1 ⟨rfl,rfl⟩
   rw [G.out.2]
   go_wp2
   go_ret
   exact ⟨Oj G.out.1.symm,rfl⟩
 ·have hd:decide (x % 2=1)=false:=decide_eq_false h
  rw [hd]
  have G:Hid (H8 x=(if Xp (x / 2)=true then 1 else 0)):=(by unfold H8;rw [if_neg h]:H8 x=(if Xp (x / 2)=true then 1 else 0))
  have h' : Hid (decide (x % 2=1)=false):=hd
  clear h hd
  go_wp2_with fail
  refine (Vf x _).mono ?_
  rintro e w1 ⟨rfl,rfl⟩
  rw [h'.out]
  go_wp2_with fail
  refine (Tn x _).mono ?_
  rintro e w1 ⟨rfl,rfl⟩
  go_wp2_with fail
  refine (Jgc _ _).mono ?_
  rintro e w1 ⟨rfl,rfl⟩
  cases hn:Xp (x / 2)
  ·have G2:Hid (H8 x=0):=(by rw [G.out,hn];rfl:H8 x=0)
   clear hn
   go_wp2
   go_ret
   exact ⟨Oj G2.out.symm,rfl⟩
  ·have G2:Hid (H8 x=1):=(by rw [G.out,if_pos hn]:H8 x=1)
   clear hn
   go_wp2
   go_ret
   exact ⟨Oj G2.out.symm,rfl⟩
theorem Jcx (x:Int) (w:World) :
  Calls Tryz.prog 133 #[.int .i64 x] w fun e w'=>e=.returned (.bool (Pn x))/\w' = w:=by
 go_enter Tryz.func133,Tryz.ntmps133
 go_wp2_with fail
 refine (Jba x _).mono ?_
 rintro e w1 ⟨rfl,rfl⟩
 go_wp2
 go_ret
 exact ⟨E7 rfl,rfl⟩
theorem Xb (x:Int) (w:World) :
  Calls Tryz.prog 120 #[.int .i64 x] w fun e w'=>e=.returned (.bool (Pn x))/\w' = w:=by
 go_enter Tryz.func120,Tryz.ntmps120
 go_wp2_with fail
 refine (Jcx x _).mono ?_
 rintro e w1 ⟨rfl,rfl⟩
 go_wp2
 go_ret
 exact ⟨rfl,rfl⟩
theorem Jck (k x:Int) (w:World) :
  Calls Tryz.prog 65 #[.int .i64 x,.int .i64 k] w fun e w'=>e=.returned (.tuple #[.int .i64 (Yf k x),.bool (isK k x)])/\w' = w:=by
 go_enter Tryz.func65,Tryz.ntmps65
 go_wp2_with fail
 refine (Jba x _).mono ?_
 rintro e w1 ⟨rfl,rfl⟩
 by_cases h:H8 x=k
 ·have G:Hid (Yf k x=x / 2/\isK k x=true):=⟨by unfold Yf;rw [if_pos h],by unfold isK;exact decide_eq_true h⟩
  have hb:(H8 x != k)=false:=by rw [h];simp
  clear h
  go_wp2_with fail
  refine (Tn x _).mono ?_
  rintro e w1 ⟨rfl,rfl⟩
  go_wp2
  go_ret2
  exact ⟨Jbl G.out.1.symm G.out.2.symm,rfl⟩
 ·have G:Hid (Yf k x=0/\isK k x=false):=⟨by unfold Yf;rw [if_neg h],by unfold isK;exact decide_eq_false h⟩
  have hb:(H8 x != k)=true:=by rw [bne_iff_ne];exact h
  clear h
  go_wp2
  go_ret2
  exact ⟨Jbl G.out.1.symm G.out.2.symm,rfl⟩
theorem Om (x:Int) (w:World) :
  Calls Tryz.prog 49 #[.int .i64 x] w fun e w'=>e=.returned (.tuple #[.int .i64 (Yf 2 x),.bool (isK 2 x)])/\w' = w:=by
 go_enter Tryz.func49,Tryz.ntmps49
 go_wp2_with fail
 refine (Jck 2 x _).mono ?_
 rintro e w1 ⟨rfl,rfl⟩
 go_wp2
 go_ret2
 exact ⟨rfl,rfl⟩
theorem L9 (x:Int):(x.tmod 2 == 0)=decide (x % 2=0):=by
 rw [Bool.eq_iff_iff]
 simp only [beq_iff_eq,decide_eq_true_eq]
 constructor
 ·intro h
  exact Int.emod_eq_zero_of_dvd (Int.dvd_of_tmod_eq_zero h)
 ·intro h
  exact Int.tmod_eq_zero_of_dvd (Int.dvd_of_emod_eq_zero h)
theorem Jif {x:Int} (h:x % 2=0):Pn x=decide (-2000000000<=x/\x<=2000000000):=by
 unfold Pn H8 Xp
 rw [if_neg (by omega)]
 by_cases h2 : -1000000000<=x / 2/\x / 2<=1000000000
 ·rw [if_pos (decide_eq_true h2)]
  rw [decide_eq_true (show -2000000000<=x/\x<=2000000000 by omega)]
  rfl
 ·rw [if_neg (by rw [decide_eq_false h2];simp)]
  rw [decide_eq_false (show ¬ (-2000000000<=x/\x<=2000000000) by omega)]
  rfl
theorem Us {x:Int} (h:¬ x % 2=0):Pn x=decide (1<=x/\x<=6399):=by
 unfold Pn H8 Rq
 rw [if_pos (by omega)]
 by_cases h2:0<=x / 2/\x / 2<=3199
 ·rw [if_pos (decide_eq_true h2)]
  rw [decide_eq_true (show 1<=x/\x<=6399 by omega)]
  rfl
 ·rw [if_neg (by rw [decide_eq_false h2];simp)]
  rw [decide_eq_false (show ¬ (1<=x/\x<=6399) by omega)]
  rfl
theorem Oq (x:Int) (w:World) :
  Calls Tryz.prog 55 #[.int .i64 x] w fun e w'=>e=.returned (.bool (Pn x))/\w' = w:=by
 by_cases h:x % 2=0
 ·have G:Hid (Pn x=decide (-2000000000<=x/\x<=2000000000)):=Jif h
  have t:(x.tmod 2 == 0)=true:=by rw [L9];exact decide_eq_true h
  clear h
  go_enter Tryz.func55,Tryz.ntmps55
  go_wp2_with fail
  refine (I9 _ _ _ _).mono ?_
  rintro e w1 ⟨rfl,rfl⟩
  go_wp2
  go_ret
  exact ⟨E7 (by rw [G.out,Bool.decide_and]),rfl⟩
 ·have G:Hid (Pn x=decide (1<=x/\x<=6399)):=Us h
  have t:(x.tmod 2 == 0)=false:=by rw [L9];exact decide_eq_false h
  clear h
  go_enter Tryz.func55,Tryz.ntmps55
  go_wp2_with fail
  refine (I9 _ _ _ _).mono ?_
  rintro e w1 ⟨rfl,rfl⟩
  go_wp2
  go_ret
  exact ⟨E7 (by rw [G.out,Bool.decide_and]),rfl⟩
theorem Rl {x:Int} (h:x % 2=0):isK 1 x=Pn x/\isK 2 x=false:=by
 unfold isK Pn H8
 rw [if_neg (by omega)]
 cases Xp (x / 2) <;> exact ⟨by decide,by decide⟩
theorem R8 {x:Int} (h:¬ x % 2=0):isK 2 x=Pn x/\isK 1 x=false:=by
 unfold isK Pn H8
 rw [if_pos (by omega)]
 cases Rq (x / 2) <;> exact ⟨by decide,by decide⟩
theorem Jel {k x:Int} (h:isK k x=false):Yf k x=0:=by unfold Yf;rw [if_neg (of_decide_eq_false h)]
theorem Tb {k x:Int} (h:isK k x=true):Yf k x=x / 2:=by unfold Yf;rw [if_pos (of_decide_eq_true h)]
theorem Jfo {x:Int} (h:x % 2=0):x.tdiv 2=x / 2:=Int.tdiv_eq_ediv_of_dvd (Int.dvd_of_emod_eq_zero h)
end Go.Proofs.YtboiknllmnfipaaGreatDoor
/- Heaps in plain words: objects one behind the other, what a right heap is, and that both ways to tell it say the same. -/
namespace Go.Proofs.YtboiknllmnfipaaGreatDoor
open Go.RowKit
structure Hp where
 words:List Int
 roots:List Int
 old:Int
 eden:Int
 surv:Int
 flip:Bool
 hash:Int
 kept:List Int
def gw (W:List Int) (a:Nat):Int:=W.getD a 0
def nx (W:List Int) (a:Nat):Nat:=a+4+(gw W a).toNat
def M7 (W:List Int) (a:Nat):Bool:=decide (0<=gw W a/\gw W a<=60) && (decide (0<=gw W (a+1)/\gw W (a+1)<=99) && decide (0<=gw W (a+3)/\gw W (a+3)<=15))
def Qb (W:List Int) (a:Nat):Bool:=M7 W a && decide (1<=gw W (a+2))
def it (W:List Int) (f:Nat):Nat->Nat
 | 0=>f
 | n+1=>nx W (it W f n)
def its (W:List Int) (f n:Nat):List Nat:=(List.range n).map (it W f)
def ints (l:List Nat):List Int:=l.map fun a:Nat=>(a:Int)
theorem J0 (l:List Nat):(ints l).length=l.length:=by simp [ints]
theorem Pd (W:List Int) (f n:Nat):(its W f n).length=n:=by simp [its]
theorem Px (W:List Int) (f n:Nat):its W f (n+1)=its W f n ++ [it W f n]:=by simp [its,List.range_succ]
theorem Ow (W:List Int) (f:Nat):its W f 0=[]:=rfl
theorem mem_its {W:List Int} {f n a:Nat}:a ∈ its W f n ↔ ∃ i,i<n/\it W f i=a:=by simp [its]
theorem R9 (W:List Int) (f n:Nat):it W f n+4<=it W f (n+1):=by
 show it W f n+4<=nx W (it W f n)
 unfold nx
 omega
theorem Jll (W:List Int) (f n d:Nat):it W f n+4 * d<=it W f (n+d):=by
 induction d with
 | zero=>simp
 | succ d ih =>
  have h:=R9 W f (n+d)
  rw [show n+(d+1)=(n+d)+1 from rfl]
  omega
theorem U4 (W:List Int) (f:Nat) {n m:Nat} (h:n<=m):it W f n+4 * (m - n)<=it W f m:=by
 have:=Jll W f n (m - n)
 rwa [show n+(m - n)=m from by omega] at this
theorem Ph (W:List Int) (f n:Nat):f+4 * n<=it W f n:=by
 have:=Jll W f 0 n
 rwa [Nat.zero_add] at this
theorem Jmh {W:List Int} {f n m:Nat} (h:it W f n=it W f m):n=m:=by
 rcases Nat.lt_trichotomy n m with k|k|k
 ·have:=U4 W f (Nat.le_of_lt k);omega
 ·exact k
 ·have:=U4 W f (Nat.le_of_lt k);omega
theorem Jli {W:List Int} {f n m:Nat} (h:it W f n<it W f m):n<m:=by
 rcases Nat.lt_or_ge n m with k|k
 ·exact k
 ·have:=U4 W f k;omega
theorem U3 {W:List Int} {f n m:Nat} (h:n<m):it W f (n+1)<=it W f m:=by
 have:=U4 W f (show n+1<=m from h)
 omega
def Goes (W:List Int) (f t n:Nat):Prop:=it W f n=t/\∀ i,i<n->M7 W (it W f i)=true
theorem Goes.eq {W:List Int} {f t n m:Nat} (h:Goes W f t n) (k:Goes W f t m):n=m:=Jmh (h.1.trans k.1.symm)
theorem Jkt {W:List Int} {f t n:Nat} (hlt:it W f n<t) (hn:¬ (it W f n+4<=t/\M7 W (it W f n)=true/\it W f (n+1)<=t)):∀ m,¬ Goes W f t m:=by
 rintro m ⟨rfl,h⟩
 have k:=Jli hlt
 have h1:=U3 (W:=W) (f:=f) k
 have h2:=R9 W f n
 exact hn ⟨by omega,h n k,h1⟩
def H9 (flip:Bool):Nat:=if flip=true then 2900 else 2600
def PartsAt (h:Hp) (l:List Nat):Prop :=
 h.words.length=3200/\(0<=h.old/\h.old<=2000)/\(2000<=h.eden/\h.eden<=2600)/\((H9 h.flip:Int)<=h.surv/\h.surv<=(H9 h.flip:Int)+300) ∧
 ∃ n0 n1 n2,Goes h.words 0 h.old.toNat n0/\Goes h.words 2000 h.eden.toNat n1/\Goes h.words (H9 h.flip) h.surv.toNat n2/\l=its h.words 0 n0 ++ its h.words 2000 n1 ++ its h.words (H9 h.flip) n2
theorem PartsAt.eq {h:Hp} {l m:List Nat} (a:PartsAt h l) (b:PartsAt h m):l=m:=by
 obtain ⟨_,_,_,_,n0,n1,n2,g0,g1,g2,rfl⟩:=a
 obtain ⟨_,_,_,_,m0,m1,m2,k0,k1,k2,rfl⟩:=b
 rw [g0.eq k0,g1.eq k1,g2.eq k2]
def Pg (h:Hp) (i:Nat):Prop:=(i:Int)<h.old ∨ (2000<=i/\(i:Int)<h.eden) ∨ (H9 h.flip<=i/\(i:Int)<h.surv)
def noughts (h:Hp):Prop:=∀ i,i<3200->¬ Pg h i->gw h.words i=0
def I8 (l:List Nat) (x:Int):Bool:=decide (H8 x=1) || (decide (H8 x=2) && (ints l).contains (x / 2))
def Oy (W:List Int) (l:List Nat) (a:Nat):Prop:=∀ k,a+4<=k->k<nx W a->I8 l (gw W k)=true
def Ou (x:Int):Bool:=decide (H8 x=2) && decide (2000<=x / 2)
def flds (W:List Int) (a:Nat):List Int:=(List.range (gw W a).toNat).map fun i=>gw W (a+4+i)
def Tg (W:List Int) (a:Nat):Bool:=(flds W a).any Ou
def N9 (W:List Int) (l:List Nat):List Int:=ints (l.filter fun a=>decide (a<2000) && Tg W a)
def I4 (W:List Int) (l:List Nat):List Int:=l.map fun a=>gw W (a+2)
def RightAt (h:Hp) (l:List Nat):Prop :=
 PartsAt h l/\noughts h/\(1<=h.hash/\h.hash<=1000000000)/\(∀ a,a ∈ l->1<=gw h.words (a+2))/\((∀ a,a ∈ l->gw h.words (a+2)<h.hash)/\(I4 h.words l).Nodup) ∧
 h.roots.length<=20/\(∀ x,x ∈ h.roots->I8 l x=true)/\(∀ a,a ∈ l->Oy h.words l a)/\N9 h.words l=h.kept
theorem RightAt.eq {h:Hp} {l m:List Nat} (a:RightAt h l) (b:RightAt h m):l=m:=a.1.eq b.1
def Stops (W:List Int) (e b n:Nat):Prop:=(∀ i,i<n->Qb W (it W b i)=true/\it W b (i+1)<=e)/\¬ (it W b n+4<=e/\Qb W (it W b n)=true/\it W b (n+1)<=e)
theorem Stops.eq {W:List Int} {e b n m:Nat} (h:Stops W e b n) (k:Stops W e b m):n=m:=by
 rcases Nat.lt_trichotomy n m with q|q|q
 ·have:=k.1 n q
  exact absurd ⟨by have:=R9 W b n;omega,this⟩ h.2
 ·exact q
 ·have:=h.1 m q
  exact absurd ⟨by have:=R9 W b m;omega,this⟩ k.2
theorem Pp {W:List Int} {a:Nat} (h:Qb W a=true):M7 W a=true:=by
 unfold Qb at h
 rw [Bool.and_eq_true] at h
 exact h.1
theorem Z8 {W:List Int} {a:Nat} (h:Qb W a=true):1<=gw W (a+2):=by
 unfold Qb at h
 rw [Bool.and_eq_true] at h
 exact of_decide_eq_true h.2
theorem Jku {W:List Int} {a:Nat} (h:M7 W a=true) (k:1<=gw W (a+2)):Qb W a=true:=by
 unfold Qb
 rw [h,decide_eq_true k]
 rfl
theorem Rv {W:List Int} {b e u n:Nat} (hg:Goes W b u n) (hu:u<=e) (hz:∀ i,u<=i->i<e->gw W i=0) (hh:∀ a,a ∈ its W b n->1<=gw W (a+2)):Stops W e b n/\it W b n=u:=by
 refine ⟨⟨fun i hi=>⟨Jku (hg.2 i hi) (hh _ (mem_its.2 ⟨i,hi,rfl⟩)),?_⟩,?_⟩,hg.1⟩
 ·have:=U3 (W:=W) (f:=b) hi
  rw [hg.1] at this
  omega
 ·rintro ⟨h1,h2,_⟩
  have h3:=Z8 h2
  have h4:=hg.1
  rw [hz (it W b n+2) (by omega) (by omega)] at h3
  omega
theorem Sn {W:List Int} {b e n:Nat} (h:Stops W e b n) (hb:b<=e):it W b n<=e:=by
 cases n with
 | zero=>exact hb
 | succ n=>exact (h.1 n (by omega)).2
theorem Qc {W:List Int} {b e u n:Nat} (h:Stops W e b n) (hb:b<=e) (hu:it W b n=u):Goes W b u n/\u<=e/\(∀ a,a ∈ its W b n->1<=gw W (a+2)):=by
 refine ⟨⟨hu,fun i hi=>Pp (h.1 i hi).1⟩,?_,fun a ha=>?_⟩
 ·rw [<- hu]
  exact Sn h hb
 ·obtain ⟨i,hi,rfl⟩:=mem_its.1 ha
  exact Z8 (h.1 i hi).1
def LaidAt (h:Hp) (l:List Nat):Prop :=
 ∃ n0 n1 n2 n3,(Stops h.words 2000 0 n0/\Stops h.words 2600 2000 n1/\Stops h.words 2900 2600 n2/\Stops h.words 3200 2900 n3) ∧
 ((it h.words 0 n0:Int)=h.old/\(it h.words 2000 n1:Int)=h.eden/\(it h.words 2600 n2:Int)=(if h.flip=true then 2600 else h.surv)/\(it h.words 2900 n3:Int)=(if h.flip=true then h.surv else 2900)) ∧
 ((∀ i,it h.words 0 n0<=i->i<2000->gw h.words i=0)/\(∀ i,it h.words 2000 n1<=i->i<2600->gw h.words i=0)/\(∀ i,it h.words 2600 n2<=i->i<2900->gw h.words i=0)/\(∀ i,it h.words 2900 n3<=i->i<3200->gw h.words i=0)) ∧
 l=its h.words 0 n0 ++ its h.words 2000 n1 ++ its h.words 2600 n2 ++ its h.words 2900 n3
theorem Vw {W:List Int} {b e:Nat} (hbe:b+4<=e) (hz:∀ i,b<=i->i<e->gw W i=0):Stops W e b 0:=by
 refine ⟨fun i hi=>by omega,?_⟩
 rintro ⟨_,h2,_⟩
 have h3:=Z8 h2
 rw [hz (it W b 0+2) (by show b<=b+2;omega) (by show b+2<e;omega)] at h3
 omega
theorem Vb {u:Int} {n:Nat} (h:0<=u) (k:n=u.toNat):(n:Int)=u:=by omega
theorem U1 {h:Hp} {l:List Nat} (hw:h.words.length=3200):LaidAt h l ↔ (PartsAt h l/\noughts h/\∀ a,a ∈ l->1<=gw h.words (a+2)):=by
 cases hf:h.flip with
 | false =>
  have sb:H9 false=2600:=rfl
  unfold LaidAt PartsAt noughts Pg
  simp only [sb,hf,Bool.false_eq_true,if_false]
  constructor
  ·rintro ⟨n0,n1,n2,n3,⟨s0,s1,s2,s3⟩,⟨u0,u1,u2,u3⟩,⟨z0,z1,z2,z3⟩,rfl⟩
   obtain ⟨g0,le0,h0⟩:=Qc s0 (by omega) rfl
   obtain ⟨g1,le1,h1⟩:=Qc s1 (by omega) rfl
   obtain ⟨g2,le2,h2⟩:=Qc s2 (by omega) rfl
   have b0:=Ph h.words 0 n0
   have b1:=Ph h.words 2000 n1
   have b2:=Ph h.words 2600 n2
   have b3:=Ph h.words 2900 n3
   obtain rfl:n3=0:=by omega
   have t0:it h.words 0 n0=h.old.toNat:=by omega
   have t1:it h.words 2000 n1=h.eden.toNat:=by omega
   have t2:it h.words 2600 n2=h.surv.toNat:=by omega
   rw [t0] at g0 z0
   rw [t1] at g1 z1
   rw [t2] at g2 z2
   refine ⟨⟨hw,by omega,by omega,by omega,n0,n1,n2,g0,g1,g2,by simp [Ow]⟩,fun i hi hn=>?_,fun a ha=>?_⟩
   ·rcases Nat.lt_or_ge i 2000 with k|k
    ·exact z0 i (by omega) k
    rcases Nat.lt_or_ge i 2600 with k|k
    ·exact z1 i (by omega) k
    rcases Nat.lt_or_ge i 2900 with k|k
    ·exact z2 i (by omega) k
    ·exact z3 i (by show 2900<=i;omega) hi
   ·simp only [Ow,List.append_nil,List.mem_append] at ha
    rcases ha with (ha|ha)|ha
    ·exact h0 a ha
    ·exact h1 a ha
    ·exact h2 a ha
  ·rintro ⟨⟨_,r0,r1,r2,n0,n1,n2,g0,g1,g2,rfl⟩,hz,hh⟩
   have z0:∀ i,h.old.toNat<=i->i<2000->gw h.words i=0:=fun i a b=>hz i (by omega) (by omega)
   have z1:∀ i,h.eden.toNat<=i->i<2600->gw h.words i=0:=fun i a b=>hz i (by omega) (by omega)
   have z2:∀ i,h.surv.toNat<=i->i<2900->gw h.words i=0:=fun i a b=>hz i (by omega) (by omega)
   have z3:∀ i,2900<=i->i<3200->gw h.words i=0:=fun i a b=>hz i (by omega) (by omega)
   obtain ⟨s0,t0⟩:=Rv g0 (e:=2000) (by omega) z0 (fun a ha=>hh a (by simp [ha]))
   obtain ⟨s1,t1⟩:=Rv g1 (e:=2600) (by omega) z1 (fun a ha=>hh a (by simp [ha]))
   obtain ⟨s2,t2⟩:=Rv g2 (e:=2900) (by omega) z2 (fun a ha=>hh a (by simp [ha]))
   refine ⟨n0,n1,n2,0,⟨s0,s1,s2,Vw (by omega) z3⟩,⟨Vb r0.1 t0,Vb (by omega) t1,Vb (by omega) t2,rfl⟩,⟨by rw [t0];exact z0,by rw [t1];exact z1,by rw [t2];exact z2,z3⟩,by simp [Ow]⟩
 | true =>
  have sb:H9 true=2900:=rfl
  unfold LaidAt PartsAt noughts Pg
  simp only [sb,hf,if_true]
  constructor
  ·rintro ⟨n0,n1,n2,n3,⟨s0,s1,s2,s3⟩,⟨u0,u1,u2,u3⟩,⟨z0,z1,z2,z3⟩,rfl⟩
   obtain ⟨g0,le0,h0⟩:=Qc s0 (by omega) rfl
   obtain ⟨g1,le1,h1⟩:=Qc s1 (by omega) rfl
   obtain ⟨g3,le3,h3⟩:=Qc s3 (by omega) rfl
   have b0:=Ph h.words 0 n0
   have b1:=Ph h.words 2000 n1
   have b2:=Ph h.words 2600 n2
   have b3:=Ph h.words 2900 n3
   obtain rfl:n2=0:=by omega
   have t0:it h.words 0 n0=h.old.toNat:=by omega
   have t1:it h.words 2000 n1=h.eden.toNat:=by omega
   have t3:it h.words 2900 n3=h.surv.toNat:=by omega
   rw [t0] at g0 z0
   rw [t1] at g1 z1
   rw [t3] at g3 z3
   refine ⟨⟨hw,by omega,by omega,by omega,n0,n1,n3,g0,g1,g3,by simp [Ow]⟩,fun i hi hn=>?_,fun a ha=>?_⟩
   ·rcases Nat.lt_or_ge i 2000 with k|k
    ·exact z0 i (by omega) k
    rcases Nat.lt_or_ge i 2600 with k|k
    ·exact z1 i (by omega) k
    rcases Nat.lt_or_ge i 2900 with k|k
    ·exact z2 i (by show 2600<=i;omega) k
    ·exact z3 i (by omega) hi
   ·simp only [Ow,List.append_nil,List.mem_append] at ha
    rcases ha with (ha|ha)|ha
    ·exact h0 a ha
    ·exact h1 a ha
    ·exact h3 a ha
  ·rintro ⟨⟨_,r0,r1,r2,n0,n1,n3,g0,g1,g3,rfl⟩,hz,hh⟩
   have z0:∀ i,h.old.toNat<=i->i<2000->gw h.words i=0:=fun i a b=>hz i (by omega) (by omega)
   have z1:∀ i,h.eden.toNat<=i->i<2600->gw h.words i=0:=fun i a b=>hz i (by omega) (by omega)
   have z2:∀ i,2600<=i->i<2900->gw h.words i=0:=fun i a b=>hz i (by omega) (by omega)
   have z3:∀ i,h.surv.toNat<=i->i<3200->gw h.words i=0:=fun i a b=>hz i (by omega) (by omega)
   obtain ⟨s0,t0⟩:=Rv g0 (e:=2000) (by omega) z0 (fun a ha=>hh a (by simp [ha]))
   obtain ⟨s1,t1⟩:=Rv g1 (e:=2600) (by omega) z1 (fun a ha=>hh a (by simp [ha]))
   obtain ⟨s3,t3⟩:=Rv g3 (e:=3200) (by omega) z3 (fun a ha=>hh a (by simp [ha]))
   refine ⟨n0,n1,0,n3,⟨s0,s1,Vw (by omega) z2,s3⟩,⟨Vb r0.1 t0,Vb (by omega) t1,rfl,Vb (by omega) t3⟩,⟨by rw [t0];exact z0,by rw [t1];exact z1,z2,by rw [t3];exact z3⟩,by simp [Ow]⟩
theorem Ry (W:List Int) (f n:Nat):(its W f n).Pairwise (· < ·):=by
 unfold its
 rw [List.pairwise_map]
 refine List.Pairwise.imp ?_ List.pairwise_lt_range
 intro a b h
 have:=U4 W f (Nat.le_of_lt h)
 omega
theorem L4 {W:List Int} {e b n a:Nat} (h:Stops W e b n) (ha:a ∈ its W b n):b<=a/\a+4<=e/\nx W a<=e/\Qb W a=true:=by
 obtain ⟨i,hi,rfl⟩:=mem_its.1 ha
 obtain ⟨h1,h2⟩:=h.1 i hi
 have:=Ph W b i
 have:=R9 W b i
 exact ⟨by omega,by omega,h2,h1⟩
theorem LaidAt.sorted {h:Hp} {l:List Nat} (k:LaidAt h l):l.Pairwise (· < ·):=by
 obtain ⟨n0,n1,n2,n3,⟨s0,s1,s2,s3⟩,_,_,rfl⟩:=k
 rw [List.pairwise_append,List.pairwise_append,List.pairwise_append]
 refine ⟨⟨⟨Ry _ _ _,Ry _ _ _,fun a ha b hb=>?_⟩,Ry _ _ _,fun a ha b hb=>?_⟩,Ry _ _ _,fun a ha b hb=>?_⟩
 ·have:=L4 s0 ha;have:=L4 s1 hb;omega
 ·rw [List.mem_append] at ha
  rcases ha with ha|ha
  ·have:=L4 s0 ha;have:=L4 s2 hb;omega
  ·have:=L4 s1 ha;have:=L4 s2 hb;omega
 ·rw [List.mem_append,List.mem_append] at ha
  rcases ha with (ha|ha)|ha
  ·have:=L4 s0 ha;have:=L4 s3 hb;omega
  ·have:=L4 s1 ha;have:=L4 s3 hb;omega
  ·have:=L4 s2 ha;have:=L4 s3 hb;omega
theorem LaidAt.obj {h:Hp} {l:List Nat} (k:LaidAt h l) {a:Nat} (ha:a ∈ l):a+4<=3200/\nx h.words a<=3200/\Qb h.words a=true:=by
 obtain ⟨n0,n1,n2,n3,⟨s0,s1,s2,s3⟩,_,_,rfl⟩:=k
 rw [List.mem_append,List.mem_append,List.mem_append] at ha
 rcases ha with ((ha|ha)|ha)|ha
 ·have:=L4 s0 ha;exact ⟨by omega,by omega,this.2.2.2⟩
 ·have:=L4 s1 ha;exact ⟨by omega,by omega,this.2.2.2⟩
 ·have:=L4 s2 ha;exact ⟨by omega,by omega,this.2.2.2⟩
 ·have:=L4 s3 ha;exact ⟨by omega,by omega,this.2.2.2⟩
theorem PartsAt.obj {h:Hp} {l:List Nat} (k:PartsAt h l) {a:Nat} (ha:a ∈ l):a+4<=3200/\nx h.words a<=3200/\M7 h.words a=true:=by
 obtain ⟨_,r0,r1,r2,n0,n1,n2,g0,g1,g2,rfl⟩:=k
 have hs:H9 h.flip<=2900:=by unfold H9;split <;> omega
 have go:∀ b u n,Goes h.words b u n->u<=3200->a ∈ its h.words b n->a+4<=3200/\nx h.words a<=3200/\M7 h.words a=true:=fun b u n g hu ha=>by
  obtain ⟨i,hi,rfl⟩:=mem_its.1 ha
  have h1:=U3 (W:=h.words) (f:=b) hi
  have h2:=R9 h.words b i
  rw [g.1] at h1
  exact ⟨by omega,by show it h.words b (i+1)<=3200;omega,g.2 i hi⟩
 rw [List.mem_append,List.mem_append] at ha
 rcases ha with (ha|ha)|ha
 ·exact go _ _ _ g0 (by omega) ha
 ·exact go _ _ _ g1 (by omega) ha
 ·exact go _ _ _ g2 (by omega) ha
theorem PartsAt.short {h:Hp} {l:List Nat} (k:PartsAt h l):l.length<=3200:=by
 obtain ⟨_,r0,r1,r2,n0,n1,n2,g0,g1,g2,rfl⟩:=k
 have hs:H9 h.flip<=2900:=by unfold H9;split <;> omega
 have b0:=Ph h.words 0 n0
 have b1:=Ph h.words 2000 n1
 have b2:=Ph h.words (H9 h.flip) n2
 rw [g0.1] at b0
 rw [g1.1] at b1
 rw [g2.1] at b2
 simp only [List.length_append,Pd]
 omega
theorem fld_mem {W:List Int} {a:Nat} {p:Int->Bool}:(∀ x,x ∈ flds W a->p x=true) ↔ (∀ k,a+4<=k->k<nx W a->p (gw W k)=true):=by
 unfold flds nx
 constructor
 ·intro q k h1 h2
  have:=q (gw W (a+4+(k - (a+4)))) (List.mem_map.2 ⟨k - (a+4),by rw [List.mem_range];omega,rfl⟩)
  rwa [show a+4+(k - (a+4))=k from by omega] at this
 ·intro q x hx
  obtain ⟨i,hi,rfl⟩:=List.mem_map.1 hx
  rw [List.mem_range] at hi
  exact q _ (by omega) (by omega)
theorem L6 {W:List Int} {a:Nat} (h:M7 W a=true):0<=gw W a/\gw W a<=60:=by
 unfold M7 at h
 rw [Bool.and_eq_true] at h
 exact of_decide_eq_true h.1
theorem Th {h:Hp} {l:List Nat} (hw:h.words.length=3200):RightAt h l ↔ (LaidAt h l/\((1<=h.hash/\h.hash<=1000000000)/\(∀ a,a ∈ l->gw h.words (a+2)<h.hash)/\(I4 h.words l).Nodup)/\(h.roots.length<=20/\(∀ x,x ∈ h.roots->I8 l x=true)/\(∀ a,a ∈ l->Oy h.words l a))/\N9 h.words l=h.kept):=by
 unfold RightAt
 constructor
 ·rintro ⟨a,b,c,d,e,f,g,i,j⟩
  exact ⟨(U1 hw).2 ⟨a,b,d⟩,⟨c,e⟩,⟨f,g,i⟩,j⟩
 ·rintro ⟨a,⟨c,e⟩,⟨f,g,i⟩,j⟩
  obtain ⟨p,q,r⟩:=(U1 hw).1 a
  exact ⟨p,q,c,r,e,f,g,i,j⟩
end Go.Proofs.YtboiknllmnfipaaGreatDoor
