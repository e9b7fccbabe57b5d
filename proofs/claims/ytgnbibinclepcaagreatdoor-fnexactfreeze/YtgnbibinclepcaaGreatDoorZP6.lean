
import Derived.WalkKit
import Derived.WalkSpells
import Derived.WalkLawsBesides
import Derived.Deep.OwnRows
import Derived.Test.YtgnbibinclepcaaGreatDoorRows
import Derived.Deep.RegionWith
import Derived.Shelf.Abstract
import Derived.OwnWalkIn
import Derived.TacticsInMore
import Derived.LoopNIn
import Derived.LoopIn
import Derived.ProofKit
import Derived.OpenShut
import Derived.SizedLaws
import Derived.Lib.SmallJoins
import Derived.Deep.Strs
import Derived.Deep.SlicePairs
import Derived.Laws.AppendOwn
import Derived.Deep.RegionHeld3
/- Plain facts on lists, numbers and worlds that the walks of this seat use; nothing of the program. -/
namespace Go.Proofs.YtgnbibinclepcaaGreatDoor.Disk
open Go.RowKit
theorem ret_str {a b:ByteArray} (h:a=b):Ending.returned (.string a)=.returned (.string b):=by rw [h]
theorem ret_int {k:IntKind} {a b:Int} (h:a=b):Ending.returned (.int k a)=.returned (.int k b):=by rw [h]
theorem ret_bool {a b:Bool} (h:a=b):Ending.returned (.bool a)=.returned (.bool b):=by rw [h]
def digs:Nat->Nat->List UInt8->List UInt8
 | 0,_,acc=>acc
 | f+1,n,acc=>if n=0 then acc else digs f (n / 10) ((48+UInt8.ofNat (n % 10))::acc)
def mtext (k:Int):ByteArray:=if k<=0 then ⟨#[109,48]⟩ else ⟨(109::digs k.toNat k.toNat []).toArray⟩
theorem digs_zero (f:Nat) (acc:List UInt8):digs f 0 acc=acc:=by
 cases f <;> simp [digs]
theorem digs_step (f n:Nat) (s:ByteArray) (hn:0<n) (hf:n<=f) :
  digs (f - 1) (n / 10) (({ data:=#[48+UInt8.ofNat (n % 10)] } ++ s:ByteArray).data.toList)=digs f n s.data.toList:=by
 obtain ⟨g,rfl⟩:∃ g,f=g+1:=⟨f - 1,by omega⟩
 rw [digs,if_neg (by omega),Nat.add_sub_cancel]
 simp
theorem digs_end (k:Int) (f n:Nat) (s:ByteArray) (hk:0<k) (hn:¬ 0<n) (hd:digs f n s.data.toList=digs k.toNat k.toNat []):({ data:=#[109] } ++ s:ByteArray)=mtext k:=by
 obtain rfl:n=0:=by omega
 rw [digs_zero] at hd
 unfold mtext
 rw [if_neg (by omega),← hd]
 apply ByteArray.ext
 simp
theorem str_ne {s t:ByteArray} (h:(!s.toList == t.toList)=true):s ≠ t:=by
 rintro rfl
 simp at h
theorem str_eq {s t:ByteArray} (h:(!s.toList == t.toList)=false):s=t:=by
 simp at h
 rw [ByteArray.toList_eq,ByteArray.toList_eq] at h
 exact ByteArray.ext (Array.toList_inj.1 h)
def SR (w:World) (v:Value) (ss:List ByteArray):Prop :=
 ∃ ao cap,v=.slice ao ss.length cap/\∀ i,i<ss.length->∃ b o,ao=some ⟨b,o,none⟩/\w.cell? ⟨b,o+i,none⟩=some (.string (ss.getD i ByteArray.empty))
abbrev Wr:=Int × ByteArray
theorem SR.later {w w' : World} {v:Value} {ss:List ByteArray} (h:SR w v ss) (hb:Below w.heap.size w w'):SR w' v ss:=by
 obtain ⟨ao,cap,rfl,h⟩:=h
 exact ⟨ao,cap,rfl,fun i hi=>by obtain ⟨b,o,e,hc⟩:=h i hi;exact ⟨b,o,e,cell_later hb hc⟩⟩
theorem lists_eq {ss tt:List ByteArray} (hl:ss.length=tt.length) (h:∀ j,j<ss.length->ss.getD j ByteArray.empty=tt.getD j ByteArray.empty):ss=tt:=by
 refine List.ext_getElem hl fun i h1 h2=>?_
 have:=h i h1
 simpa [List.getD_eq_getElem?_getD,h1,h2] using this
theorem all_upto {p:Nat->Prop} {k:Nat} (h:∀ j,j<k->p j) (hk:p k):∀ j,j<k+1->p j:=fun j hj=>by
 by_cases e:j=k
 ·subst e;exact hk
 ·exact h j (by omega)
theorem grown_trans {a w w' : World} {row:Option Nat} (h:a.grownBy w row) (k:w.grownBy w' row):a.grownBy w' row :=
 ⟨k.os.trans h.os,k.tape.trans h.tape,k.output.trans h.output,Nat.le_trans h.size k.size,fun i hi hr=>(k.block i (Nat.lt_of_lt_of_le hi h.size) hr).trans (h.block i hi hr)⟩
theorem grown_below {w w' : World} {row:Option Nat} (h:Below w.heap.size w w'):w.grownBy w' row :=
 ⟨h.os,h.tape,h.output,h.size,fun k hk _=>h.block k hk⟩
theorem grown_set (w:World) (b i:Nat) (v:Value):w.grownBy (w.setCell ⟨b,i,none⟩ v) (some b) :=
 ⟨rfl,rfl,rfl,by simp [World.setCell],fun k _ hr=>Below.heap_setCell _ _ _ _ (fun e=>hr (by rw [e]))⟩
theorem SR.grown {w w' : World} {v:Value} {ss:List ByteArray} {row:Option Nat} (h:SR w v ss) (hg:w.grownBy w' row) (hne:ss=[] ∨ v.ownBlock ≠ row):SR w' v ss:=by
 obtain ⟨ao,cap,rfl,h⟩:=h
 refine ⟨ao,cap,rfl,fun i hi=>?_⟩
 obtain ⟨b,o,rfl,hc⟩:=h i hi
 rcases hne with rfl|hne
 ·simp at hi
 ·exact ⟨b,o,rfl,hg.cell hc hne⟩
def OS (w:World) (t size:Nat) (v:Value) (n:Nat):Prop :=
 ∃ ao cap,v=.slice ao n cap/\(n=0 ∨ ∃ b N f,ao=some ⟨b,0,none⟩/\n * size<=N/\w.rowIs b t N f)
theorem OS.later {w w' : World} {t size:Nat} {v:Value} {n:Nat} (h:OS w t size v n) (hb:Below w.heap.size w w'):OS w' t size v n:=by
 obtain ⟨ao,cap,rfl,h⟩:=h
 refine ⟨ao,cap,rfl,?_⟩
 rcases h with h|⟨b,N,f,rfl,hN,hr⟩
 ·exact .inl h
 ·exact .inr ⟨b,N,f,rfl,hN,hr.of_block (hb.block b hr.lt)⟩
theorem OS.grown {w w' : World} {t size:Nat} {v:Value} {n:Nat} {row:Option Nat} (h:OS w t size v n) (hg:w.grownBy w' row) (hne:n=0 ∨ v.ownBlock ≠ row):OS w' t size v n:=by
 obtain ⟨ao,cap,rfl,h⟩:=h
 refine ⟨ao,cap,rfl,?_⟩
 rcases h with h|⟨b,N,f,rfl,hN,hr⟩
 ·exact .inl h
 ·rcases hne with h|hne
  ·exact .inl h
  ·exact .inr ⟨b,N,f,rfl,hN,hr.of_block (hg.block b hr.lt hne)⟩
def marks (k:Int) (n:Nat):List ByteArray:=(List.range n).map fun i:Nat=>mtext (k+i)
theorem marks_length (k:Int) (n:Nat):(marks k n).length=n:=by simp [marks]
theorem marks_get (k:Int) (n i:Nat) (h:i<n):(marks k n).getD i ByteArray.empty=mtext (k+i):=by simp [marks,h]
structure Two (w w' : World) (r1 r2:Option Nat):Prop where
 os:w'.os=w.os
 tape:w'.tape=w.tape
 output:w'.output=w.output
 size:w.heap.size<=w'.heap.size
 block:∀ k,k<w.heap.size->some k ≠ r1->some k ≠ r2->w'.heap[k]?=w.heap[k]?
def rowOf (v:Value) (n:Nat):Option Nat:=if n=0 then none else v.ownBlock
theorem OS.row {w:World} {t size:Nat} {v:Value} {n:Nat} (h:OS w t size v n):∀ b,rowOf v n=some b->b<w.heap.size:=by
 intro b e
 obtain ⟨ao,cap,rfl,h⟩:=h
 rcases h with rfl|⟨b',N,f,rfl,hN,hr⟩
 ·simp [rowOf] at e
 ·have:=hr.lt
  unfold rowOf at e
  by_cases hn:n=0
  ·simp [hn] at e
  ·simp [hn,Value.ownBlock] at e
   omega
theorem OS.apart {w:World} {t1 t2 s1 s2:Nat} {v1 v2:Value} {n m:Nat} (ht:t1 ≠ t2) (h1:OS w t1 s1 v1 n) (h2:OS w t2 s2 v2 m):n=0 ∨ v1.ownBlock ≠ rowOf v2 m:=by
 obtain ⟨ao,cap,rfl,h1⟩:=h1
 obtain ⟨bo,cbp,rfl,h2⟩:=h2
 rcases h1 with h1|⟨b,N,f,rfl,hN,hr⟩
 ·exact .inl h1
 ·refine .inr fun e=>?_
  rcases h2 with rfl|⟨b',N',f',rfl,hN',hr'⟩
  ·simp [rowOf,Value.ownBlock] at e
  ·unfold rowOf at e
   by_cases hm:m=0
   ·simp [hm,Value.ownBlock] at e
   ·obtain rfl:b=b':=by simpa [hm,Value.ownBlock] using e
    obtain ⟨c,hc,_⟩:=hr
    obtain ⟨c',hc',_⟩:=hr'
    rw [hc] at hc'
    simp at hc'
    exact ht hc'.2
theorem bel_one (w:World) (o:Obj):Below w.heap.size w (w.alloc o):=(Below.refl _ _).alloc (Nat.le_refl _) _
end Go.Proofs.YtgnbibinclepcaaGreatDoor.Disk
/- Rows of numbers: what a slice reads as; copied, held against each other, marked, grown. -/
namespace Go.Proofs.YtgnbibinclepcaaGreatDoor
open Go.RowKit
theorem zA {α:Type} (l:List α) (i:Nat) (a:α):l.toArray.setIfInBounds i a=(l.set i a).toArray:=by simp
theorem zB {α:Type} (x a:α) (l:List α):(x::l).set 0 a=a::l:=rfl
theorem zC {α:Type} (x a:α) (l:List α) (i:Nat):(x::l).set (i+1) a=x::l.set i a:=rfl
theorem cell_later {w w' : World} {b o:Nat} {v:Value} (hb:Below w.heap.size w w') (h:w.cell? ⟨b,o,none⟩=some v):w'.cell? ⟨b,o,none⟩=some v:=by
 have hlt:b<w.heap.size:=by
  rcases Nat.lt_or_ge b w.heap.size with h' | h'
  ·exact h'
  ·simp [World.cell?,Array.getElem?_eq_none h'] at h
 rw [hb.cell (p:=⟨b,o,none⟩) hlt]
 exact h
theorem bel_one (w:World) (o:Obj):Below w.heap.size w (w.alloc o):=(Below.refl _ _).alloc (Nat.le_refl _) _
theorem bel_after {a b c:World} (h:Below a.heap.size a b) (k:Below b.heap.size b c):Below a.heap.size a c:=h.trans (k.mono h.size)
theorem zbel8 {w W:World} {N:Nat} (h:Below w.heap.size w W) (hN:w.heap.size<=N):Below w.heap.size w ((((((((W.setCell ⟨N,0,none⟩ (.slice none 0 0)).setCell ⟨N,1,none⟩ (.slice none 0 0)).setCell ⟨N,2,none⟩ (.int .i64 0)).setCell ⟨N,3,none⟩ (.int .i64 0)).setCell ⟨N,4,none⟩ (.int .i64 0)).setCell ⟨N,5,none⟩ (.bool false)).setCell ⟨N,6,none⟩ (.int .i64 0)).setCell ⟨N,7,none⟩ (.slice none 0 0)):=by
 repeat (refine Below.setCell ?_ (p:=⟨N,_,none⟩) hN _)
 exact h
theorem zrc8 {w:World} {b n:Nat} {t:TypeId} {f:Nat->Value} (h:w.rowIs b t n f) (hn:8<=n:=by omega):w.cell? ⟨b,0,none⟩=some (f 0)/\w.cell? ⟨b,1,none⟩=some (f 1)/\w.cell? ⟨b,2,none⟩=some (f 2)/\w.cell? ⟨b,3,none⟩=some (f 3)/\w.cell? ⟨b,4,none⟩=some (f 4)/\w.cell? ⟨b,5,none⟩=some (f 5)/\w.cell? ⟨b,6,none⟩=some (f 6)/\w.cell? ⟨b,7,none⟩=some (f 7):=⟨h.cell (by omega),h.cell (by omega),h.cell (by omega),h.cell (by omega),h.cell (by omega),h.cell (by omega),h.cell (by omega),h.cell (by omega)⟩
theorem cell_new (w:World) (C:Array Value) (t n:Nat) (hn:w.heap.size=n) (j:Nat) (v:Value) (hv:C[j]?=some v):(w.alloc (.cells C t)).cell? ⟨n,j,none⟩=some v:=by
 subst hn
 rw [World.cell?_alloc_mark]
 exact hv
def IR (w:World) (v:Value) (l:List Int):Prop :=
 ∃ ao cap,v=.slice ao l.length cap/\l.length<=cap/\∀ i,i<l.length->∃ b o,ao=some ⟨b,o,none⟩/\w.cell? ⟨b,o+i,none⟩=some (.int .i64 (l.getD i 0))
theorem IR.later {w w' : World} {v:Value} {l:List Int} (h:IR w v l) (hb:Below w.heap.size w w'):IR w' v l:=by
 obtain ⟨ao,cap,rfl,hle,h⟩:=h
 exact ⟨ao,cap,rfl,hle,fun i hi=>by obtain ⟨b,o,e,hc⟩:=h i hi;exact ⟨b,o,e,cell_later hb hc⟩⟩
theorem ilists_eq {a b:List Int} (hl:a.length=b.length) (h:∀ j,j<a.length->a.getD j 0=b.getD j 0):a=b:=by
 refine List.ext_getElem hl fun i h1 h2=>?_
 have:=h i h1
 simpa [List.getD_eq_getElem?_getD,h1,h2] using this
theorem all_upto {p:Nat->Prop} {k:Nat} (h:∀ j,j<k->p j) (hk:p k):∀ j,j<k+1->p j:=fun j hj=>by
 by_cases e:j=k
 ·subst e;exact hk
 ·exact h j (by omega)
theorem ret_bool {a b:Bool} (h:a=b):Ending.returned (.bool a)=.returned (.bool b):=by rw [h]
theorem below_drewN {B:Nat} {a w:World} (h:Below B a w) (n:Nat):Below B a (w.drewN n):=⟨h.os,h.tape,h.output,h.size,h.block⟩
theorem Tryz.info2:(Tryz.prog.info? 2).map (fun i=>(i.zero,i.size,i.bytes))=some (some (.int .i64 0),1,8):=by kernel_rfl
theorem make28 (n:Nat) (hn:n<=10000000000000) (w:World):(Instr.makeSlice 24 (.int .i64 (n:Int)) (.int .i64 (n:Int))).run Tryz.prog w=.ok (.slice (some ⟨w.heap.size,0,none⟩) n n) (w.alloc (.cells (madeCells #[.int .i64 0] n) 2)) :=
 run_make_row' (P:=Tryz.prog) 24 2 (.int .i64 0) 8 Tryz.underlying24 Tryz.info2 rfl .i64 .i64 n (by omega) (by omega) w
theorem row_any (w:World) (C:Array Value) (t:TypeId):(w.alloc (.cells C t)).rowIs w.heap.size t C.size (fun i=>C[i]?.getD undef) :=
 World.rowIs_alloc w C t _ (fun i hi=>by simp [hi])
theorem made_ints (w:World) (n:Nat):∃ f,(w.alloc (.cells (madeCells #[.int .i64 0] n) 2)).rowIs w.heap.size 2 n f:=by
 have h:=row_any w (madeCells #[.int .i64 0] n) 2
 rw [size_madeCells] at h
 exact ⟨_,h⟩
theorem row_copy {w:World} {b N j:Nat} {t:TypeId} {g f:Nat->Value} (h:w.rowIs b t N (fun i=>if i<j then g i else f i)) (v:Value) (hv:v=g j) :
  (w.setCell ⟨b,j,none⟩ v).rowIs b t N (fun i=>if i<j+1 then g i else f i):=by
 refine (h.set j _).congr fun i _=>?_
 by_cases e:i=j
 ·subst e;simp [hv]
 ·by_cases e' : i<j
  ·rw [if_neg e,if_pos e',if_pos (by omega)]
  ·rw [if_neg e,if_neg e',if_neg (by omega)]
def icell (l:List Int) (i:Nat):Value:=.int .i64 (l.getD i 0)
set_option maxHeartbeats 400000 in
theorem eqInt64S_any (v u:Value) (ss tt:List Int) (w:World) (hv:IR w v ss) (hu:IR w u tt) (h1:ss.length<=1000000000000000) (_h2:tt.length<=1000000000000000) :
  Calls Tryz.prog 65 #[v,u] w fun e w'=>e=.returned (.bool (decide (ss=tt)))/\Below w.heap.size w w':=by
 obtain ⟨ao,cap,rfl,_,hv⟩:=hv
 obtain ⟨bo,cbp,rfl,_,hu⟩:=hu
 by_cases hl:ss.length=tt.length
 ·have hl' : ((ss.length:Int) != (tt.length:Int))=false:=by simp [hl]
  have HL:Hid (ss.length=tt.length):=hl
  go_enter Tryz.func65,Tryz.ntmps65
  go_wp2
  go_loopw [5] (fun a wr=>∃ (k:Nat),a=.int .i64 k/\k<=ss.length/\Hid (∀ j,j<k->ss.getD j 0=tt.getD j 0)/\∃ n,wr=w.drewN n) (fun a _=>(ss.length - (intOf a).toNat))
  case atStart=>exact ⟨0,rfl,Nat.zero_le _,fun j hj=>absurd hj (by omega),0,rfl⟩
  case round =>
   obtain ⟨k,rfl,hk,hj,n,rfl⟩:=hrel
   by_cases hlt:k<ss.length
   ·obtain ⟨b,o,rfl,hc⟩:=hv k hlt
    obtain ⟨b',o',rfl,hc'⟩:=hu k (by omega)
    have hlt' : k<tt.length:=by omega
    generalize hs:ss.getD k 0=s at *
    generalize ht:tt.getD k 0=t at *
    have HS:Hid (ss.getD k 0=s):=hs
    have HT:Hid (tt.getD k 0=t):=ht
    clear hs ht hv hu hl
    go_wp2
    go_region
    all_goals go_wp2
    ·have hne:s ≠ t:=by simpa using ‹(s != t)=true›
     go_ret
     exact ⟨ret_bool (decide_eq_false (fun e=>hne (by rw [<- HS.out,← HT.out,e]))).symm,below_drewN (Below.refl _ _) _⟩
    ·have he:s=t:=by simpa using ‹(s != t)=false›
     go_roundw
     case rel=>exact ⟨k+1,by go_num,by omega,all_upto hj.out (by rw [HS.out,HT.out,he]),_,rfl⟩
     case measure=>simp [intOf];omega
   ·go_wp2
    go_ret
    exact ⟨ret_bool (decide_eq_true (ilists_eq hl (fun j hj'=>hj.out j (by omega)))).symm,below_drewN (Below.refl _ _) _⟩
 ·have hl' : ((ss.length:Int) != (tt.length:Int))=true:=by simp;omega
  go_enter Tryz.func65,Tryz.ntmps65
  go_wp2
  go_ret
  exact ⟨ret_bool (decide_eq_false (fun e=>hl (by rw [e]))).symm,Below.refl _ _⟩
def icells (l:List Int):List Value:=l.map fun z=>.int .i64 z
theorem icells_length (l:List Int):(icells l).length=l.length:=by simp [icells]
theorem own_none (w:World) (B e size:Nat) (hB:B<=w.heap.size):(w.alloc (.cells #[] e)).ownsRow B e size (.slice (some ⟨w.heap.size,0,none⟩) 0 0) 0 [] :=
 ⟨by simp,.inr ⟨w.heap.size,0,#[],rfl,hB,heap_alloc_new w _,Nat.le_refl _,by unfold maxLen;omega,by simp,by simp⟩⟩
theorem own_later {w w' : World} {B e size:Nat} {v:Value} {n:Nat} {xs:List Value} (h:w.ownsRow B e size v n xs) (hb:Below w.heap.size w w'):w'.ownsRow B e size v n xs:=by
 obtain ⟨hl,h⟩:=h
 refine ⟨hl,?_⟩
 rcases h with h|⟨g,cap,cur,hv,hB,hh,h1,h2,h3,h4⟩
 ·exact .inl h
 ·refine .inr ⟨g,cap,cur,hv,hB,?_,h1,h2,h3,h4⟩
  have hlt:g<w.heap.size:=by
   rcases Nat.lt_or_ge g w.heap.size with h' | h'
   ·exact h'
   ·rw [Array.getElem?_eq_none h'] at hh;cases hh
  rw [hb.block g hlt]
  exact hh
theorem own_cell {w:World} {B e:Nat} {v:Value} {n:Nat} {xs:List Value} (h:w.ownsRow B e 1 v n xs):∃ ao cap,v=.slice ao n cap/\n<=cap/\∀ i,i<n->∃ b,ao=some ⟨b,0,none⟩/\w.cell? ⟨b,i,none⟩=xs[i]?:=by
 obtain ⟨hl,h⟩:=h
 rcases h with ⟨rfl,rfl⟩|⟨g,cap,cur,rfl,hB,hh,h1,h2,h3,h4⟩
 ·exact ⟨none,0,rfl,Nat.le_refl _,fun i hi=>by omega⟩
 ·refine ⟨_,cap,rfl,h1,fun i hi=>⟨g,rfl,?_⟩⟩
  rw [<- h4,List.getElem?_take_of_lt (by omega)]
  simp [World.cell?,hh]
theorem IR_of_owns {w:World} {B:Nat} {v:Value} {l:List Int} (h:w.ownsRow B 2 1 v l.length (icells l)):IR w v l:=by
 obtain ⟨ao,cap,rfl,h1,h2⟩:=own_cell h
 refine ⟨ao,cap,rfl,h1,fun i hi=>?_⟩
 obtain ⟨b,rfl,hc⟩:=h2 i hi
 refine ⟨b,0,rfl,?_⟩
 rw [Nat.zero_add,hc]
 simp [icells,hi]
theorem Tryz.infoI:(Tryz.prog.info? 2).map (fun i=>(i.zero,i.size,i.bytes))=some (some (.int .i64 0),1,8):=by kernel_rfl
theorem app_int {ops:Array Oper} {rest:List Oper} {o:Oper} {a:Act} {Q:Exit->Act->World->Prop} (w:World) (hgd:o.guard=none) (s x:Operand)
  (ho:o.op=.call { callee:=.builtin .append,args:=#[s,x],argTypes:=#[24,24] }) (B:Nat) (v:Value) (n:Nat) (xs:List Value) (hs:a.eval s=v) (hown:w.ownsRow B 2 1 v n xs)
  (g c:Nat) (z:Int) (hx:a.eval x=.slice (some ⟨g,0,none⟩) 1 c) (hc:w.cell? ⟨g,0,none⟩=some (.int .i64 z)) (hn:n<=1000000000000) (hB:B<=w.heap.size)
  (h:∀ v' w',w'.ownsRow B 2 1 v' (n+1) (xs ++ [.int .i64 z])->w.grownBy w' v.ownBlock->wpList Tryz.prog ops Q rest (a.put o.dst v') w'):wpList Tryz.prog ops Q (o::rest) a w:=by
 obtain ⟨i,hi,hzz⟩:=Option.map_eq_some_iff.1 Tryz.infoI
 simp only [Prod.mk.injEq] at hzz
 obtain ⟨hz,hsz,hby⟩:=hzz
 refine wpList_append_own w hgd s x 24 ho B 2 i _ 1 8 Tryz.underlying24 hi hz hsz hby rfl (by omega) v n xs hs hown ⟨g,0,none⟩ 1 c [.int .i64 z] hx rfl (fun j u hj=>?_) (fun u hu=>?_) (by unfold maxLen;omega) (by omega) hB (fun v' w' h1 h2 _=>h v' w' h1 h2)
 ·match j,hj with
  | 0,hj=>simp at hj;subst hj;simpa [Addr.add] using hc
 ·simp at hu;subst hu;rfl
theorem own_grown {w0 w w' : World} {B e size n:Nat} {v:Value} {xs:List Value} (hb:Below B w0 w) (hown:w.ownsRow B e size v n xs) (hg:w.grownBy w' v.ownBlock) (hB:B<=w.heap.size):Below B w0 w':=by
 refine Below.grown hb hg hB (fun k hk=>?_)
 obtain ⟨_,h⟩:=hown
 rcases h with ⟨rfl,_⟩|⟨g,cap,cur,rfl,hg,_⟩
 ·cases hk
 ·cases hk;exact hg
def imarks (k:Int) (n:Nat):List Int:=(List.range n).map fun i:Nat=>k+i
theorem imarks_length (k:Int) (n:Nat):(imarks k n).length=n:=by simp [imarks]
theorem imarks_get (k:Int) (n i:Nat) (h:i<n):(imarks k n).getD i 0=k+i:=by simp [imarks,h]
theorem OS_of_owns {w:World} {B e n:Nat} {v:Value} {xs:List Value} (h:w.ownsRow B e 1 v n xs):Disk.OS w e 1 v n:=by
 obtain ⟨hl,h⟩:=h
 rcases h with ⟨rfl,rfl⟩|⟨g,cap,cur,rfl,hB,hh,h1,h2,h3,h4⟩
 ·exact ⟨none,0,rfl,.inl rfl⟩
 ·exact ⟨_,cap,rfl,.inr ⟨g,cur.size,fun i=>cur[i]?.getD undef,rfl,by omega,cur,hh,rfl,fun i hi=>by simp [hi]⟩⟩
theorem row_of_owns {w:World} {B e n:Nat} {v:Value} {xs:List Value} (h:w.ownsRow B e 1 v n xs):∀ b,Disk.rowOf v n=some b->B<=b:=by
 intro b hb
 obtain ⟨hl,h⟩:=h
 rcases h with ⟨rfl,rfl⟩|⟨g,cap,cur,rfl,hB,hh,h1,h2,h3,h4⟩
 ·simp [Disk.rowOf] at hb
 ·unfold Disk.rowOf at hb
  split at hb
  ·cases hb
  ·simp [Value.ownBlock] at hb
   omega
theorem IR.grown {w w' : World} {v:Value} {l:List Int} {row:Option Nat} (h:IR w v l) (hg:w.grownBy w' row) (hne:l=[] ∨ v.ownBlock ≠ row):IR w' v l:=by
 obtain ⟨ao,cap,rfl,hle,h⟩:=h
 refine ⟨ao,cap,rfl,hle,fun i hi=>?_⟩
 obtain ⟨b,o,rfl,hc⟩:=h i hi
 rcases hne with rfl|hne
 ·simp at hi
 ·exact ⟨b,o,rfl,hg.cell hc hne⟩
theorem IR.lt {w:World} {v:Value} {l:List Int} (h:IR w v l):∀ a n c,v=.slice (some a) n c->0<n->a.block<w.heap.size:=by
 obtain ⟨ao,cap,rfl,hle,h⟩:=h
 intro a n c e hp
 simp only [Value.slice.injEq] at e
 obtain ⟨rfl,rfl,_⟩:=e
 obtain ⟨b,o,e2,hc⟩:=h 0 hp
 simp only [Option.some.injEq] at e2
 subst e2
 exact World.block_lt_of_cell? _ _ hc
theorem irow_mark {w:World} {b N j:Nat} {k:Int} {f:Nat->Value} (h:w.rowIs b 2 N (fun i:Nat=>if i<j then .int .i64 (k+i) else f i)) :
  (w.setCell ⟨b,j,none⟩ (.int .i64 (k+j))).rowIs b 2 N (fun i:Nat=>if i<j+1 then .int .i64 (k+i) else f i):=by
 refine (h.set j _).congr fun i _=>?_
 by_cases e:i=j
 ·subst e;simp
 ·by_cases e' : i<j
  ·rw [if_neg e,if_pos e',if_pos (by omega)]
  ·rw [if_neg e,if_neg e',if_neg (by omega)]
theorem irow_marks {w:World} {b N n cap:Nat} {k:Int} {f:Nat->Value} (h:w.rowIs b 2 N (fun i:Nat=>if i<n then .int .i64 (k+i) else f i)) (hN:n<=N) (hc:n<=cap) :
  IR w (.slice (some ⟨b,0,none⟩) n cap) (imarks k n):=by
 refine ⟨some ⟨b,0,none⟩,cap,by rw [imarks_length],by rw [imarks_length];exact hc,fun i hi=>⟨b,0,rfl,?_⟩⟩
 rw [imarks_length] at hi
 rw [imarks_get k n i hi,Nat.zero_add,h.cell (by omega),if_pos hi]
set_option maxHeartbeats 400000 in
theorem markInt64S_any (v:Value) (n:Nat) (k:Int) (w:World) (hv:Disk.OS w 2 1 v n) (hc:∃ ao cap,v=.slice ao n cap/\n<=cap) (h0:0<k) (h1:k+n<=1000000000000000) :
  Calls Tryz.prog 67 #[v,.int .i64 k] w fun e w'=>e=.returned (.int .i64 (k+n))/\w.grownBy w' (Disk.rowOf v n)/\IR w' v (imarks k n):=by
 obtain ⟨ao,cap,rfl,hv⟩:=hv
 have hcap:n<=cap:=by
  obtain ⟨_,_,e,h⟩:=hc
  simp only [Value.slice.injEq] at e
  omega
 clear hc
 by_cases hn:n=0
 ·subst hn
  go_enter Tryz.func67,Tryz.ntmps67
  go_wp2
  refine wp_loop_rounds 1 ?_
  rw [rounds_succ]
  go_wp2
  go_ret
  exact ⟨Disk.ret_int (by simp),World.grownBy.refl _ _,⟨ao,cap,by simp [imarks],by simp [imarks],fun i hi=>by simp [imarks] at hi⟩⟩
 ·obtain ⟨b,N,f,rfl,hN,hr⟩:=hv.resolve_left hn
  have hro:Disk.rowOf (.slice (some ⟨b,0,none⟩) n cap) n=some b:=by simp [Disk.rowOf,hn,Value.ownBlock]
  rw [hro]
  rw [Nat.mul_one] at hN
  clear hv hro
  go_enter Tryz.func67,Tryz.ntmps67
  go_wp2
  go_loopw [1,5] (fun c i wr=>∃ j:Nat,j<=n/\i=.int .i64 j/\c=.int .i64 (k+j)/\w.grownBy wr (some b)/\wr.rowIs b 2 N (fun i:Nat=>if i<j then .int .i64 (k+i) else f i)) (fun _ i _=>n - (intOf i).toNat)
  case atStart=>exact ⟨0,Nat.zero_le _,rfl,by go_num,World.grownBy.refl _ _,hr.congr (fun i _=>by simp)⟩
  case round =>
   obtain ⟨j,hj,rfl,rfl,hg,hrow⟩:=hrel
   by_cases hlt:j<n
   ·have hc2:=hrow.cell (i:=j) (by omega)
    have hf2:=hrow.frozen j
    have R:=irow_mark hrow
    have G:=Disk.grown_trans hg (Disk.grown_set wr b j (.int .i64 (k+j)))
    clear hrow hg
    go_wp2
    go_roundw
    case rel=>exact ⟨j+1,by omega,by go_num,by go_num,G,R⟩
    case measure=>simp [intOf];omega
   ·obtain rfl:j=n:=by omega
    go_wp2
    go_ret
    exact ⟨rfl,hg,irow_marks hrow hN hcap⟩
end Go.Proofs.YtgnbibinclepcaaGreatDoor
/- Words: WordOk, Int, Ref, IntOf, RefOf of the program and of the model. -/
namespace Go.Proofs.YtgnbibinclepcaaGreatDoor
open Go.RowKit
def In64 (x:Int):Prop:=-9223372036854775808<=x/\x<=9223372036854775807
def numB (n:Int):Bool:=decide (-1000000000<=n/\n<=1000000000)
def adrB (a:Int):Bool:=decide (0<=a/\a<=3199)
def kindW (x:Int):Int:=if x % 2=1 then (if adrB (x / 2)=true then 2 else 0) else (if numB (x / 2)=true then 1 else 0)
def wokB (x:Int):Bool:=!decide (kindW x=0)
def isK (k x:Int):Bool:=decide (kindW x=k)
def valK (k x:Int):Int:=if kindW x=k then x / 2 else 0
theorem wret_bool {a b:Bool} (h:a=b):Ending.returned (.bool a)=.returned (.bool b):=by rw [h]
theorem wret_int {a b:Int} (h:a=b):Ending.returned (.int .i64 a)=.returned (.int .i64 b):=by rw [h]
theorem wret_two {a b:Int} {c d:Bool} (h:a=b) (k:c=d):Ending.returned (.tuple #[.int .i64 a,.bool c])=.returned (.tuple #[.int .i64 b,.bool d]):=by rw [h,k]
theorem and_one_i64 (x:Int):bits BinOp.and IntKind.i64 x 1=x % 2:=by
 have h:((BitVec.ofInt 64 x &&& BitVec.ofInt 64 1).toNat:Int)=x % 2:=by
  rw [BitVec.toNat_and,show (BitVec.ofInt 64 1).toNat=1 from rfl,Nat.and_one_is_mod,BitVec.toNat_ofInt]
  omega
 unfold bits
 show IntKind.wrap .i64 ((BitVec.ofInt 64 x &&& BitVec.ofInt 64 1).toNat:Int)=x % 2
 rw [h]
 rcases Int.emod_two_eq x with h2|h2 <;> rw [h2] <;> rfl
theorem isOdd_any (x:Int) (w:World) :
  Calls Tryz.prog 205 #[.int .i64 x] w fun e w'=>e=.returned (.bool (decide (x % 2=1)))/\w' = w:=by
 go_enter Tryz.func205,Tryz.ntmps205
 go_wp2
 go_ret
 exact ⟨wret_bool (by rw [and_one_i64];rfl),rfl⟩
theorem value_any (x:Int) (w:World) :
  Calls Tryz.prog 178 #[.int .i64 x] w fun e w'=>e=.returned (.int .i64 (x / 2))/\w' = w:=by
 go_enter Tryz.func178,Tryz.ntmps178
 go_wp2
 go_ret
 exact ⟨rfl,rfl⟩
theorem isInt_any (x:Int) (w:World) :
  Calls Tryz.prog 152 #[.int .i64 x] w fun e w'=>e=.returned (.bool (numB x))/\w' = w:=by
 by_cases h : -1000000000<=x
 ·go_enter Tryz.func152,Tryz.ntmps152
  go_wp2
  go_ret
  exact ⟨wret_bool (by unfold numB;simp [h]),rfl⟩
 ·go_enter Tryz.func152,Tryz.ntmps152
  go_wp2
  go_ret
  exact ⟨wret_bool (by unfold numB;rw [decide_eq_false (by omega)]),rfl⟩
theorem isAddress_any (x:Int) (w:World) :
  Calls Tryz.prog 206 #[.int .i64 x] w fun e w'=>e=.returned (.bool (adrB x))/\w' = w:=by
 by_cases h:0<=x
 ·go_enter Tryz.func206,Tryz.ntmps206
  go_wp2
  go_ret
  exact ⟨wret_bool (by unfold adrB;simp only [h,true_and];exact decide_eq_decide.2 (by omega)),rfl⟩
 ·go_enter Tryz.func206,Tryz.ntmps206
  go_wp2
  go_ret
  exact ⟨wret_bool (by unfold adrB;rw [decide_eq_false (by omega)]),rfl⟩
theorem wl1In_any (x lo hi:Int) (w:World) :
  Calls Tryz.prog 80 #[.int .i64 x,.int .i64 lo,.int .i64 hi] w fun e w'=>e=.returned (.bool (decide (lo<=x/\x<=hi)))/\w' = w:=by
 by_cases h:lo<=x
 ·go_enter Tryz.func80,Tryz.ntmps80
  go_wp2
  go_ret
  exact ⟨wret_bool (by simp [h]),rfl⟩
 ·go_enter Tryz.func80,Tryz.ntmps80
  go_wp2
  go_ret
  exact ⟨wret_bool (by rw [decide_eq_false (by omega:¬ lo<=x)];rfl),rfl⟩
theorem refWord_any (x:Int) (w:World) (h:adrB x=true) :
  Calls Tryz.prog 97 #[.int .i64 x] w fun e w'=>e=.returned (.int .i64 (2 * x+1))/\w' = w:=by
 have h':=of_decide_eq_true h
 obtain ⟨h1,h2⟩:=h'
 clear h
 go_enter Tryz.func97,Tryz.ntmps97
 go_wp2
 go_ret
 exact ⟨rfl,rfl⟩
theorem kind_any (x:Int) (w:World) :
  Calls Tryz.prog 177 #[.int .i64 x] w fun e w'=>e=.returned (.int .i64 (kindW x))/\w' = w:=by
 go_enter Tryz.func177,Tryz.ntmps177
 go_wp2_with fail
 refine (isOdd_any x _).mono ?_
 rintro e w1 ⟨rfl,rfl⟩
 by_cases h:x % 2=1
 ·have hd:decide (x % 2=1)=true:=decide_eq_true h
  rw [hd]
  clear hd
  cases ha:adrB (x / 2)
  ·have G:Hid (kindW x=0/\adrB (x / 2)=false):=⟨by unfold kindW;rw [if_pos h,ha];rfl,ha⟩
   have h' : Hid (x % 2=1):=h
   clear h ha
   go_wp2_with fail
   refine (value_any x _).mono ?_
   rintro e w1 ⟨rfl,rfl⟩
   go_wp2_with fail
   refine (isAddress_any _ _).mono ?_
   rintro e w1 ⟨rfl,rfl⟩
   rw [G.out.2]
   go_wp2_with fail
   refine (isOdd_any x _).mono ?_
   rintro e w1 ⟨rfl,rfl⟩
   rw [decide_eq_true h'.out]
   go_wp2
   go_ret
   exact ⟨wret_int G.out.1.symm,rfl⟩
  ·have G:Hid (kindW x=2/\adrB (x / 2)=true):=⟨by unfold kindW;rw [if_pos h,if_pos ha],ha⟩
   clear h ha
   go_wp2_with fail
   refine (value_any x _).mono ?_
   rintro e w1 ⟨rfl,rfl⟩
   go_wp2_with fail
   refine (isAddress_any _ _).mono ?_
   rintro e w1 ⟨rfl,rfl⟩
   rw [G.out.2]
   go_wp2
   go_ret
   exact ⟨wret_int G.out.1.symm,rfl⟩
 ·have hd:decide (x % 2=1)=false:=decide_eq_false h
  rw [hd]
  have G:Hid (kindW x=(if numB (x / 2)=true then 1 else 0)):=(by unfold kindW;rw [if_neg h]:kindW x=(if numB (x / 2)=true then 1 else 0))
  have h' : Hid (decide (x % 2=1)=false):=hd
  clear h hd
  go_wp2_with fail
  refine (isOdd_any x _).mono ?_
  rintro e w1 ⟨rfl,rfl⟩
  rw [h'.out]
  go_wp2_with fail
  refine (value_any x _).mono ?_
  rintro e w1 ⟨rfl,rfl⟩
  go_wp2_with fail
  refine (isInt_any _ _).mono ?_
  rintro e w1 ⟨rfl,rfl⟩
  cases hn:numB (x / 2)
  ·have G2:Hid (kindW x=0):=(by rw [G.out,hn];rfl:kindW x=0)
   clear hn
   go_wp2
   go_ret
   exact ⟨wret_int G2.out.symm,rfl⟩
  ·have G2:Hid (kindW x=1):=(by rw [G.out,if_pos hn]:kindW x=1)
   clear hn
   go_wp2
   go_ret
   exact ⟨wret_int G2.out.symm,rfl⟩
theorem isWord_any (x:Int) (w:World) :
  Calls Tryz.prog 263 #[.int .i64 x] w fun e w'=>e=.returned (.bool (wokB x))/\w' = w:=by
 go_enter Tryz.func263,Tryz.ntmps263
 go_wp2_with fail
 refine (kind_any x _).mono ?_
 rintro e w1 ⟨rfl,rfl⟩
 go_wp2
 go_ret
 exact ⟨wret_bool rfl,rfl⟩
theorem implWordOk_any (x:Int) (w:World) :
  Calls Tryz.prog 245 #[.int .i64 x] w fun e w'=>e=.returned (.bool (wokB x))/\w' = w:=by
 go_enter Tryz.func245,Tryz.ntmps245
 go_wp2_with fail
 refine (isWord_any x _).mono ?_
 rintro e w1 ⟨rfl,rfl⟩
 go_wp2
 go_ret
 exact ⟨rfl,rfl⟩
theorem valueAs_any (k x:Int) (w:World) :
  Calls Tryz.prog 135 #[.int .i64 x,.int .i64 k] w fun e w'=>e=.returned (.tuple #[.int .i64 (valK k x),.bool (isK k x)])/\w' = w:=by
 go_enter Tryz.func135,Tryz.ntmps135
 go_wp2_with fail
 refine (kind_any x _).mono ?_
 rintro e w1 ⟨rfl,rfl⟩
 by_cases h:kindW x=k
 ·have G:Hid (valK k x=x / 2/\isK k x=true):=⟨by unfold valK;rw [if_pos h],by unfold isK;exact decide_eq_true h⟩
  have hb:(kindW x != k)=false:=by rw [h];simp
  clear h
  go_wp2_with fail
  refine (value_any x _).mono ?_
  rintro e w1 ⟨rfl,rfl⟩
  go_wp2
  go_ret2
  exact ⟨wret_two G.out.1.symm G.out.2.symm,rfl⟩
 ·have G:Hid (valK k x=0/\isK k x=false):=⟨by unfold valK;rw [if_neg h],by unfold isK;exact decide_eq_false h⟩
  have hb:(kindW x != k)=true:=by rw [bne_iff_ne];exact h
  clear h
  go_wp2
  go_ret2
  exact ⟨wret_two G.out.1.symm G.out.2.symm,rfl⟩
theorem implIntOf_any (x:Int) (w:World) :
  Calls Tryz.prog 188 #[.int .i64 x] w fun e w'=>e=.returned (.tuple #[.int .i64 (valK 1 x),.bool (isK 1 x)])/\w' = w:=by
 go_enter Tryz.func188,Tryz.ntmps188
 go_wp2_with fail
 refine (valueAs_any 1 x _).mono ?_
 rintro e w1 ⟨rfl,rfl⟩
 go_wp2
 go_ret2
 exact ⟨rfl,rfl⟩
theorem implRefOf_any (x:Int) (w:World) :
  Calls Tryz.prog 96 #[.int .i64 x] w fun e w'=>e=.returned (.tuple #[.int .i64 (valK 2 x),.bool (isK 2 x)])/\w' = w:=by
 go_enter Tryz.func96,Tryz.ntmps96
 go_wp2_with fail
 refine (valueAs_any 2 x _).mono ?_
 rintro e w1 ⟨rfl,rfl⟩
 go_wp2
 go_ret2
 exact ⟨rfl,rfl⟩
theorem tmod_two (x:Int):(x.tmod 2 == 0)=decide (x % 2=0):=by
 rw [Bool.eq_iff_iff]
 simp only [beq_iff_eq,decide_eq_true_eq]
 constructor
 ·intro h
  exact Int.emod_eq_zero_of_dvd (Int.dvd_of_tmod_eq_zero h)
 ·intro h
  exact Int.tmod_eq_zero_of_dvd (Int.dvd_of_emod_eq_zero h)
theorem wok_even {x:Int} (h:x % 2=0):wokB x=decide (-2000000000<=x/\x<=2000000000):=by
 unfold wokB kindW numB
 rw [if_neg (by omega)]
 by_cases h2 : -1000000000<=x / 2/\x / 2<=1000000000
 ·rw [if_pos (decide_eq_true h2)]
  rw [decide_eq_true (show -2000000000<=x/\x<=2000000000 by omega)]
  rfl
 ·rw [if_neg (by rw [decide_eq_false h2];simp)]
  rw [decide_eq_false (show ¬ (-2000000000<=x/\x<=2000000000) by omega)]
  rfl
theorem wok_odd {x:Int} (h:¬ x % 2=0):wokB x=decide (1<=x/\x<=6399):=by
 unfold wokB kindW adrB
 rw [if_pos (by omega)]
 by_cases h2:0<=x / 2/\x / 2<=3199
 ·rw [if_pos (decide_eq_true h2)]
  rw [decide_eq_true (show 1<=x/\x<=6399 by omega)]
  rfl
 ·rw [if_neg (by rw [decide_eq_false h2];simp)]
  rw [decide_eq_false (show ¬ (1<=x/\x<=6399) by omega)]
  rfl
theorem specWordOk_any (x:Int) (w:World) :
  Calls Tryz.prog 128 #[.int .i64 x] w fun e w'=>e=.returned (.bool (wokB x))/\w' = w:=by
 by_cases h:x % 2=0
 ·have G:Hid (wokB x=decide (-2000000000<=x/\x<=2000000000)):=wok_even h
  have t:(x.tmod 2 == 0)=true:=by rw [tmod_two];exact decide_eq_true h
  clear h
  go_enter Tryz.func128,Tryz.ntmps128
  go_wp2_with fail
  refine (wl1In_any _ _ _ _).mono ?_
  rintro e w1 ⟨rfl,rfl⟩
  go_wp2
  go_ret
  exact ⟨wret_bool (by rw [G.out,Bool.decide_and]),rfl⟩
 ·have G:Hid (wokB x=decide (1<=x/\x<=6399)):=wok_odd h
  have t:(x.tmod 2 == 0)=false:=by rw [tmod_two];exact decide_eq_false h
  clear h
  go_enter Tryz.func128,Tryz.ntmps128
  go_wp2_with fail
  refine (wl1In_any _ _ _ _).mono ?_
  rintro e w1 ⟨rfl,rfl⟩
  go_wp2
  go_ret
  exact ⟨wret_bool (by rw [G.out,Bool.decide_and]),rfl⟩
theorem valK_no {k x:Int} (h:isK k x=false):valK k x=0:=by unfold valK;rw [if_neg (of_decide_eq_false h)]
theorem valK_yes {k x:Int} (h:isK k x=true):valK k x=x / 2:=by unfold valK;rw [if_pos (of_decide_eq_true h)]
theorem tdiv_even {x:Int} (h:x % 2=0):x.tdiv 2=x / 2:=Int.tdiv_eq_ediv_of_dvd (Int.dvd_of_emod_eq_zero h)
end Go.Proofs.YtgnbibinclepcaaGreatDoor
/- Heaps in plain words: objects one behind the other, what a right heap is, and that both ways to tell it say the same. -/
namespace Go.Proofs.YtgnbibinclepcaaGreatDoor
open Go.RowKit
structure Hp where
 words:List Int
 roots:List Int
 old:Int
 eden:Int
 surv:Int
 flip:Bool
 hash:Int
 kept:List Int
def gw (W:List Int) (a:Nat):Int:=W.getD a 0
def nx (W:List Int) (a:Nat):Nat:=a+4+(gw W a).toNat
def headB (W:List Int) (a:Nat):Bool:=decide (0<=gw W a/\gw W a<=60) && (decide (0<=gw W (a+1)/\gw W (a+1)<=99) && decide (0<=gw W (a+3)/\gw W (a+3)<=15))
def objB (W:List Int) (a:Nat):Bool:=headB W a && decide (1<=gw W (a+2))
def it (W:List Int) (f:Nat):Nat->Nat
 | 0=>f
 | n+1=>nx W (it W f n)
def its (W:List Int) (f n:Nat):List Nat:=(List.range n).map (it W f)
def ints (l:List Nat):List Int:=l.map fun a:Nat=>(a:Int)
theorem ints_length (l:List Nat):(ints l).length=l.length:=by simp [ints]
theorem its_length (W:List Int) (f n:Nat):(its W f n).length=n:=by simp [its]
theorem its_succ (W:List Int) (f n:Nat):its W f (n+1)=its W f n ++ [it W f n]:=by simp [its,List.range_succ]
theorem its_zero (W:List Int) (f:Nat):its W f 0=[]:=rfl
theorem mem_its {W:List Int} {f n a:Nat}:a ∈ its W f n ↔ ∃ i,i<n/\it W f i=a:=by simp [its]
theorem it_step (W:List Int) (f n:Nat):it W f n+4<=it W f (n+1):=by
 show it W f n+4<=nx W (it W f n)
 unfold nx
 omega
theorem it_le (W:List Int) (f n d:Nat):it W f n+4 * d<=it W f (n+d):=by
 induction d with
 | zero=>simp
 | succ d ih =>
  have h:=it_step W f (n+d)
  rw [show n+(d+1)=(n+d)+1 from rfl]
  omega
theorem it_mono (W:List Int) (f:Nat) {n m:Nat} (h:n<=m):it W f n+4 * (m - n)<=it W f m:=by
 have:=it_le W f n (m - n)
 rwa [show n+(m - n)=m from by omega] at this
theorem it_base (W:List Int) (f n:Nat):f+4 * n<=it W f n:=by
 have:=it_le W f 0 n
 rwa [Nat.zero_add] at this
theorem it_inj {W:List Int} {f n m:Nat} (h:it W f n=it W f m):n=m:=by
 rcases Nat.lt_trichotomy n m with k|k|k
 ·have:=it_mono W f (Nat.le_of_lt k);omega
 ·exact k
 ·have:=it_mono W f (Nat.le_of_lt k);omega
theorem it_lt {W:List Int} {f n m:Nat} (h:it W f n<it W f m):n<m:=by
 rcases Nat.lt_or_ge n m with k|k
 ·exact k
 ·have:=it_mono W f k;omega
theorem it_next {W:List Int} {f n m:Nat} (h:n<m):it W f (n+1)<=it W f m:=by
 have:=it_mono W f (show n+1<=m from h)
 omega
def Goes (W:List Int) (f t n:Nat):Prop:=it W f n=t/\∀ i,i<n->headB W (it W f i)=true
theorem Goes.eq {W:List Int} {f t n m:Nat} (h:Goes W f t n) (k:Goes W f t m):n=m:=it_inj (h.1.trans k.1.symm)
theorem no_goes {W:List Int} {f t n:Nat} (hlt:it W f n<t) (hn:¬ (it W f n+4<=t/\headB W (it W f n)=true/\it W f (n+1)<=t)):∀ m,¬ Goes W f t m:=by
 rintro m ⟨rfl,h⟩
 have k:=it_lt hlt
 have h1:=it_next (W:=W) (f:=f) k
 have h2:=it_step W f n
 exact hn ⟨by omega,h n k,h1⟩
def survB (flip:Bool):Nat:=if flip=true then 2900 else 2600
def PartsAt (h:Hp) (l:List Nat):Prop :=
 h.words.length=3200/\(0<=h.old/\h.old<=2000)/\(2000<=h.eden/\h.eden<=2600)/\((survB h.flip:Int)<=h.surv/\h.surv<=(survB h.flip:Int)+300) ∧
 ∃ n0 n1 n2,Goes h.words 0 h.old.toNat n0/\Goes h.words 2000 h.eden.toNat n1/\Goes h.words (survB h.flip) h.surv.toNat n2/\l=its h.words 0 n0 ++ its h.words 2000 n1 ++ its h.words (survB h.flip) n2
theorem PartsAt.eq {h:Hp} {l m:List Nat} (a:PartsAt h l) (b:PartsAt h m):l=m:=by
 obtain ⟨_,_,_,_,n0,n1,n2,g0,g1,g2,rfl⟩:=a
 obtain ⟨_,_,_,_,m0,m1,m2,k0,k1,k2,rfl⟩:=b
 rw [g0.eq k0,g1.eq k1,g2.eq k2]
def inUse (h:Hp) (i:Nat):Prop:=(i:Int)<h.old ∨ (2000<=i/\(i:Int)<h.eden) ∨ (survB h.flip<=i/\(i:Int)<h.surv)
def noughts (h:Hp):Prop:=∀ i,i<3200->¬ inUse h i->gw h.words i=0
def fitB (l:List Nat) (x:Int):Bool:=decide (kindW x=1) || (decide (kindW x=2) && (ints l).contains (x / 2))
def fieldsFit (W:List Int) (l:List Nat) (a:Nat):Prop:=∀ k,a+4<=k->k<nx W a->fitB l (gw W k)=true
def youngB (x:Int):Bool:=decide (kindW x=2) && decide (2000<=x / 2)
def flds (W:List Int) (a:Nat):List Int:=(List.range (gw W a).toNat).map fun i=>gw W (a+4+i)
def hasY (W:List Int) (a:Nat):Bool:=(flds W a).any youngB
def keptOf (W:List Int) (l:List Nat):List Int:=ints (l.filter fun a=>decide (a<2000) && hasY W a)
def hashesOf (W:List Int) (l:List Nat):List Int:=l.map fun a=>gw W (a+2)
def RightAt (h:Hp) (l:List Nat):Prop :=
 PartsAt h l/\noughts h/\(1<=h.hash/\h.hash<=1000000000)/\(∀ a,a ∈ l->1<=gw h.words (a+2))/\((∀ a,a ∈ l->gw h.words (a+2)<h.hash)/\(hashesOf h.words l).Nodup) ∧
 h.roots.length<=20/\(∀ x,x ∈ h.roots->fitB l x=true)/\(∀ a,a ∈ l->fieldsFit h.words l a)/\keptOf h.words l=h.kept
theorem RightAt.eq {h:Hp} {l m:List Nat} (a:RightAt h l) (b:RightAt h m):l=m:=a.1.eq b.1
def Stops (W:List Int) (e b n:Nat):Prop:=(∀ i,i<n->objB W (it W b i)=true/\it W b (i+1)<=e)/\¬ (it W b n+4<=e/\objB W (it W b n)=true/\it W b (n+1)<=e)
theorem Stops.eq {W:List Int} {e b n m:Nat} (h:Stops W e b n) (k:Stops W e b m):n=m:=by
 rcases Nat.lt_trichotomy n m with q|q|q
 ·have:=k.1 n q
  exact absurd ⟨by have:=it_step W b n;omega,this⟩ h.2
 ·exact q
 ·have:=h.1 m q
  exact absurd ⟨by have:=it_step W b m;omega,this⟩ k.2
theorem headB_of {W:List Int} {a:Nat} (h:objB W a=true):headB W a=true:=by
 unfold objB at h
 rw [Bool.and_eq_true] at h
 exact h.1
theorem hash_of {W:List Int} {a:Nat} (h:objB W a=true):1<=gw W (a+2):=by
 unfold objB at h
 rw [Bool.and_eq_true] at h
 exact of_decide_eq_true h.2
theorem objB_of {W:List Int} {a:Nat} (h:headB W a=true) (k:1<=gw W (a+2)):objB W a=true:=by
 unfold objB
 rw [h,decide_eq_true k]
 rfl
theorem space_to {W:List Int} {b e u n:Nat} (hg:Goes W b u n) (hu:u<=e) (hz:∀ i,u<=i->i<e->gw W i=0) (hh:∀ a,a ∈ its W b n->1<=gw W (a+2)):Stops W e b n/\it W b n=u:=by
 refine ⟨⟨fun i hi=>⟨objB_of (hg.2 i hi) (hh _ (mem_its.2 ⟨i,hi,rfl⟩)),?_⟩,?_⟩,hg.1⟩
 ·have:=it_next (W:=W) (f:=b) hi
  rw [hg.1] at this
  omega
 ·rintro ⟨h1,h2,_⟩
  have h3:=hash_of h2
  have h4:=hg.1
  rw [hz (it W b n+2) (by omega) (by omega)] at h3
  omega
theorem stops_le {W:List Int} {b e n:Nat} (h:Stops W e b n) (hb:b<=e):it W b n<=e:=by
 cases n with
 | zero=>exact hb
 | succ n=>exact (h.1 n (by omega)).2
theorem space_from {W:List Int} {b e u n:Nat} (h:Stops W e b n) (hb:b<=e) (hu:it W b n=u):Goes W b u n/\u<=e/\(∀ a,a ∈ its W b n->1<=gw W (a+2)):=by
 refine ⟨⟨hu,fun i hi=>headB_of (h.1 i hi).1⟩,?_,fun a ha=>?_⟩
 ·rw [<- hu]
  exact stops_le h hb
 ·obtain ⟨i,hi,rfl⟩:=mem_its.1 ha
  exact hash_of (h.1 i hi).1
def LaidAt (h:Hp) (l:List Nat):Prop :=
 ∃ n0 n1 n2 n3,(Stops h.words 2000 0 n0/\Stops h.words 2600 2000 n1/\Stops h.words 2900 2600 n2/\Stops h.words 3200 2900 n3) ∧
 ((it h.words 0 n0:Int)=h.old/\(it h.words 2000 n1:Int)=h.eden/\(it h.words 2600 n2:Int)=(if h.flip=true then 2600 else h.surv)/\(it h.words 2900 n3:Int)=(if h.flip=true then h.surv else 2900)) ∧
 ((∀ i,it h.words 0 n0<=i->i<2000->gw h.words i=0)/\(∀ i,it h.words 2000 n1<=i->i<2600->gw h.words i=0)/\(∀ i,it h.words 2600 n2<=i->i<2900->gw h.words i=0)/\(∀ i,it h.words 2900 n3<=i->i<3200->gw h.words i=0)) ∧
 l=its h.words 0 n0 ++ its h.words 2000 n1 ++ its h.words 2600 n2 ++ its h.words 2900 n3
theorem empty_space {W:List Int} {b e:Nat} (hbe:b+4<=e) (hz:∀ i,b<=i->i<e->gw W i=0):Stops W e b 0:=by
 refine ⟨fun i hi=>by omega,?_⟩
 rintro ⟨_,h2,_⟩
 have h3:=hash_of h2
 rw [hz (it W b 0+2) (by show b<=b+2;omega) (by show b+2<e;omega)] at h3
 omega
theorem nat_of {u:Int} {n:Nat} (h:0<=u) (k:n=u.toNat):(n:Int)=u:=by omega
theorem laid_iff {h:Hp} {l:List Nat} (hw:h.words.length=3200):LaidAt h l ↔ (PartsAt h l/\noughts h/\∀ a,a ∈ l->1<=gw h.words (a+2)):=by
 cases hf:h.flip with
 | false =>
  have sb:survB false=2600:=rfl
  unfold LaidAt PartsAt noughts inUse
  simp only [sb,hf,Bool.false_eq_true,if_false]
  constructor
  ·rintro ⟨n0,n1,n2,n3,⟨s0,s1,s2,s3⟩,⟨u0,u1,u2,u3⟩,⟨z0,z1,z2,z3⟩,rfl⟩
   obtain ⟨g0,le0,h0⟩:=space_from s0 (by omega) rfl
   obtain ⟨g1,le1,h1⟩:=space_from s1 (by omega) rfl
   obtain ⟨g2,le2,h2⟩:=space_from s2 (by omega) rfl
   have b0:=it_base h.words 0 n0
   have b1:=it_base h.words 2000 n1
   have b2:=it_base h.words 2600 n2
   have b3:=it_base h.words 2900 n3
   obtain rfl:n3=0:=by omega
   have t0:it h.words 0 n0=h.old.toNat:=by omega
   have t1:it h.words 2000 n1=h.eden.toNat:=by omega
   have t2:it h.words 2600 n2=h.surv.toNat:=by omega
   rw [t0] at g0 z0
   rw [t1] at g1 z1
   rw [t2] at g2 z2
   refine ⟨⟨hw,by omega,by omega,by omega,n0,n1,n2,g0,g1,g2,by simp [its_zero]⟩,fun i hi hn=>?_,fun a ha=>?_⟩
   ·rcases Nat.lt_or_ge i 2000 with k|k
    ·exact z0 i (by omega) k
    rcases Nat.lt_or_ge i 2600 with k|k
    ·exact z1 i (by omega) k
    rcases Nat.lt_or_ge i 2900 with k|k
    ·exact z2 i (by omega) k
    ·exact z3 i (by show 2900<=i;omega) hi
   ·simp only [its_zero,List.append_nil,List.mem_append] at ha
    rcases ha with (ha|ha)|ha
    ·exact h0 a ha
    ·exact h1 a ha
    ·exact h2 a ha
  ·rintro ⟨⟨_,r0,r1,r2,n0,n1,n2,g0,g1,g2,rfl⟩,hz,hh⟩
   have z0:∀ i,h.old.toNat<=i->i<2000->gw h.words i=0:=fun i a b=>hz i (by omega) (by omega)
   have z1:∀ i,h.eden.toNat<=i->i<2600->gw h.words i=0:=fun i a b=>hz i (by omega) (by omega)
   have z2:∀ i,h.surv.toNat<=i->i<2900->gw h.words i=0:=fun i a b=>hz i (by omega) (by omega)
   have z3:∀ i,2900<=i->i<3200->gw h.words i=0:=fun i a b=>hz i (by omega) (by omega)
   obtain ⟨s0,t0⟩:=space_to g0 (e:=2000) (by omega) z0 (fun a ha=>hh a (by simp [ha]))
   obtain ⟨s1,t1⟩:=space_to g1 (e:=2600) (by omega) z1 (fun a ha=>hh a (by simp [ha]))
   obtain ⟨s2,t2⟩:=space_to g2 (e:=2900) (by omega) z2 (fun a ha=>hh a (by simp [ha]))
   refine ⟨n0,n1,n2,0,⟨s0,s1,s2,empty_space (by omega) z3⟩,⟨nat_of r0.1 t0,nat_of (by omega) t1,nat_of (by omega) t2,rfl⟩,⟨by rw [t0];exact z0,by rw [t1];exact z1,by rw [t2];exact z2,z3⟩,by simp [its_zero]⟩
 | true =>
  have sb:survB true=2900:=rfl
  unfold LaidAt PartsAt noughts inUse
  simp only [sb,hf,if_true]
  constructor
  ·rintro ⟨n0,n1,n2,n3,⟨s0,s1,s2,s3⟩,⟨u0,u1,u2,u3⟩,⟨z0,z1,z2,z3⟩,rfl⟩
   obtain ⟨g0,le0,h0⟩:=space_from s0 (by omega) rfl
   obtain ⟨g1,le1,h1⟩:=space_from s1 (by omega) rfl
   obtain ⟨g3,le3,h3⟩:=space_from s3 (by omega) rfl
   have b0:=it_base h.words 0 n0
   have b1:=it_base h.words 2000 n1
   have b2:=it_base h.words 2600 n2
   have b3:=it_base h.words 2900 n3
   obtain rfl:n2=0:=by omega
   have t0:it h.words 0 n0=h.old.toNat:=by omega
   have t1:it h.words 2000 n1=h.eden.toNat:=by omega
   have t3:it h.words 2900 n3=h.surv.toNat:=by omega
   rw [t0] at g0 z0
   rw [t1] at g1 z1
   rw [t3] at g3 z3
   refine ⟨⟨hw,by omega,by omega,by omega,n0,n1,n3,g0,g1,g3,by simp [its_zero]⟩,fun i hi hn=>?_,fun a ha=>?_⟩
   ·rcases Nat.lt_or_ge i 2000 with k|k
    ·exact z0 i (by omega) k
    rcases Nat.lt_or_ge i 2600 with k|k
    ·exact z1 i (by omega) k
    rcases Nat.lt_or_ge i 2900 with k|k
    ·exact z2 i (by show 2600<=i;omega) k
    ·exact z3 i (by omega) hi
   ·simp only [its_zero,List.append_nil,List.mem_append] at ha
    rcases ha with (ha|ha)|ha
    ·exact h0 a ha
    ·exact h1 a ha
    ·exact h3 a ha
  ·rintro ⟨⟨_,r0,r1,r2,n0,n1,n3,g0,g1,g3,rfl⟩,hz,hh⟩
   have z0:∀ i,h.old.toNat<=i->i<2000->gw h.words i=0:=fun i a b=>hz i (by omega) (by omega)
   have z1:∀ i,h.eden.toNat<=i->i<2600->gw h.words i=0:=fun i a b=>hz i (by omega) (by omega)
   have z2:∀ i,2600<=i->i<2900->gw h.words i=0:=fun i a b=>hz i (by omega) (by omega)
   have z3:∀ i,h.surv.toNat<=i->i<3200->gw h.words i=0:=fun i a b=>hz i (by omega) (by omega)
   obtain ⟨s0,t0⟩:=space_to g0 (e:=2000) (by omega) z0 (fun a ha=>hh a (by simp [ha]))
   obtain ⟨s1,t1⟩:=space_to g1 (e:=2600) (by omega) z1 (fun a ha=>hh a (by simp [ha]))
   obtain ⟨s3,t3⟩:=space_to g3 (e:=3200) (by omega) z3 (fun a ha=>hh a (by simp [ha]))
   refine ⟨n0,n1,0,n3,⟨s0,s1,empty_space (by omega) z2,s3⟩,⟨nat_of r0.1 t0,nat_of (by omega) t1,rfl,nat_of (by omega) t3⟩,⟨by rw [t0];exact z0,by rw [t1];exact z1,z2,by rw [t3];exact z3⟩,by simp [its_zero]⟩
theorem its_sorted (W:List Int) (f n:Nat):(its W f n).Pairwise (· < ·):=by
 unfold its
 rw [List.pairwise_map]
 refine List.Pairwise.imp ?_ List.pairwise_lt_range
 intro a b h
 have:=it_mono W f (Nat.le_of_lt h)
 omega
theorem its_between {W:List Int} {e b n a:Nat} (h:Stops W e b n) (ha:a ∈ its W b n):b<=a/\a+4<=e/\nx W a<=e/\objB W a=true:=by
 obtain ⟨i,hi,rfl⟩:=mem_its.1 ha
 obtain ⟨h1,h2⟩:=h.1 i hi
 have:=it_base W b i
 have:=it_step W b i
 exact ⟨by omega,by omega,h2,h1⟩
theorem LaidAt.sorted {h:Hp} {l:List Nat} (k:LaidAt h l):l.Pairwise (· < ·):=by
 obtain ⟨n0,n1,n2,n3,⟨s0,s1,s2,s3⟩,_,_,rfl⟩:=k
 rw [List.pairwise_append,List.pairwise_append,List.pairwise_append]
 refine ⟨⟨⟨its_sorted _ _ _,its_sorted _ _ _,fun a ha b hb=>?_⟩,its_sorted _ _ _,fun a ha b hb=>?_⟩,its_sorted _ _ _,fun a ha b hb=>?_⟩
 ·have:=its_between s0 ha;have:=its_between s1 hb;omega
 ·rw [List.mem_append] at ha
  rcases ha with ha|ha
  ·have:=its_between s0 ha;have:=its_between s2 hb;omega
  ·have:=its_between s1 ha;have:=its_between s2 hb;omega
 ·rw [List.mem_append,List.mem_append] at ha
  rcases ha with (ha|ha)|ha
  ·have:=its_between s0 ha;have:=its_between s3 hb;omega
  ·have:=its_between s1 ha;have:=its_between s3 hb;omega
  ·have:=its_between s2 ha;have:=its_between s3 hb;omega
theorem LaidAt.obj {h:Hp} {l:List Nat} (k:LaidAt h l) {a:Nat} (ha:a ∈ l):a+4<=3200/\nx h.words a<=3200/\objB h.words a=true:=by
 obtain ⟨n0,n1,n2,n3,⟨s0,s1,s2,s3⟩,_,_,rfl⟩:=k
 rw [List.mem_append,List.mem_append,List.mem_append] at ha
 rcases ha with ((ha|ha)|ha)|ha
 ·have:=its_between s0 ha;exact ⟨by omega,by omega,this.2.2.2⟩
 ·have:=its_between s1 ha;exact ⟨by omega,by omega,this.2.2.2⟩
 ·have:=its_between s2 ha;exact ⟨by omega,by omega,this.2.2.2⟩
 ·have:=its_between s3 ha;exact ⟨by omega,by omega,this.2.2.2⟩
theorem PartsAt.obj {h:Hp} {l:List Nat} (k:PartsAt h l) {a:Nat} (ha:a ∈ l):a+4<=3200/\nx h.words a<=3200/\headB h.words a=true:=by
 obtain ⟨_,r0,r1,r2,n0,n1,n2,g0,g1,g2,rfl⟩:=k
 have hs:survB h.flip<=2900:=by unfold survB;split <;> omega
 have go:∀ b u n,Goes h.words b u n->u<=3200->a ∈ its h.words b n->a+4<=3200/\nx h.words a<=3200/\headB h.words a=true:=fun b u n g hu ha=>by
  obtain ⟨i,hi,rfl⟩:=mem_its.1 ha
  have h1:=it_next (W:=h.words) (f:=b) hi
  have h2:=it_step h.words b i
  rw [g.1] at h1
  exact ⟨by omega,by show it h.words b (i+1)<=3200;omega,g.2 i hi⟩
 rw [List.mem_append,List.mem_append] at ha
 rcases ha with (ha|ha)|ha
 ·exact go _ _ _ g0 (by omega) ha
 ·exact go _ _ _ g1 (by omega) ha
 ·exact go _ _ _ g2 (by omega) ha
theorem PartsAt.short {h:Hp} {l:List Nat} (k:PartsAt h l):l.length<=3200:=by
 obtain ⟨_,r0,r1,r2,n0,n1,n2,g0,g1,g2,rfl⟩:=k
 have hs:survB h.flip<=2900:=by unfold survB;split <;> omega
 have b0:=it_base h.words 0 n0
 have b1:=it_base h.words 2000 n1
 have b2:=it_base h.words (survB h.flip) n2
 rw [g0.1] at b0
 rw [g1.1] at b1
 rw [g2.1] at b2
 simp only [List.length_append,its_length]
 omega
theorem fld_mem {W:List Int} {a:Nat} {p:Int->Bool}:(∀ x,x ∈ flds W a->p x=true) ↔ (∀ k,a+4<=k->k<nx W a->p (gw W k)=true):=by
 unfold flds nx
 constructor
 ·intro q k h1 h2
  have:=q (gw W (a+4+(k - (a+4)))) (List.mem_map.2 ⟨k - (a+4),by rw [List.mem_range];omega,rfl⟩)
  rwa [show a+4+(k - (a+4))=k from by omega] at this
 ·intro q x hx
  obtain ⟨i,hi,rfl⟩:=List.mem_map.1 hx
  rw [List.mem_range] at hi
  exact q _ (by omega) (by omega)
theorem size_of {W:List Int} {a:Nat} (h:headB W a=true):0<=gw W a/\gw W a<=60:=by
 unfold headB at h
 rw [Bool.and_eq_true] at h
 exact of_decide_eq_true h.1
theorem right_iff {h:Hp} {l:List Nat} (hw:h.words.length=3200):RightAt h l ↔ (LaidAt h l/\((1<=h.hash/\h.hash<=1000000000)/\(∀ a,a ∈ l->gw h.words (a+2)<h.hash)/\(hashesOf h.words l).Nodup)/\(h.roots.length<=20/\(∀ x,x ∈ h.roots->fitB l x=true)/\(∀ a,a ∈ l->fieldsFit h.words l a))/\keptOf h.words l=h.kept):=by
 unfold RightAt
 constructor
 ·rintro ⟨a,b,c,d,e,f,g,i,j⟩
  exact ⟨(laid_iff hw).2 ⟨a,b,d⟩,⟨c,e⟩,⟨f,g,i⟩,j⟩
 ·rintro ⟨a,⟨c,e⟩,⟨f,g,i⟩,j⟩
  obtain ⟨p,q,r⟩:=(laid_iff hw).1 a
  exact ⟨p,q,c,r,e,f,g,i,j⟩
end Go.Proofs.YtgnbibinclepcaaGreatDoor
