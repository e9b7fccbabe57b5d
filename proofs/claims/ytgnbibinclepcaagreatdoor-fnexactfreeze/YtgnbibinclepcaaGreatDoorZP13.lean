
import Derived.Test.YtgnbibinclepcaaGreatDoorZP11
import Derived.Test.YtgnbibinclepcaaGreatDoorZMDraft
import Derived.Test.YtgnbibinclepcaaGreatDoorZP12
import Derived.Test.YtgnbibinclepcaaGreatDoorZHSpecW
import Derived.Deep.MidRow
/- New, Room, AddRoot and SetRoot in plain words. -/
namespace Go.Proofs.YtgnbibinclepcaaGreatDoor
open Go.RowKit
theorem ok_len {h:Hp} (k:okC h=true):h.words.length=3200/\2000<=h.eden/\h.eden<=2600/\1<=h.hash/\h.hash<=1000000000/\h.roots.length<=20:=by
 have q:=c_right k
 exact ⟨q.1.1,q.1.2.2.1.1,q.1.2.2.1.2,q.2.2.1.1,q.2.2.1.2,q.2.2.2.2.2.1⟩
theorem ok_sorted {h:Hp} (k:okC h=true):(obC h).Pairwise (· < ·):=by
 have q:=c_right k
 exact ((right_iff (ok_len k).1).1 q).1.sorted
end Go.Proofs.YtgnbibinclepcaaGreatDoor
/- The program's draft: its words that fit, its heap. -/
namespace Go.Proofs.YtgnbibinclepcaaGreatDoor
open Go.RowKit
set_option maxHeartbeats 800000 in
theorem draftFits_any (a1 oa:Option Addr) (n1 c1 oc:Nat) (l:List Nat) (x:Int) (w:World) (ho:IR w (.slice oa l.length oc) (ints l)) (hs:l.Pairwise (· < ·)) (h1:l.length<=1000000000) :
  Calls Tryz.prog 217 #[.agg #[.slice a1 n1 c1,.slice oa l.length oc],.int .i64 x] w fun e w'=>e=.returned (.bool (fitB l x))/\Below w.heap.size w w':=by
 have hb0:=bel_one w (.cells #[.slice a1 n1 c1,.slice oa l.length oc] 106)
 have C:=fitsHeap_any _ l x _ (ho.later hb0) hs h1
 go_enter Tryz.func217,Tryz.ntmps217
 go_wp2_with fail
 refine C.mono ?_
 rintro e w1 ⟨rfl,hb1⟩
 go_wp2
 go_ret
 exact ⟨rfl,bel_after hb0 hb1⟩
end Go.Proofs.YtgnbibinclepcaaGreatDoor
/- AddRoot of the program. -/
namespace Go.Proofs.YtgnbibinclepcaaGreatDoor
open Go.RowKit
end Go.Proofs.YtgnbibinclepcaaGreatDoor
/- SetRoot of the program. -/
namespace Go.Proofs.YtgnbibinclepcaaGreatDoor
open Go.RowKit
end Go.Proofs.YtgnbibinclepcaaGreatDoor
/- copy into a row of the call's own, as an operation of a region. -/
namespace Go.Proofs.YtgnbibinclepcaaGreatDoor
open Go.RowKit
end Go.Proofs.YtgnbibinclepcaaGreatDoor
/- An object's header is laid down by the program. -/
namespace Go.Proofs.YtgnbibinclepcaaGreatDoor
open Go.RowKit
end Go.Proofs.YtgnbibinclepcaaGreatDoor
/- New of the program. -/
namespace Go.Proofs.YtgnbibinclepcaaGreatDoor
open Go.RowKit
end Go.Proofs.YtgnbibinclepcaaGreatDoor
/- Heaps whose rows are owned with their spare room. -/
namespace Go.Proofs.YtgnbibinclepcaaGreatDoor
open Go.RowKit
structure HM (B:Nat) (w:World) (v:Value) (h:Hp):Prop where
 ex:∃ v1 v2 v3,v=.agg #[v1,v2,.int .i64 h.old,.int .i64 h.eden,.int .i64 h.surv,.bool h.flip,.int .i64 h.hash,v3] ∧
  (w.ownsRow B 2 1 v1 h.words.length (icells h.words)/\w.ownsRow B 2 1 v2 h.roots.length (icells h.roots)/\w.ownsRow B 2 1 v3 h.kept.length (icells h.kept)) ∧
  (∀ b,v1.ownBlock=some b->v2.ownBlock ≠ some b/\v3.ownBlock ≠ some b)/\(∀ b,v2.ownBlock=some b->v3.ownBlock ≠ some b)
end Go.Proofs.YtgnbibinclepcaaGreatDoor
/- l7Word and AddRoot of the model. -/
namespace Go.Proofs.YtgnbibinclepcaaGreatDoor
open Go.RowKit
theorem tdiv_pos {x:Int} (h:1<=x):x.tdiv 2=x / 2:=Int.tdiv_eq_ediv_of_nonneg (by omega)
end Go.Proofs.YtgnbibinclepcaaGreatDoor
/- A struct is stored into a box: as one step. -/
namespace Go.Proofs.YtgnbibinclepcaaGreatDoor
open Go.RowKit
theorem run_store_box (w:World) (t t' : TypeId) (b n:Nat) (cs:Array Value) (f:Nat->Value) (hR:w.rowIs b t' n f) (hn:cs.size=n) (hi:(Tryz.prog.info? t).map (·.size)=some n) (h1:cs.all (·.oneCell')=true) :
  (Instr.storeAt t (.pointer (some ⟨b,0,none⟩)) (.agg cs)).run Tryz.prog w=.ok () (w.setRow b cs):=by
 obtain ⟨cur,hb,hc,_⟩:=hR
 have hst:=run_storeCells_at Tryz.prog b 0 t' cs.toList 0 cur w hb (by simp;omega) (fun v hv=>by
  have q:=Array.all_eq_true'.1 h1 v (by simpa using hv)
  exact q)
 have e:(cur.toList.take (0+0) ++ cs.toList ++ cur.toList.drop (0+0+cs.toList.length)).toArray=cs:=by
  rw [Nat.add_zero,List.take_zero,List.nil_append,List.drop_eq_nil_of_le (by simp;omega)]
  simp
 rw [e] at hst
 obtain ⟨i,hi',hs⟩:=Option.map_eq_some_iff.1 hi
 simp [Instr.storeAt,Instr.sureAddr,storeVar,sizeOf,typeInfo,hi',hs,hn,Value.cells,hst]
theorem row_set (w:World) (b t n:Nat) (cs:Array Value) (f:Nat->Value) (hR:w.rowIs b t n f) (hn:cs.size=n):(w.setRow b cs).rowIs b t n (fun i=>cs[i]?.getD undef):=by
 obtain ⟨cur,hb,hc,_⟩:=hR
 exact ⟨cs,setRow_heap w b cur _ t _ hb,hn,fun i hi=>by
  have q:i<cs.size:=by omega
  simp [q]⟩
theorem store_box {ops:Array Oper} {rest:List Oper} {o:Oper} {a:Act} {Q:Exit->Act->World->Prop} (w:World) (hgd:o.guard=none) (p s:Operand) (t:TypeId)
  (ho:o.op=.store t p s) (t' : TypeId) (b n:Nat) (cs:Array Value) (f:Nat->Value) (hp:a.eval p=.pointer (some ⟨b,0,none⟩)) (hs:a.eval s=.agg cs) (hR:w.rowIs b t' n f) (hn:cs.size=n)
  (hi:(Tryz.prog.info? t).map (·.size)=some n) (h1:cs.all (·.oneCell')=true)
  (h:∀ w',w'.rowIs b t' n (fun i=>cs[i]?.getD undef)->w.grownBy w' (some b)->wpList Tryz.prog ops Q rest (a.put o.dst undef) w'):wpList Tryz.prog ops Q (o::rest) a w:=by
 refine wpList_plain hgd fun K hK=>?_
 have hrun:=run_store_box w t t' b n cs f hR hn hi h1
 unfold Oper.wp
 simp [execOp,ho,hp,hs,hrun,Result.andThen]
 exact hK _ _ (h _ (row_set w b t' n cs f hR hn) (grown_setRow w b cs))
end Go.Proofs.YtgnbibinclepcaaGreatDoor
/- SetRoot of the model. -/
namespace Go.Proofs.YtgnbibinclepcaaGreatDoor
open Go.RowKit
end Go.Proofs.YtgnbibinclepcaaGreatDoor
