
import Derived.WalkKit
import Derived.WalkSpells
import Derived.WalkLawsBesides
import Derived.Deep.RegionWith
import Derived.ProofKit
import Derived.Test.YtgnbibinclepcaaGreatDoorZP11
import Derived.Maps.AppendAt
import Derived.Deep.RegionHeld
import Derived.RangeFuncCalls
import Derived.OrdersIn
import Derived.TacticsIn
/- Appending numbers to a row of the call's own, and where the new row lies. -/
namespace Go.Proofs.YtgnbibinclepcaaGreatDoor
open Go.RowKit
end Go.Proofs.YtgnbibinclepcaaGreatDoor
/- A heap is copied by the model: what is known on the way. -/
namespace Go.Proofs.YtgnbibinclepcaaGreatDoor
open Go.RowKit
structure CS (w W:World) (u0 u1 u2 u3 u4 u5 u6 u7:Value):Prop where
 bel:Below w.heap.size w W
 lt:w.heap.size+1<W.heap.size
 c0:W.cell? ⟨w.heap.size,0,none⟩=some u0
 c1:W.cell? ⟨w.heap.size,1,none⟩=some u1
 c2:W.cell? ⟨w.heap.size,2,none⟩=some u2
 c3:W.cell? ⟨w.heap.size,3,none⟩=some u3
 c4:W.cell? ⟨w.heap.size,4,none⟩=some u4
 c5:W.cell? ⟨w.heap.size,5,none⟩=some u5
 c6:W.cell? ⟨w.heap.size,6,none⟩=some u6
 c7:W.cell? ⟨w.heap.size,7,none⟩=some u7
 box:∃ f,W.rowIs w.heap.size 26 8 f
 res:∃ f,W.rowIs (w.heap.size+1) 26 8 f
end Go.Proofs.YtgnbibinclepcaaGreatDoor
/- A drawing region in a round of a range over a function, by the laws of a region outside of one: where no operation defers. -/
namespace Go.Proofs.YtgnbibinclepcaaGreatDoor.Disk
open Go
def Ends (R:Act->World->Prop):Exit->Act->World->Prop
 | .normal,a,w=>R a w
 | _,_,_=>False
theorem ends_panic {R:Act->World->Prop} {dst:Option Tmp} {v:Value}:∀ (c:List PanicEntry) (a:Act) (w:World),Ends R (.panic c) (a.put dst v) w->Ends R (.panic c) a w:=fun _ _ _ h=>h
theorem wpOp_of {P:Program} {ops:Array Oper} {Q:Exit->Act->World->Prop} {i:Nat} {oi:Oper} {K:Act->World->Prop} {a:Act} {w:World} (hi:ops[i]?=some oi) (hw:Region.wanted oi (yielded ops a.tmps)=true) (h:oi.wp P a w K Q):wpOp P ops Q i K a w:=by
 unfold wpOp
 simp only [hi]
 rw [if_pos hw]
 exact .inl h
end Go.Proofs.YtgnbibinclepcaaGreatDoor.Disk
/- Regions that draw their order and end with a store (x = append(x, ..)): a condition on the world that holds till the last operation, which waits for all that is taken first. -/
namespace Go.Proofs.YtgnbibinclepcaaGreatDoor.Disk
open Go
section
variable {P : Program} {md : Region.Mode} {ops : Array Oper} {Q : Exit -> Act -> World -> Prop} {R : Act -> World -> Prop} {S : World -> Prop} {z : Nat}
def wpAnyZ (P:Program) (md:Region.Mode) (ops:Array Oper) (Q:Exit->Act->World->Prop) (z:Nat) (S:World->Prop):Nat->Array Bool->Act->World->Prop
 | 0,listed,a,w=>Region.ready md ops listed=[]/\Q .normal a w
 | fuel+1,listed,a,w =>
  (Region.ready md ops listed=[]->Q .normal a w) ∧
  ∀ i ∈ Region.ready md ops listed,wpOp P ops Q i (fun a' w'=>(i=z ∨ S w')/\wpAnyZ P md ops Q z S fuel (listed.setIfInBounds i true) a' w') a w
theorem wpAny_of_Z:∀ (fuel:Nat) (listed:Array Bool) (a:Act) (w:World),wpAnyZ P md ops Q z S fuel listed a w->wpAny P md ops Q fuel listed a w
 | 0,_,_,_,h=>h
 | fuel+1,_,_,_,h=>⟨h.1,fun i hi=>wpOp_mono (fun a' w' h'=>wpAny_of_Z fuel _ a' w' h'.2) (h.2 i hi)⟩
def waitsB (md:Region.Mode) (ops:Array Oper) (z i:Nat):Bool:=match ops[z]? with|none=>true|some oz=>oz.after.toList.any fun e=>Region.binds md e && e.on == i
theorem not_z {listed:Array Bool} {i j:Nat} (hz:waitsB md ops z i=true) (hi:listed.getD i true=false) (hj:j ∈ Region.ready md ops listed):j ≠ z:=by
 rintro rfl
 obtain ⟨_,o,ho,hall⟩:=mem_ready.1 hj
 unfold waitsB at hz
 rw [ho] at hz
 obtain ⟨e,he,hb⟩:=List.any_eq_true.1 hz
 simp only [Bool.and_eq_true,beq_iff_eq] at hb
 have h1:=hall e (by simpa using he) hb.1
 rw [hb.2] at h1
 rcases Nat.lt_or_ge i listed.size with h' | h'
 ·simp [h'] at hi h1;rw [hi] at h1;cases h1
 ·simp [Array.getElem?_eq_none h'] at h1
theorem wpAnyZ_first {i:Nat} {oi:Oper} {v:Value} (hi:ops[i]?=some oi) (hz:waitsB md ops z i=true) (hsel:∀ (j:Nat) (o:Oper) cs b,ops[j]?=some o->o.op ≠ .select cs b)
  (hQ:∀ c a w,Q (.panic c) (a.put oi.dst v) w->Q (.panic c) a w) :
  ∀ (fuel:Nat) (listed:Array Bool) (a:Act) (w:World),
   (∀ j oj,ops[j]?=some oj->j ≠ i->listed.getD j true=false->(∀ e ∈ oj.after,Region.binds md e=true->e.on ≠ i)->oi.apart ops oj=true) →
   i ∈ Region.ready md ops listed->YieldsIf P ops S oi v a->S w →
   wpAnyZ P md ops Q z S fuel (listed.setIfInBounds i true) (a.put oi.dst v) w->wpAnyZ P md ops Q z S (fuel+1) listed a w:=by
 intro fuel
 induction fuel with
 | zero =>
  intro listed a w _ hr hy hS H
  refine ⟨fun h=>(by rw [h] at hr;cases hr),fun j hj=>?_⟩
  by_cases hji:j=i
  ·subst hji;exact hy.wpOp hi hS ⟨.inr hS,H⟩
  ·have h1:=ready_mono hj hji
   rw [H.1] at h1
   cases h1
 | succ fuel ih =>
  intro listed a w hfree hr hy hS H
  refine ⟨fun h=>(by rw [h] at hr;cases hr),fun j hj=>?_⟩
  by_cases hji:j=i
  ·subst hji;exact hy.wpOp hi hS ⟨.inr hS,H⟩
  ·have h1:=H.2 j (ready_mono hj hji)
   have hun:listed.getD i true=false:=(mem_ready.1 hr).1
   have hjz:j ≠ z:=not_z hz hun hj
   obtain ⟨hjun,oj,hoj,hall⟩:=mem_ready.1 hj
   have hnot:∀ e ∈ oj.after,Region.binds md e=true->e.on ≠ i:=fun e he hb heq=>by
    have h2:=hall e he hb
    rw [heq] at h2
    rcases Nat.lt_or_ge i listed.size with h' | h'
    ·simp [h'] at hun h2;rw [hun] at h2;cases h2
    ·simp [Array.getElem?_eq_none h'] at h2
   have h2:=wpOp_putIf hoj (hfree j oj hoj hji hjun hnot) (fun cs b=>hsel i oi cs b hi) (fun cs b=>hsel j oj cs b hoj) hQ hy h1
   refine wpOp_mono (fun a' w' h3=>?_) h2
   have hS' : S w':=h3.2.1.resolve_left hjz
   refine ⟨.inr hS',ih (listed.setIfInBounds j true) a' w' (fun k ok hk hki hu hno=>?_) (ready_mono hr (Ne.symm hji)) h3.1 hS' ?_⟩
   ·refine hfree k ok hk hki ?_ hno
    by_cases hjk:j=k
    ·subst hjk;exact hjun
    ·rw [Go.getD_set_ne true hjk] at hu;exact hu
   ·rw [Array.setIfInBounds_comm _ _ hji]
    exact h3.2.2
theorem z_done {listed:Array Bool} {a:Act} {w:World} (hr:Region.ready md ops listed=[]) (h:R a w):∀ fuel,wpAnyZ P md ops (Ends R) z S fuel listed a w
 | 0=>⟨hr,h⟩
 | _+1=>⟨fun _=>h,by rw [hr];simp⟩
theorem z_take (i d:Nat) {oi:Oper} {v:Value} {fuel:Nat} {listed:Array Bool} {T:Array Value} {D:List Deferred} {w:World} (hi:ops[i]?=some oi) (hd:oi.dst=some d)
  (hz:waitsB md ops z i=true) (hs:Region.noSelect ops=true) (hf:Region.free md ops listed i=true) (hr:(Region.ready md ops listed).contains i=true)
  (hw:Region.wanted oi (yielded ops T)=true) (hS:S w) (hy:∀ w,S w->(execOp (Act.eval ⟨T,D⟩) oi).run P w=.ok (.value v) w)
  (h:wpAnyZ P md ops (Ends R) z S fuel (listed.setIfInBounds i true) ⟨T.setIfInBounds d v,D⟩ w):wpAnyZ P md ops (Ends R) z S (fuel+1) listed ⟨T,D⟩ w :=
 wpAnyZ_first hi hz (Region.noSelect_spec hs) ends_panic fuel listed _ w (Region.free_spec hi hf) (by simpa using hr) (Or.inl ⟨hw,hy⟩) hS (by rw [hd];exact h)
theorem zt (i d:Nat) {oi:Oper} {v:Value} {fuel:Nat} {listed:Array Bool} {T:Array Value} {D:List Deferred} {w:World} (hi:ops[i]?=some oi) (hd:oi.dst=some d) (hS:S w) (hy:∀ w,S w->(execOp (Act.eval ⟨T,D⟩) oi).run P w=.ok (.value v) w)
  (h:wpAnyZ P md ops (Ends R) z S fuel (listed.setIfInBounds i true) ⟨T.setIfInBounds d v,D⟩ w) (hz:waitsB md ops z i=true:=by kernel_rfl) (hs:Region.noSelect ops=true:=by kernel_rfl) (hf:Region.free md ops listed i=true:=by kernel_rfl) (hr:(Region.ready md ops listed).contains i=true:=by kernel_rfl)
  (hw:Region.wanted oi (yielded ops T)=true:=by rfl):wpAnyZ P md ops (Ends R) z S (fuel+1) listed ⟨T,D⟩ w:=z_take i d hi hd hz hs hf hr hw hS hy h
theorem zt0 (i d:Nat) {oi:Oper} {v:Value} {fuel:Nat} {listed:Array Bool} {T:Array Value} {D:List Deferred} {w:World} (hi:ops[i]?=some oi) (hd:oi.dst=some d) (hS:S w)
  (h:wpAnyZ P md ops (Ends R) z S fuel (listed.setIfInBounds i true) ⟨T.setIfInBounds d v,D⟩ w) (hy:∀ w,S w->(execOp (Act.eval ⟨T,D⟩) oi).run P w=.ok (.value v) w:=by (intro W' _;go_simp;first|done|with_reducible rfl)) (hz:waitsB md ops z i=true:=by kernel_rfl) (hs:Region.noSelect ops=true:=by kernel_rfl) (hf:Region.free md ops listed i=true:=by kernel_rfl) (hr:(Region.ready md ops listed).contains i=true:=by kernel_rfl)
  (hw:Region.wanted oi (yielded ops T)=true:=by rfl):wpAnyZ P md ops (Ends R) z S (fuel+1) listed ⟨T,D⟩ w:=z_take i d hi hd hz hs hf hr hw hS hy h
theorem z_all {i fuel:Nat} {listed:Array Bool} {a:Act} {w:World} (hr:Region.ready md ops listed=[i])
  (h:wpOp P ops Q i (fun a' w'=>(i=z ∨ S w')/\wpAnyZ P md ops Q z S fuel (listed.setIfInBounds i true) a' w') a w):wpAnyZ P md ops Q z S (fuel+1) listed a w:=by
 refine ⟨fun h0=>(by rw [hr] at h0;cases h0),fun j hj=>?_⟩
 rw [hr] at hj
 obtain rfl:j=i:=by simpa using hj
 exact h
theorem z_run (i d:Nat) {oi:Oper} {v:Value} {fuel:Nat} {listed:Array Bool} {T:Array Value} {D:List Deferred} {w w' : World} (hi:ops[i]?=some oi) (hd:oi.dst=some d)
  (hr:Region.ready md ops listed=[i]) (hw:Region.wanted oi (yielded ops T)=true) (hy:(execOp (Act.eval ⟨T,D⟩) oi).run P w=.ok (.value v) w') (hS:i=z ∨ S w')
  (h:wpAnyZ P md ops (Ends R) z S fuel (listed.setIfInBounds i true) ⟨T.setIfInBounds d v,D⟩ w'):wpAnyZ P md ops (Ends R) z S (fuel+1) listed ⟨T,D⟩ w :=
 z_all hr (by
  refine wpOp_of hi hw ?_
  unfold Oper.wp
  rw [hy]
  refine ⟨hS,?_⟩
  rw [hd]
  exact h)
theorem zr (i d:Nat) {oi:Oper} {v:Value} {fuel:Nat} {listed:Array Bool} {T:Array Value} {D:List Deferred} {w w' : World} (hi:ops[i]?=some oi) (hd:oi.dst=some d) (hS:i=z ∨ S w')
  (h:wpAnyZ P md ops (Ends R) z S fuel (listed.setIfInBounds i true) ⟨T.setIfInBounds d v,D⟩ w') (hy:(execOp (Act.eval ⟨T,D⟩) oi).run P w=.ok (.value v) w':=by (go_simp;first|done|with_reducible rfl)) (hr:Region.ready md ops listed=[i]:=by kernel_rfl) (hw:Region.wanted oi (yielded ops T)=true:=by rfl):wpAnyZ P md ops (Ends R) z S (fuel+1) listed ⟨T,D⟩ w:=z_run i d hi hd hr hw hy hS h
theorem z_skip (i:Nat) {oi:Oper} {fuel:Nat} {listed:Array Bool} {a:Act} {w w' : World} (hi:ops[i]?=some oi) (hd:oi.dst=none)
  (hr:Region.ready md ops listed=[i]) (hw:Region.wanted oi (yielded ops a.tmps)=true) (hy:(execOp a.eval oi).run P w=.ok .skip w') (hS:i=z ∨ S w')
  (h:wpAnyZ P md ops (Ends R) z S fuel (listed.setIfInBounds i true) a w'):wpAnyZ P md ops (Ends R) z S (fuel+1) listed a w :=
 z_all hr (by
  refine wpOp_of hi hw ?_
  unfold Oper.wp
  rw [hy]
  refine ⟨hS,?_⟩
  rw [hd]
  exact h)
theorem zk (i:Nat) {oi:Oper} {fuel:Nat} {listed:Array Bool} {a:Act} {w w' : World} (hi:ops[i]?=some oi) (hd:oi.dst=none) (hS:i=z ∨ S w')
  (h:wpAnyZ P md ops (Ends R) z S fuel (listed.setIfInBounds i true) a w') (hy:(execOp a.eval oi).run P w=.ok .skip w':=by (go_simp;first|done|with_reducible rfl)) (hr:Region.ready md ops listed=[i]:=by kernel_rfl) (hw:Region.wanted oi (yielded ops a.tmps)=true:=by rfl):wpAnyZ P md ops (Ends R) z S (fuel+1) listed a w:=z_skip i hi hd hr hw hy hS h
theorem z_call (i d:Nat) {oi:Oper} {f:FuncId} {args:Array Value} {fuel:Nat} {listed:Array Bool} {T:Array Value} {D:List Deferred} {w w0:World} (hi:ops[i]?=some oi) (hd:oi.dst=some d)
  (hr:Region.ready md ops listed=[i]) (hw:Region.wanted oi (yielded ops T)=true) (hy:(execOp (Act.eval ⟨T,D⟩) oi).run P w=.ok (.enter f args) w0)
  (h:Calls P f args w0 fun e w'=>∃ v,e=.returned v/\(i=z ∨ S w')/\wpAnyZ P md ops (Ends R) z S fuel (listed.setIfInBounds i true) ⟨T.setIfInBounds d v,D⟩ w'):wpAnyZ P md ops (Ends R) z S (fuel+1) listed ⟨T,D⟩ w :=
 z_all hr (by
  refine wpOp_of hi hw ?_
  unfold Oper.wp
  rw [hy]
  refine h.mono ?_
  rintro e w' ⟨v,rfl,hS,h⟩
  refine ⟨hS,?_⟩
  rw [hd]
  exact h)
theorem zc (i d:Nat) {oi:Oper} {f:FuncId} {args:Array Value} {fuel:Nat} {listed:Array Bool} {T:Array Value} {D:List Deferred} {w w0:World} (hi:ops[i]?=some oi) (hd:oi.dst=some d)
  (h:Calls P f args w0 fun e w'=>∃ v,e=.returned v/\(i=z ∨ S w')/\wpAnyZ P md ops (Ends R) z S fuel (listed.setIfInBounds i true) ⟨T.setIfInBounds d v,D⟩ w') (hy:(execOp (Act.eval ⟨T,D⟩) oi).run P w=.ok (.enter f args) w0:=by go_simp) (hr:Region.ready md ops listed=[i]:=by kernel_rfl) (hw:Region.wanted oi (yielded ops T)=true:=by rfl):wpAnyZ P md ops (Ends R) z S (fuel+1) listed ⟨T,D⟩ w:=z_call i d hi hd hr hw hy h
theorem z_plain {id:Nat} {a:Act} {w:World} (z:Nat) (S:World->Prop) (hm:P.follows .mixedOrders=true) (hS:S w.drew)
  (h:S w.drew->wpAnyZ P .any ops (Ends (Q .normal)) z S ops.size (Array.replicate ops.size false) a w.drew):(Code.region id ops true).wp P Q a w :=
 Code.wp_mono (fun e a w q=>by cases e <;> first|exact q|exact (q:False).elim) (wp_region_any hm (wpAny_of_Z _ _ _ _ (h hS)))
end
end Go.Proofs.YtgnbibinclepcaaGreatDoor.Disk
