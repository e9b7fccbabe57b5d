
import Derived.Test.YtgnbibinclepcaaGreatDoorZWwFrz
import Derived.Test.YtgnbibinclepcaaGreatDoorZP18
set_option linter.unusedVariables false
set_option linter.unusedSimpArgs false
namespace Go.Proofs.YtgnbibinclepcaaGreatDoor
open Go.Conc Go.Proofs.YtgnbibinclepcaaGreatDoor.Lf Go.RowKit
attribute [go_sem] Instr.makeChan
theorem enter35 (x:Value):Frame.enter Tryz.prog 35 #[x] .normal=b35.at ⟨#[x,undef,undef,undef,undef,undef,undef],[]⟩ [.code body35]:=by
 rw [enter_at (c:=body35) _ Tryz.func35 rfl]
 show (base 35).at { tmps:=#[x] ++ Array.replicate (7 - 1) undef,defers:=[] } _=_
 rw [show #[x] ++ Array.replicate (7 - 1) undef=#[x,undef,undef,undef,undef,undef,undef] by simp [Array.replicate_succ]]
 rfl
structure GA (W0:World) (tx:ByteArray) (n:Nat) (x:Value) (w:World):Prop where
 below:Below W0.heap.size (W0.re w.tape 0) w
 ge:W0.heap.size<=n
 h0:w.heap[n]?=some (.cells #[.string tx] 9 (0,0))
 h1:w.heap[n+1]?=some (.chan 0 #[] false 0 0 false)
 h2:w.heap[n+2]?=some (.cells #[x] 113 (0,0))
theorem GA.re {W0:World} {tx:ByteArray} {n:Nat} {x:Value} {w:World} (h:GA W0 tx n x w) (T:Nat->Question->Nat) (d:Nat):GA W0 tx n x (w.re T d) :=
 ⟨⟨h.below.os,rfl,h.below.output,h.below.size,h.below.block⟩,h.ge,h.h0,h.h1,h.h2⟩
theorem GA.lt {W0:World} {tx:ByteArray} {n:Nat} {x:Value} {w:World} (h:GA W0 tx n x w):n+3<=w.heap.size:=by
 rcases Nat.lt_or_ge (n+2) w.heap.size with h' | h'
 ·omega
 ·have:=h.h2;rw [Array.getElem?_eq_none h'] at this;cases this
theorem GA.set {W0:World} {tx:ByteArray} {n:Nat} {x:Value} {w:World} (h:GA W0 tx n x w) (y:Value):GA W0 tx n y (w.setCell ⟨n+2,0,none⟩ y):=by
 have e:∀ k,k ≠ n+2->(w.setCell ⟨n+2,0,none⟩ y).heap[k]?=w.heap[k]?:=fun k hk=>Below.heap_setCell w _ y k hk
 have hge:=h.ge
 refine ⟨⟨h.below.os,rfl,h.below.output,by rw [show (w.setCell ⟨n+2,0,none⟩ y).heap.size=w.heap.size by simp [World.setCell]];exact h.below.size,fun k hk=>?_⟩,h.ge,(e _ (by omega)).trans h.h0,(e _ (by omega)).trans h.h1,?_⟩
 ·have hk' : k<W0.heap.size:=hk
  exact (e k (by omega)).trans (h.below.block k hk)
 ·simp [World.setCell,Array.getElem?_modify,h.h2]
theorem GA.start {W0:World} {C:Array Value} {w:World} (hX:FX W0 C w) (tx:ByteArray) (T1 T2 T3 T4:Nat->Question->Nat) (d1 d2 d3 d4:Nat) :
  GA W0 tx w.heap.size (.chan none) (((((((w.alloc (.cells #[.string tx] 9)).re T1 d1).re T2 d2).alloc (.chan 0 #[] false 0 0 false)).re T3 d3).alloc (.cells #[.chan none] 113)).re T4 d4):=by
 have hsz:=hX.below.size
 have hsz' : W0.heap.size<=w.heap.size:=hsz
 refine ⟨⟨hX.below.os,rfl,hX.below.output,?_,fun k hk=>?_⟩,hsz',?_,?_,?_⟩
 ·show W0.heap.size<=(((w.heap.push _).push _).push _).size
  simp;omega
 ·have hk' : k<W0.heap.size:=hk
  show (((w.heap.push _).push _).push _)[k]?=_
  rw [Array.getElem?_push_lt (by simp;omega),Array.getElem_push_lt (by simp;omega),Array.getElem_push_lt (by omega)]
  rw [<- Array.getElem?_eq_getElem]
  exact hX.below.block k hk
 ·show (((w.heap.push _).push _).push _)[w.heap.size]?=_
  rw [Array.getElem?_push_lt (by simp;omega),Array.getElem_push_lt (by simp),Array.getElem_push_eq]
 ·show (((w.heap.push _).push _).push _)[w.heap.size+1]?=_
  rw [Array.getElem?_push_lt (by simp)]
  simp [Array.getElem_push]
 ·show (((w.heap.push _).push _).push _)[w.heap.size+2]?=_
  rw [show w.heap.size+2=((w.heap.push (Obj.cells #[.string tx] 9)).push (Obj.chan 0 #[] false 0 0 false)).size by simp]
  exact Array.getElem?_push_size
section
variable (W0 : World) (C : Array Value) (tx : ByteArray) (fr : Frame) (cs : List Frame) {S : Goroutine -> World -> Prop}
set_option maxHeartbeats 2000000 in
set_option maxRecDepth 100000 in
theorem frz_b (hB:Blind S) (w:World) (hX:FX W0 C w)
  (stop:∀ n (u0 u2 u4 u6:Value) w,GA W0 tx n (.chan (some (n+1))) w->S (G (b35.at ⟨#[u0,.pointer (some ⟨n,0,none⟩),u2,.pointer (some ⟨n+2,0,none⟩),u4,.func (.func 76) #[] #[.pointer (some ⟨n,0,none⟩),.pointer (some ⟨n+2,0,none⟩)],u6],[]⟩ [.inRegion ops2_35 [1],.code tail35]) (fr::cs)) w) (hf:Fit (G (Frame.enter Tryz.prog 35 #[.string tx] .normal) (fr::cs))) :
  Tree Tryz.prog S (G (Frame.enter Tryz.prog 35 #[.string tx] .normal) (fr::cs)) w:=by
 rw [enter35] at hf ⊢
 simp only [body35,Tryz.f35,Option.getD_some] at hf ⊢
 (first
  | refine tree_ctl Tryz.cf hB (run_G _ _) hf (fun _=>stepG_seq) (run_G _ _) (fun hfn=>?_)
  | refine tree_ctl Tryz.cf hB (run_G _ _) hf (fun _=>stepG_skip) (run_G _ _) (fun hfn=>?_)
  | refine tree_ctl Tryz.cf hB (run_G _ _) hf (fun _=>stepG_block) (run_G _ _) (fun hfn=>?_)
  | refine tree_ctl Tryz.cf hB (run_G _ _) hf (fun _=>stepG_loop) (run_G _ _) (fun hfn=>?_)
  | refine tree_ctl Tryz.cf hB (run_G _ _) hf (fun _=>stepG_inLoop) (run_G _ _) (fun hfn=>?_)
  | refine tree_ctl Tryz.cf hB (run_G _ _) hf (fun _=>stepG_inBlock) (run_G _ _) (fun hfn=>?_)
  | refine tree_ctl Tryz.cf hB (run_G _ _) hf (fun _=>stepG_region_end) (run_G _ _) (fun hfn=>?_)
  | refine tree_ctl Tryz.cf hB (run_G _ _) hf (fun _=>stepG_ret') (run_G _ _) (fun hfn=>?_)
  | refine tree_ctl Tryz.cf hB (run_G _ _) hf (fun _=>stepG_region) (run_G _ _) (fun hfn=>?_))
 try simp only [List.size_toArray,List.length_cons,List.length_nil,Nat.reduceAdd,Nat.zero_add,List.range,List.range.loop] at hfn ⊢
 clear hf
 have hf:=hfn
 clear hfn
 (first
  | refine tree_ctl Tryz.cf hB (run_G _ _) hf (fun _=>stepG_seq) (run_G _ _) (fun hfn=>?_)
  | refine tree_ctl Tryz.cf hB (run_G _ _) hf (fun _=>stepG_skip) (run_G _ _) (fun hfn=>?_)
  | refine tree_ctl Tryz.cf hB (run_G _ _) hf (fun _=>stepG_block) (run_G _ _) (fun hfn=>?_)
  | refine tree_ctl Tryz.cf hB (run_G _ _) hf (fun _=>stepG_loop) (run_G _ _) (fun hfn=>?_)
  | refine tree_ctl Tryz.cf hB (run_G _ _) hf (fun _=>stepG_inLoop) (run_G _ _) (fun hfn=>?_)
  | refine tree_ctl Tryz.cf hB (run_G _ _) hf (fun _=>stepG_inBlock) (run_G _ _) (fun hfn=>?_)
  | refine tree_ctl Tryz.cf hB (run_G _ _) hf (fun _=>stepG_region_end) (run_G _ _) (fun hfn=>?_)
  | refine tree_ctl Tryz.cf hB (run_G _ _) hf (fun _=>stepG_ret') (run_G _ _) (fun hfn=>?_)
  | refine tree_ctl Tryz.cf hB (run_G _ _) hf (fun _=>stepG_region) (run_G _ _) (fun hfn=>?_))
 try simp only [List.size_toArray,List.length_cons,List.length_nil,Nat.reduceAdd,Nat.zero_add,List.range,List.range.loop] at hfn ⊢
 clear hf
 have hf:=hfn
 clear hfn
 refine tree_oper_k Tryz.cf hf rfl rfl (by decide) (fun T d K hK=>?_)
 clear hf
 replace hX:=hX.re T d
 generalize w.re T d=w at hX hK ⊢
 go_simp
 refine hK _ _ (fun hf=>?_)
 clear hK K
 -- assign
 refine tree_oper_k Tryz.cf hf rfl rfl (by decide) (fun Ta da K hK=>?_)
 clear hf
 go_simp
 refine hK _ _ (fun hf=>?_)
 clear hK K
 (first
  | refine tree_ctl Tryz.cf hB (run_G _ _) hf (fun _=>stepG_seq) (run_G _ _) (fun hfn=>?_)
  | refine tree_ctl Tryz.cf hB (run_G _ _) hf (fun _=>stepG_skip) (run_G _ _) (fun hfn=>?_)
  | refine tree_ctl Tryz.cf hB (run_G _ _) hf (fun _=>stepG_block) (run_G _ _) (fun hfn=>?_)
  | refine tree_ctl Tryz.cf hB (run_G _ _) hf (fun _=>stepG_loop) (run_G _ _) (fun hfn=>?_)
  | refine tree_ctl Tryz.cf hB (run_G _ _) hf (fun _=>stepG_inLoop) (run_G _ _) (fun hfn=>?_)
  | refine tree_ctl Tryz.cf hB (run_G _ _) hf (fun _=>stepG_inBlock) (run_G _ _) (fun hfn=>?_)
  | refine tree_ctl Tryz.cf hB (run_G _ _) hf (fun _=>stepG_region_end) (run_G _ _) (fun hfn=>?_)
  | refine tree_ctl Tryz.cf hB (run_G _ _) hf (fun _=>stepG_ret') (run_G _ _) (fun hfn=>?_)
  | refine tree_ctl Tryz.cf hB (run_G _ _) hf (fun _=>stepG_region) (run_G _ _) (fun hfn=>?_))
 try simp only [List.size_toArray,List.length_cons,List.length_nil,Nat.reduceAdd,Nat.zero_add,List.range,List.range.loop] at hfn ⊢
 clear hf
 have hf:=hfn
 clear hfn
 (first
  | refine tree_ctl Tryz.cf hB (run_G _ _) hf (fun _=>stepG_seq) (run_G _ _) (fun hfn=>?_)
  | refine tree_ctl Tryz.cf hB (run_G _ _) hf (fun _=>stepG_skip) (run_G _ _) (fun hfn=>?_)
  | refine tree_ctl Tryz.cf hB (run_G _ _) hf (fun _=>stepG_block) (run_G _ _) (fun hfn=>?_)
  | refine tree_ctl Tryz.cf hB (run_G _ _) hf (fun _=>stepG_loop) (run_G _ _) (fun hfn=>?_)
  | refine tree_ctl Tryz.cf hB (run_G _ _) hf (fun _=>stepG_inLoop) (run_G _ _) (fun hfn=>?_)
  | refine tree_ctl Tryz.cf hB (run_G _ _) hf (fun _=>stepG_inBlock) (run_G _ _) (fun hfn=>?_)
  | refine tree_ctl Tryz.cf hB (run_G _ _) hf (fun _=>stepG_region_end) (run_G _ _) (fun hfn=>?_)
  | refine tree_ctl Tryz.cf hB (run_G _ _) hf (fun _=>stepG_ret') (run_G _ _) (fun hfn=>?_)
  | refine tree_ctl Tryz.cf hB (run_G _ _) hf (fun _=>stepG_region) (run_G _ _) (fun hfn=>?_))
 try simp only [List.size_toArray,List.length_cons,List.length_nil,Nat.reduceAdd,Nat.zero_add,List.range,List.range.loop] at hfn ⊢
 clear hf
 have hf:=hfn
 clear hfn
 (first
  | refine tree_ctl Tryz.cf hB (run_G _ _) hf (fun _=>stepG_seq) (run_G _ _) (fun hfn=>?_)
  | refine tree_ctl Tryz.cf hB (run_G _ _) hf (fun _=>stepG_skip) (run_G _ _) (fun hfn=>?_)
  | refine tree_ctl Tryz.cf hB (run_G _ _) hf (fun _=>stepG_block) (run_G _ _) (fun hfn=>?_)
  | refine tree_ctl Tryz.cf hB (run_G _ _) hf (fun _=>stepG_loop) (run_G _ _) (fun hfn=>?_)
  | refine tree_ctl Tryz.cf hB (run_G _ _) hf (fun _=>stepG_inLoop) (run_G _ _) (fun hfn=>?_)
  | refine tree_ctl Tryz.cf hB (run_G _ _) hf (fun _=>stepG_inBlock) (run_G _ _) (fun hfn=>?_)
  | refine tree_ctl Tryz.cf hB (run_G _ _) hf (fun _=>stepG_region_end) (run_G _ _) (fun hfn=>?_)
  | refine tree_ctl Tryz.cf hB (run_G _ _) hf (fun _=>stepG_ret') (run_G _ _) (fun hfn=>?_)
  | refine tree_ctl Tryz.cf hB (run_G _ _) hf (fun _=>stepG_region) (run_G _ _) (fun hfn=>?_))
 try simp only [List.size_toArray,List.length_cons,List.length_nil,Nat.reduceAdd,Nat.zero_add,List.range,List.range.loop] at hfn ⊢
 clear hf
 have hf:=hfn
 clear hfn
 refine tree_oper_k Tryz.cf hf rfl rfl (by decide) (fun Tb db K hK=>?_)
 clear hf
 go_simp
 refine hK _ _ (fun hf=>?_)
 clear hK K
 refine tree_oper_k Tryz.cf hf rfl rfl (by decide) (fun Tc dc K hK=>?_)
 clear hf
 go_simp
 refine hK _ _ (fun hf=>?_)
 clear hK K
 refine tree_oper_k Tryz.cf hf rfl rfl (by decide) (fun Te de K hK=>?_)
 clear hf
 have hG:=GA.start hX tx Ta Tb Tc Te da db dc de
 simp only [Nat.add_assoc,Nat.reduceAdd] at hK ⊢
 generalize World.re (World.alloc _ (.cells #[.chan none] 113)) Te de=w3 at hG hK ⊢
 have c2:w3.cell? ⟨w.heap.size+2,0,none⟩=some (.chan none):=by simp [World.cell?,hG.h2]
 have f2:w3.frozen? ⟨w.heap.size+2,0,none⟩=false:=by simp [World.frozen?,hG.h2]
 go_simp
 refine hK _ _ (fun hf=>?_)
 clear hK K c2 f2
 replace hG:=hG.set (.chan (some (w.heap.size+1)))
 generalize w3.setCell _ _=w4 at hG ⊢
 (first
  | refine tree_ctl Tryz.cf hB (run_G _ _) hf (fun _=>stepG_seq) (run_G _ _) (fun hfn=>?_)
  | refine tree_ctl Tryz.cf hB (run_G _ _) hf (fun _=>stepG_skip) (run_G _ _) (fun hfn=>?_)
  | refine tree_ctl Tryz.cf hB (run_G _ _) hf (fun _=>stepG_block) (run_G _ _) (fun hfn=>?_)
  | refine tree_ctl Tryz.cf hB (run_G _ _) hf (fun _=>stepG_loop) (run_G _ _) (fun hfn=>?_)
  | refine tree_ctl Tryz.cf hB (run_G _ _) hf (fun _=>stepG_inLoop) (run_G _ _) (fun hfn=>?_)
  | refine tree_ctl Tryz.cf hB (run_G _ _) hf (fun _=>stepG_inBlock) (run_G _ _) (fun hfn=>?_)
  | refine tree_ctl Tryz.cf hB (run_G _ _) hf (fun _=>stepG_region_end) (run_G _ _) (fun hfn=>?_)
  | refine tree_ctl Tryz.cf hB (run_G _ _) hf (fun _=>stepG_ret') (run_G _ _) (fun hfn=>?_)
  | refine tree_ctl Tryz.cf hB (run_G _ _) hf (fun _=>stepG_region) (run_G _ _) (fun hfn=>?_))
 try simp only [List.size_toArray,List.length_cons,List.length_nil,Nat.reduceAdd,Nat.zero_add,List.range,List.range.loop] at hfn ⊢
 clear hf
 have hf:=hfn
 clear hfn
 (first
  | refine tree_ctl Tryz.cf hB (run_G _ _) hf (fun _=>stepG_seq) (run_G _ _) (fun hfn=>?_)
  | refine tree_ctl Tryz.cf hB (run_G _ _) hf (fun _=>stepG_skip) (run_G _ _) (fun hfn=>?_)
  | refine tree_ctl Tryz.cf hB (run_G _ _) hf (fun _=>stepG_block) (run_G _ _) (fun hfn=>?_)
  | refine tree_ctl Tryz.cf hB (run_G _ _) hf (fun _=>stepG_loop) (run_G _ _) (fun hfn=>?_)
  | refine tree_ctl Tryz.cf hB (run_G _ _) hf (fun _=>stepG_inLoop) (run_G _ _) (fun hfn=>?_)
  | refine tree_ctl Tryz.cf hB (run_G _ _) hf (fun _=>stepG_inBlock) (run_G _ _) (fun hfn=>?_)
  | refine tree_ctl Tryz.cf hB (run_G _ _) hf (fun _=>stepG_region_end) (run_G _ _) (fun hfn=>?_)
  | refine tree_ctl Tryz.cf hB (run_G _ _) hf (fun _=>stepG_ret') (run_G _ _) (fun hfn=>?_)
  | refine tree_ctl Tryz.cf hB (run_G _ _) hf (fun _=>stepG_region) (run_G _ _) (fun hfn=>?_))
 try simp only [List.size_toArray,List.length_cons,List.length_nil,Nat.reduceAdd,Nat.zero_add,List.range,List.range.loop] at hfn ⊢
 clear hf
 have hf:=hfn
 clear hfn
 (first
  | refine tree_ctl Tryz.cf hB (run_G _ _) hf (fun _=>stepG_seq) (run_G _ _) (fun hfn=>?_)
  | refine tree_ctl Tryz.cf hB (run_G _ _) hf (fun _=>stepG_skip) (run_G _ _) (fun hfn=>?_)
  | refine tree_ctl Tryz.cf hB (run_G _ _) hf (fun _=>stepG_block) (run_G _ _) (fun hfn=>?_)
  | refine tree_ctl Tryz.cf hB (run_G _ _) hf (fun _=>stepG_loop) (run_G _ _) (fun hfn=>?_)
  | refine tree_ctl Tryz.cf hB (run_G _ _) hf (fun _=>stepG_inLoop) (run_G _ _) (fun hfn=>?_)
  | refine tree_ctl Tryz.cf hB (run_G _ _) hf (fun _=>stepG_inBlock) (run_G _ _) (fun hfn=>?_)
  | refine tree_ctl Tryz.cf hB (run_G _ _) hf (fun _=>stepG_region_end) (run_G _ _) (fun hfn=>?_)
  | refine tree_ctl Tryz.cf hB (run_G _ _) hf (fun _=>stepG_ret') (run_G _ _) (fun hfn=>?_)
  | refine tree_ctl Tryz.cf hB (run_G _ _) hf (fun _=>stepG_region) (run_G _ _) (fun hfn=>?_))
 try simp only [List.size_toArray,List.length_cons,List.length_nil,Nat.reduceAdd,Nat.zero_add,List.range,List.range.loop] at hfn ⊢
 clear hf
 have hf:=hfn
 clear hfn
 refine tree_oper_k Tryz.cf hf rfl rfl (by decide) (fun T d K hK=>?_)
 clear hf
 replace hG:=hG.re T d
 go_simp
 refine hK _ _ (fun hf=>?_)
 exact .stop (stop _ _ _ _ _ _ hG)
end
end Go.Proofs.YtgnbibinclepcaaGreatDoor
set_option linter.unusedVariables false
set_option linter.unusedSimpArgs false
namespace Go.Proofs.YtgnbibinclepcaaGreatDoor
open Go.Conc Go.Proofs.YtgnbibinclepcaaGreatDoor.Lf Go.RowKit
section
variable (W0 : World) (tx : ByteArray) (cs : List Frame)
theorem AFm.re {N0:Nat} {W0:World} {c Ct Cp Bm:Nat} {out:Value} {xs:List Value} {w:World} (h:AFm N0 W0 c Ct Cp Bm out xs w) (T:Nat->Question->Nat) (d:Nat):AFm N0 W0 c Ct Cp Bm out xs (w.re T d) :=
 ⟨h.own,⟨h.below.os,rfl,h.below.output,h.below.size,h.below.block⟩,h.size,h.ch,h.lt,h.ge,h.ne⟩
def FzR (xs:List Value) (rb:Bool) (e:Ending) (w' : World):Prop :=
 ∃ ov,e=.returned (.tuple #[ov,.bool rb])/\Below W0.heap.size (W0.re w'.tape 0) w' /\ (if rb then w'.ownsRow W0.heap.size 9 1 ov xs.length xs else ov=.slice none 0 0)
theorem atLeave8 {xs:List Value} {rb:Bool} {t:Array Value} {todo:List Item} {w:World} {ov:Value} (h2:t[2]?=some ov) (h3:t[3]?=some (.bool rb)) (hb:Below W0.heap.size (W0.re w.tape 0) w)
  (ho:if rb then w.ownsRow W0.heap.size 9 1 ov xs.length xs else ov=.slice none 0 0):AtLeave Tryz.prog 8 cs (FzR W0 xs rb) (G { b8.at ⟨t,[]⟩ todo with mode:=.returning } cs) w:=by
 refine ⟨.returned (.tuple #[ov,.bool rb]),_,w.tape,w.drawn,rfl,⟨ov,rfl,hb,ho⟩,rfl,fun T d=>⟨rfl,rfl,rfl,Tryz.f8,Tryz.func8,?_⟩⟩
 show (results Tryz.f8 t).run Tryz.prog _=_
 simp [results,Tryz.f8,h2,h3,Array.getD_eq_getD_getElem?]
set_option maxRecDepth 100000 in
theorem frz_go (hl:(cutT tx).length * 16<=140737488355328) (n:Nat) (v0 v1 v2 v3 v5 v6 v7 v8 v9 v10 v11 v12 v13 v14 v15 v16 v17 v18 v19 v20 v21 v22 u0 u2 u4 u6:Value) (w:World) (hG:GA W0 tx n (.chan (some (n+1))) w) :
  Runs Tryz.prog (Fin8 W0.heap.size W0 (n+1) n (n+2) w.heap.size cs ((cutT tx).map .string))
   (G (b35.at ⟨#[u0,.pointer (some ⟨n,0,none⟩),u2,.pointer (some ⟨n+2,0,none⟩),u4,.func (.func 76) #[] #[.pointer (some ⟨n,0,none⟩),.pointer (some ⟨n+2,0,none⟩)],u6],[]⟩ [.inRegion ops2_35 [1],.code tail35]) (b8.at ⟨#[v0,v1,v2,v3,.slice none 0 0,v5,v6,v7,v8,v9,v10,v11,v12,v13,v14,v15,v16,v17,v18,v19,v20,v21,v22],[]⟩ [.inRegion ops4_8 [2],.code loop8,.code rest8]::cs)) w:=by
 refine runs_spawn (run_G _ _) fun T d=>?_
 have hge:=hG.ge
 have hlt:=hG.lt
 replace hG:=hG.re T d
 refine ⟨behindGo n (n+2) cs v0 v1 v2 v3 (.slice none 0 0) v5 v6 v7 v8 v9 v10 v11 v12 v13 v14 v15 v16 v17 v18 v19 v20 v21 v22 u0 u2 u4 (.func (.func 76) #[] #[.pointer (some ⟨n,0,none⟩),.pointer (some ⟨n+2,0,none⟩)]) u6,born Tryz.prog (call76 n (n+2)),w.re T d,#[],n+1,n,n+2,.string ⟨#[]⟩,(cutT tx).map .string,0,0,false,?_,quiet_nil,rfl,by omega,by omega,hG.h1,?_,?_⟩
 ·simp only [ops2_35,tail35,ops4_8,loop8,rest8,R8,behindGo,body8,body35,Tryz.f8,Tryz.f35,Option.getD_some]
  rw [stepG_spawn (d:=call76 n (n+2)) (w':=w.re T d) (f:=.func 76) (c:=#[.pointer (some ⟨n,0,none⟩),.pointer (some ⟨n+2,0,none⟩)]) rfl rfl (by decide) (by simp [go_sem,call76,Deferred.ofValue]) rfl]
  simp [listed,go_sem,seen,Deferred.ofValue]
  try rfl
 ·refine recvs8 W0.heap.size W0 (n+1) n (n+2) w.heap.size cs (cutT tx) hl v0 v1 v2 v3 v5 v6 v7 v8 v9 v10 v11 v12 v13 v14 v15 v16 v17 v18 v19 v20 v21 v22 u0 u2 u4 _ u6 (w.re T d) ⟨⟨rfl,.inl ⟨rfl,rfl⟩⟩,hG.below,Nat.le_refl _,?_,⟨by omega,by omega,by omega⟩,⟨by omega,hge,by omega⟩,⟨by omega,by omega⟩⟩
  have h2:w.heap[n+2]?=_:=hG.h2
  simp [World.cell?,h2]
 ·exact sends76 (n+1) n (n+2) tx (by omega) (w.re T d) ⟨hG.h0,hG.h2⟩
set_option maxHeartbeats 2000000 in
set_option maxRecDepth 100000 in
theorem frz_end (hcs:∀ f ∈ cs,FitFrame f) (xs:List Value) (hl:xs.length<9223372036854775807) (c Ct Cp Bm:Nat) (g:Goroutine) (w:World) (hE:Fin8 W0.heap.size W0 c Ct Cp Bm cs xs g w) :
  Tree Tryz.prog (AtLeave Tryz.prog 8 cs (FzR W0 xs (decide (xs.length<=30)))) g w:=by
 obtain ⟨out,v0,v1,v2,v3,v5,v6,v7,v8,v9,v10,v13,v14,v15,v16,v17,v18,v19,v20,v21,v22,rfl,hM⟩:=hE
 have hB:=blind_atLeave (P:=Tryz.prog) 8 cs (FzR W0 xs (decide (xs.length<=30)))
 obtain ⟨ao,cap,rfl⟩:∃ ao cap,out=.slice ao xs.length cap:=by
  rcases hM.own.2 with ⟨h,h0⟩|⟨g,cap,cur,h,_⟩
  ·exact ⟨none,0,by rw [h,h0]⟩
  ·exact ⟨_,cap,h⟩
 have own0:∀ w',AFm W0.heap.size W0 c Ct Cp Bm (.slice ao xs.length cap) xs w' -> w'.ownsRow W0.heap.size 9 1 (.slice ao xs.length cap) xs.length xs:=fun w' h=>by
  refine ⟨h.own.1,h.own.2.imp id fun ⟨g,cp,cur,a,b,r⟩=>⟨g,cp,cur,a,?_,r⟩⟩
  have:=h.ge;have:=h.lt
  omega
 have hf:Fit (atRecv8 c cs v0 v1 v2 v3 (.slice ao xs.length cap) v5 v6 v7 v8 v9 v10 (.tuple #[.string ⟨#[]⟩,.bool false]) v13 v14 v15 v16 v17 v18 v19 v20 v21 v22 [1]):=by
  refine ⟨fun x hx=>?_,hcs⟩
  simp only [atRecv8,G,Frame.at,List.mem_cons,List.not_mem_nil,or_false] at hx
  rcases hx with rfl|rfl|rfl|rfl|rfl <;> trivial
 simp only [atRecv8,ops5_8,L8b,L8,loop8,rest8,R8,body8,Tryz.f8,Option.getD_some] at hf ⊢
 repeat (first
  | (
    (first
     | refine tree_ctl Tryz.cf hB (run_G _ _) hf (fun _=>stepG_seq) (run_G _ _) (fun hfn=>?_)
     | refine tree_ctl Tryz.cf hB (run_G _ _) hf (fun _=>stepG_skip) (run_G _ _) (fun hfn=>?_)
     | refine tree_ctl Tryz.cf hB (run_G _ _) hf (fun _=>stepG_block) (run_G _ _) (fun hfn=>?_)
     | refine tree_ctl Tryz.cf hB (run_G _ _) hf (fun _=>stepG_loop) (run_G _ _) (fun hfn=>?_)
     | refine tree_ctl Tryz.cf hB (run_G _ _) hf (fun _=>stepG_inLoop) (run_G _ _) (fun hfn=>?_)
     | refine tree_ctl Tryz.cf hB (run_G _ _) hf (fun _=>stepG_inBlock) (run_G _ _) (fun hfn=>?_)
     | refine tree_ctl Tryz.cf hB (run_G _ _) hf (fun _=>stepG_region_end) (run_G _ _) (fun hfn=>?_)
     | refine tree_ctl Tryz.cf hB (run_G _ _) hf (fun _=>stepG_ret') (run_G _ _) (fun hfn=>?_)
     | refine tree_ctl Tryz.cf hB (run_G _ _) hf (fun _=>stepG_region) (run_G _ _) (fun hfn=>?_))
    try simp only [List.size_toArray,List.length_cons,List.length_nil,Nat.reduceAdd,Nat.zero_add,List.range,List.range.loop] at hfn ⊢
    clear hf
    have hf:=hfn
    clear hfn)
  | (
    refine tree_oper_k Tryz.cf hf rfl rfl (by decide) (fun T d K hK=>?_)
    replace hM:=AFm.re hM T d
    generalize World.re _ T d=w at hM hK ⊢
    clear hf
    go_simp
    refine hK _ _ (fun hf=>?_)
    clear hK K))
 refine tree_ctl Tryz.cf hB (run_G _ _) hf (fun _=>stepG_cond (t:=false) rfl) (run_G _ _) (fun hfn=>?_)
 clear hf
 simp only [Bool.false_eq_true,if_false] at hfn ⊢
 have hf:=hfn
 clear hfn
 refine tree_ctl Tryz.cf hB (run_G _ _) hf (fun _=>stepG_exit (by rfl)) (run_G _ _) (fun hfn=>?_)
 clear hf
 have hf:=hfn
 clear hfn
 by_cases h30:xs.length<=30
 ·have hgt:decide ((30:Int)<(xs.length:Int))=false:=by simp;omega
  rw [decide_eq_true h30] at *
  repeat (first
   | (
     (first
      | refine tree_ctl Tryz.cf hB (run_G _ _) hf (fun _=>stepG_seq) (run_G _ _) (fun hfn=>?_)
      | refine tree_ctl Tryz.cf hB (run_G _ _) hf (fun _=>stepG_skip) (run_G _ _) (fun hfn=>?_)
      | refine tree_ctl Tryz.cf hB (run_G _ _) hf (fun _=>stepG_block) (run_G _ _) (fun hfn=>?_)
      | refine tree_ctl Tryz.cf hB (run_G _ _) hf (fun _=>stepG_loop) (run_G _ _) (fun hfn=>?_)
      | refine tree_ctl Tryz.cf hB (run_G _ _) hf (fun _=>stepG_inLoop) (run_G _ _) (fun hfn=>?_)
      | refine tree_ctl Tryz.cf hB (run_G _ _) hf (fun _=>stepG_inBlock) (run_G _ _) (fun hfn=>?_)
      | refine tree_ctl Tryz.cf hB (run_G _ _) hf (fun _=>stepG_region_end) (run_G _ _) (fun hfn=>?_)
      | refine tree_ctl Tryz.cf hB (run_G _ _) hf (fun _=>stepG_ret') (run_G _ _) (fun hfn=>?_)
      | refine tree_ctl Tryz.cf hB (run_G _ _) hf (fun _=>stepG_region) (run_G _ _) (fun hfn=>?_))
     try simp only [List.size_toArray,List.length_cons,List.length_nil,Nat.reduceAdd,Nat.zero_add,List.range,List.range.loop] at hfn ⊢
     clear hf
     have hf:=hfn
     clear hfn)
   | (
     refine tree_oper_k Tryz.cf hf rfl rfl (by decide) (fun T d K hK=>?_)
     replace hM:=AFm.re hM T d
     generalize World.re _ T d=w at hM hK ⊢
     clear hf
     go_simp
     refine hK _ _ (fun hf=>?_)
     clear hK K))
  refine tree_ctl Tryz.cf hB (run_G _ _) hf (fun _=>stepG_cond (t:=false) (by simp [Act.eval,hgt])) (run_G _ _) (fun hfn=>?_)
  clear hf
  simp only [Bool.false_eq_true,if_false] at hfn ⊢
  have hf:=hfn
  clear hfn
  repeat (first
   | (
     (first
      | refine tree_ctl Tryz.cf hB (run_G _ _) hf (fun _=>stepG_seq) (run_G _ _) (fun hfn=>?_)
      | refine tree_ctl Tryz.cf hB (run_G _ _) hf (fun _=>stepG_skip) (run_G _ _) (fun hfn=>?_)
      | refine tree_ctl Tryz.cf hB (run_G _ _) hf (fun _=>stepG_block) (run_G _ _) (fun hfn=>?_)
      | refine tree_ctl Tryz.cf hB (run_G _ _) hf (fun _=>stepG_loop) (run_G _ _) (fun hfn=>?_)
      | refine tree_ctl Tryz.cf hB (run_G _ _) hf (fun _=>stepG_inLoop) (run_G _ _) (fun hfn=>?_)
      | refine tree_ctl Tryz.cf hB (run_G _ _) hf (fun _=>stepG_inBlock) (run_G _ _) (fun hfn=>?_)
      | refine tree_ctl Tryz.cf hB (run_G _ _) hf (fun _=>stepG_region_end) (run_G _ _) (fun hfn=>?_)
      | refine tree_ctl Tryz.cf hB (run_G _ _) hf (fun _=>stepG_ret') (run_G _ _) (fun hfn=>?_)
      | refine tree_ctl Tryz.cf hB (run_G _ _) hf (fun _=>stepG_region) (run_G _ _) (fun hfn=>?_))
     try simp only [List.size_toArray,List.length_cons,List.length_nil,Nat.reduceAdd,Nat.zero_add,List.range,List.range.loop] at hfn ⊢
     clear hf
     have hf:=hfn
     clear hfn)
   | (
     refine tree_oper_k Tryz.cf hf rfl rfl (by decide) (fun T d K hK=>?_)
     replace hM:=AFm.re hM T d
     generalize World.re _ T d=w at hM hK ⊢
     clear hf
     go_simp
     refine hK _ _ (fun hf=>?_)
     clear hK K))
  exact .stop (atLeave8 W0 cs rfl rfl hM.below (own0 _ hM))
 ·have hgt:decide ((30:Int)<(xs.length:Int))=true:=by simp;omega
  rw [decide_eq_false h30] at *
  repeat (first
   | (
     (first
      | refine tree_ctl Tryz.cf hB (run_G _ _) hf (fun _=>stepG_seq) (run_G _ _) (fun hfn=>?_)
      | refine tree_ctl Tryz.cf hB (run_G _ _) hf (fun _=>stepG_skip) (run_G _ _) (fun hfn=>?_)
      | refine tree_ctl Tryz.cf hB (run_G _ _) hf (fun _=>stepG_block) (run_G _ _) (fun hfn=>?_)
      | refine tree_ctl Tryz.cf hB (run_G _ _) hf (fun _=>stepG_loop) (run_G _ _) (fun hfn=>?_)
      | refine tree_ctl Tryz.cf hB (run_G _ _) hf (fun _=>stepG_inLoop) (run_G _ _) (fun hfn=>?_)
      | refine tree_ctl Tryz.cf hB (run_G _ _) hf (fun _=>stepG_inBlock) (run_G _ _) (fun hfn=>?_)
      | refine tree_ctl Tryz.cf hB (run_G _ _) hf (fun _=>stepG_region_end) (run_G _ _) (fun hfn=>?_)
      | refine tree_ctl Tryz.cf hB (run_G _ _) hf (fun _=>stepG_ret') (run_G _ _) (fun hfn=>?_)
      | refine tree_ctl Tryz.cf hB (run_G _ _) hf (fun _=>stepG_region) (run_G _ _) (fun hfn=>?_))
     try simp only [List.size_toArray,List.length_cons,List.length_nil,Nat.reduceAdd,Nat.zero_add,List.range,List.range.loop] at hfn ⊢
     clear hf
     have hf:=hfn
     clear hfn)
   | (
     refine tree_oper_k Tryz.cf hf rfl rfl (by decide) (fun T d K hK=>?_)
     replace hM:=AFm.re hM T d
     generalize World.re _ T d=w at hM hK ⊢
     clear hf
     go_simp
     refine hK _ _ (fun hf=>?_)
     clear hK K))
  refine tree_ctl Tryz.cf hB (run_G _ _) hf (fun _=>stepG_cond (t:=true) (by simp [Act.eval,hgt])) (run_G _ _) (fun hfn=>?_)
  clear hf
  simp only [if_true] at hfn ⊢
  have hf:=hfn
  clear hfn
  repeat (first
   | (
     (first
      | refine tree_ctl Tryz.cf hB (run_G _ _) hf (fun _=>stepG_seq) (run_G _ _) (fun hfn=>?_)
      | refine tree_ctl Tryz.cf hB (run_G _ _) hf (fun _=>stepG_skip) (run_G _ _) (fun hfn=>?_)
      | refine tree_ctl Tryz.cf hB (run_G _ _) hf (fun _=>stepG_block) (run_G _ _) (fun hfn=>?_)
      | refine tree_ctl Tryz.cf hB (run_G _ _) hf (fun _=>stepG_loop) (run_G _ _) (fun hfn=>?_)
      | refine tree_ctl Tryz.cf hB (run_G _ _) hf (fun _=>stepG_inLoop) (run_G _ _) (fun hfn=>?_)
      | refine tree_ctl Tryz.cf hB (run_G _ _) hf (fun _=>stepG_inBlock) (run_G _ _) (fun hfn=>?_)
      | refine tree_ctl Tryz.cf hB (run_G _ _) hf (fun _=>stepG_region_end) (run_G _ _) (fun hfn=>?_)
      | refine tree_ctl Tryz.cf hB (run_G _ _) hf (fun _=>stepG_ret') (run_G _ _) (fun hfn=>?_)
      | refine tree_ctl Tryz.cf hB (run_G _ _) hf (fun _=>stepG_region) (run_G _ _) (fun hfn=>?_))
     try simp only [List.size_toArray,List.length_cons,List.length_nil,Nat.reduceAdd,Nat.zero_add,List.range,List.range.loop] at hfn ⊢
     clear hf
     have hf:=hfn
     clear hfn)
   | (
     refine tree_oper_k Tryz.cf hf rfl rfl (by decide) (fun T d K hK=>?_)
     replace hM:=AFm.re hM T d
     generalize World.re _ T d=w at hM hK ⊢
     clear hf
     go_simp
     refine hK _ _ (fun hf=>?_)
     clear hK K))
  exact .stop (atLeave8 W0 cs rfl rfl hM.below rfl)
theorem freeze_runs (hcs:∀ f ∈ cs,FitFrame f) (v1 v2 v3 vp vo:Value) (m:Mp) (ok:Bool) (hl:(cutT tx).length * 16<=140737488355328)
  (hV:∀ w,FX W0 (vmV v1 v2 v3 vp vo m) w->Calls Tryz.prog 34 #[.agg (vmV v1 v2 v3 vp vo m)] w fun e w'=>e=.returned (.bool ok)/\Below w.heap.size w w')
  (hI:ok=true->∀ w,FX W0 (vmV v1 v2 v3 vp vo m) w->Calls Tryz.prog 36 #[.agg (vmV v1 v2 v3 vp vo m)] w fun e w'=>e=.returned (.string tx)/\Below w.heap.size w w') :
  Runs Tryz.prog (AtLeave Tryz.prog 8 cs (FzR W0 ((cutT tx).map .string) (ok && decide ((cutT tx).length<=30)))) (G (Frame.enter Tryz.prog 8 #[.agg (vmV v1 v2 v3 vp vo m)] .normal) cs) W0:=by
 let S1:Goroutine->World->Prop:=fun g w=>(ok=false/\AtLeave Tryz.prog 8 cs (FzR W0 ((cutT tx).map .string) false) g w) ∨
  (ok=true/\∃ n,∃ y0 y1 y2 y3 y5 y6 y7 y8 y9 y10 y11 y12 y13 y14 y15 y16 y17 y18 y19 y20 y21 y22 u0 u2 u4 u6:Value,g=G (b35.at ⟨#[u0,.pointer (some ⟨n,0,none⟩),u2,.pointer (some ⟨n+2,0,none⟩),u4,.func (.func 76) #[] #[.pointer (some ⟨n,0,none⟩),.pointer (some ⟨n+2,0,none⟩)],u6],[]⟩ [.inRegion ops2_35 [1],.code tail35]) (b8.at ⟨#[y0,y1,y2,y3,.slice none 0 0,y5,y6,y7,y8,y9,y10,y11,y12,y13,y14,y15,y16,y17,y18,y19,y20,y21,y22],[]⟩ [.inRegion ops4_8 [2],.code loop8,.code rest8]::cs)/\GA W0 tx n (.chan (some (n+1))) w)
 have hB:Blind S1:=by
  rintro g w T d (⟨h1,h2⟩|⟨h1,n,y0,y1,y2,y3,y5,y6,y7,y8,y9,y10,y11,y12,y13,y14,y15,y16,y17,y18,y19,y20,y21,y22,u0,u2,u4,u6,h2,h3⟩)
  ·exact .inl ⟨h1,blind_atLeave _ _ _ _ _ _ _ h2⟩
  ·exact .inr ⟨h1,n,y0,y1,y2,y3,y5,y6,y7,y8,y9,y10,y11,y12,y13,y14,y15,y16,y17,y18,y19,y20,y21,y22,u0,u2,u4,u6,h2,h3.re T d⟩
 refine (runs_of_tree hB (frz_a v1 v2 v3 vp vo m W0 cs hB hcs ok hV tx hI (fun h t todo w hX h2 h3=>.inl ⟨h,atLeave8 W0 cs h2 h3 hX.below rfl⟩) fun hok y0 y1 y2 y3 y5 y6 y7 y8 y9 y10 y11 y12 y13 y14 y15 y16 y17 y18 y19 y20 y21 y22 w hX hf=>?_)).bind fun g w hs=>?_
 ·cases ok with
  | false=>cases hok
  | true=>exact frz_b W0 _ tx _ cs hB w hX (fun n u0 u2 u4 u6 w hG=>.inr ⟨rfl,n,y0,y1,y2,y3,y5,y6,y7,y8,y9,y10,y11,y12,y13,y14,y15,y16,y17,y18,y19,y20,y21,y22,u0,u2,u4,u6,rfl,hG⟩) hf
 ·rcases hs with ⟨rfl,h⟩|⟨rfl,n,y0,y1,y2,y3,y5,y6,y7,y8,y9,y10,y11,y12,y13,y14,y15,y16,y17,y18,y19,y20,y21,y22,u0,u2,u4,u6,rfl,hG⟩
  ·exact Runs.stop (blind_atLeave _ _ _) (by simpa using h)
  ·refine (frz_go W0 tx cs hl n y0 y1 y2 y3 y5 y6 y7 y8 y9 y10 y11 y12 y13 y14 y15 y16 y17 y18 y19 y20 y21 y22 u0 u2 u4 u6 w hG).bind fun g w hE=>?_
   have:=runs_of_tree (blind_atLeave _ _ _) (frz_end W0 cs hcs ((cutT tx).map .string) (by simp;omega) (n+1) n (n+2) _ g w hE)
   simpa using this
end
end Go.Proofs.YtgnbibinclepcaaGreatDoor
/- l13Program and VmOk of the model. -/
namespace Go.Proofs.YtgnbibinclepcaaGreatDoor
open Go.RowKit
set_option maxHeartbeats 800000 in
theorem specProgB_any (u:Value) (ws:List Cd) (w:World) (hu:CR w u ws) (h2:ws.length<=1000000000) :
  Calls Tryz.prog 56 #[u] w fun e w'=>e=.returned (.bool (progB ws))/\Below w.heap.size w w':=by
 obtain ⟨ao,cap,rfl,_,hc⟩:=hu
 by_cases hl:ws.length<=100
 case neg =>
  have OB:Hid (progB ws=false):=(by unfold progB;rw [decide_eq_false hl];rfl:progB ws=false)
  have dl:decide ((ws.length:Int) > 100)=true:=decide_eq_true (by omega)
  clear hc
  go_enter Tryz.func56,Tryz.ntmps56
  go_wp2
  go_ret
  exact ⟨wret_bool OB.out.symm,Below.refl _ _⟩
 have OB:Hid (progB ws=ws.all fun p=>cokB p.1 p.2):=(by unfold progB;rw [decide_eq_true hl];rfl:progB ws=ws.all fun p=>cokB p.1 p.2)
 have dl:decide ((ws.length:Int) > 100)=false:=decide_eq_false (by omega)
 go_enter Tryz.func56,Tryz.ntmps56
 go_wp2
 go_loopw [3] (fun kv wr=>∃ k:Nat,k<=ws.length/\kv=.int .i64 k/\Hid (∀ j,j<k->cokB (ws.getD j cd0).1 (ws.getD j cd0).2=true)/\Below w.heap.size w wr) (fun kv _=>ws.length - (intOf kv).toNat)
 case atStart=>exact ⟨0,Nat.zero_le _,rfl,fun j hj=>absurd hj (Nat.not_lt_zero j),Below.refl _ _⟩
 case round =>
  obtain ⟨k,hk,rfl,hd,hbw⟩:=hrel
  by_cases hlt:k<ws.length
  ·obtain ⟨b,o,rfl,ck,cl⟩:=hc k hlt
   have ck':=cell_later hbw ck
   have cl':=cell_later hbw cl
   have NX:Hid (cokB (ws.getD k cd0).1 (ws.getD k cd0).2=true->∀ j,j<k+1->cokB (ws.getD j cd0).1 (ws.getD j cd0).2=true):=fun e=>all_upto hd.out e
   have BAD:Hid (cokB (ws.getD k cd0).1 (ws.getD k cd0).2=false->(ws.all fun p=>cokB p.1 p.2)=false):=fun e=>by
    rw [Bool.eq_false_iff]
    intro q
    have:=List.all_eq_true.1 q (ws.getD k cd0) (by simp [hlt])
    rw [this] at e
    cases e
   clear hc ck cl hd
   generalize ws.getD k cd0=s at *
   obtain ⟨x,y⟩:=s
   have P:=fun W=>specCodeOk_any x y W
   unfold codeV at P
   cases hx:cokB x y
   ·rw [hx] at P
    have N:Hid ((ws.all fun p=>cokB p.1 p.2)=false):=BAD.out hx
    clear NX BAD hx
    go_wp2_with fail
    refine (P _).mono ?_
    rintro e w1 ⟨rfl,hb1⟩
    have hbw1:=bel_after hbw hb1
    go_wp2
    go_ret
    exact ⟨wret_bool (by rw [OB.out,N.out]),hbw1⟩
   ·rw [hx] at P
    have N:Hid (∀ j,j<k+1->cokB (ws.getD j cd0).1 (ws.getD j cd0).2=true):=NX.out hx
    clear NX BAD hx
    go_wp2_with fail
    refine (P _).mono ?_
    rintro e w1 ⟨rfl,hb1⟩
    have hbw1:=bel_after hbw hb1
    go_wp2
    go_roundw
    case rel=>exact ⟨k+1,by omega,by go_num,N,hbw1⟩
    case measure=>simp [intOf];omega
  ·obtain rfl:k=ws.length:=by omega
   have G:Hid ((ws.all fun p=>cokB p.1 p.2)=true):=(by
    rw [List.all_eq_true]
    intro p hp
    obtain ⟨i,hi,e⟩:=List.getElem_of_mem hp
    have q:=hd.out i hi
    rw [show ws.getD i cd0=p from by simp [hi,e]] at q
    exact q:(ws.all fun p=>cokB p.1 p.2)=true)
   clear hd hc
   go_wp2
   go_ret
   exact ⟨wret_bool (by rw [OB.out,G.out]),hbw⟩
theorem parts_of {h:Hp} (hk:okC h=true) (hr:h.roots.length=2):∀ k,k<2->(kindW (h.roots.getD k 0)=2/\(h.roots.getD k 0) % 2=1/\refB h (h.roots.getD k 0)=true/\∃ a:Nat,h.roots.getD k 0=2 * (a:Int)+1/\a ∈ obC h/\a+4<=3200/\nx h.words a<=3200/\(0<=gw h.words a/\gw h.words a<=60)) ∨ (kindW (h.roots.getD k 0)=1/\(h.roots.getD k 0) % 2=0/\refB h (h.roots.getD k 0)=false):=by
 intro k hk2
 have RG:=c_right hk
 have hm:h.roots.getD k 0 ∈ h.roots:=by
  have:k<h.roots.length:=by omega
  simp [this]
 have hf:=RG.2.2.2.2.2.2.1 _ hm
 rcases el_cases h (.slice none 0 0) (h.roots.getD k 0) with ⟨_,n,q⟩|⟨_,_,n,k1⟩|⟨_,r,a,ha,ea,k2,_⟩
 ·exfalso
  have k1:=q hk
  rw [hk,Bool.and_true] at n
  unfold fitB at hf
  unfold refB at n
  rw [n,decide_eq_false k1] at hf
  cases hf
 ·refine .inr ⟨k1,?_,n⟩
  unfold kindW at k1
  split at k1
  ·split at k1 <;> omega
  ·omega
 ·have od:h.roots.getD k 0 % 2=1:=by
   unfold kindW at k2
   split at k2
   ·assumption
   ·split at k2 <;> omega
  obtain ⟨q1,q2,q3⟩:=RG.1.obj ha
  exact .inl ⟨k2,od,r,a,by omega,ha,q1,q2,size_of q3⟩
end Go.Proofs.YtgnbibinclepcaaGreatDoor
/- VmOk of the model. -/
namespace Go.Proofs.YtgnbibinclepcaaGreatDoor
open Go.RowKit
theorem and_f2 {a b:Bool} (h:b=false):(a && b)=false:=by rw [h];cases a <;> rfl
theorem stk_val {h:Hp} (hk:okC h=true) {a:Nat} (ha:a ∈ obC h) (g:gw h.words a=40) :
  (gw h.words (a+4) % 2=1->stkB (flds h.words a)=false) ∧
  (gw h.words (a+4) % 2=0->¬ (0<=gw h.words (a+4) / 2/\gw h.words (a+4) / 2<=39)->stkB (flds h.words a)=false) ∧
  (gw h.words (a+4) % 2=0->∀ m:Nat,gw h.words (a+4) / 2=m->m<=39->(∀ k,m+1<=k->k<40->gw h.words (a+4+k)=0)->stkB (flds h.words a)=true) ∧
  (gw h.words (a+4) % 2=0->∀ m:Nat,gw h.words (a+4) / 2=m->m<=39->∀ k,m+1<=k->k<40->gw h.words (a+4+k) ≠ 0->stkB (flds h.words a)=false):=by
 have RG:=c_right hk
 have F:=RG.2.2.2.2.2.2.2.1 a ha (a+4) (Nat.le_refl _) (by unfold nx;rw [g];show a+4<a+4+40;omega)
 have L:(flds h.words a).length=40:=by rw [flds_len,g];rfl
 have G:∀ i,i<40->(flds h.words a).getD i 0=gw h.words (a+4+i):=fun i hi=>flds_get _ _ _ (by rw [g];exact hi)
 have G0:(flds h.words a).getD 0 0=gw h.words (a+4):=by rw [G 0 (by omega)]
 have KE:gw h.words (a+4) % 2=0->isK 1 (gw h.words (a+4))=true/\valK 1 (gw h.words (a+4))=gw h.words (a+4) / 2:=fun e=>by
  have k1:kindW (gw h.words (a+4))=1:=by
   unfold fitB at F
   have n2:¬ kindW (gw h.words (a+4))=2:=by
    unfold kindW
    rw [if_neg (by omega)]
    split <;> omega
   rw [decide_eq_false n2] at F
   simpa using F
  exact ⟨by unfold isK;exact decide_eq_true k1,by unfold valK;rw [if_pos k1]⟩
 refine ⟨fun e=>?_,fun e n=>?_,fun e m hm m39 hz=>?_,fun e m hm m39 k k1 k2 hz=>?_⟩
 ·unfold stkB
  rw [G0,show isK 1 (gw h.words (a+4))=false from by
   unfold isK kindW
   rw [if_pos e]
   split <;> decide]
  rfl
 ·unfold stkB
  rw [G0,(KE e).2]
  by_cases h0:0<=gw h.words (a+4) / 2
  ·rw [decide_eq_false (by omega:¬ gw h.words (a+4) / 2<=39)]
   simp
  ·rw [decide_eq_false h0]
   simp
 ·unfold stkB
  rw [G0,(KE e).1,(KE e).2,hm,decide_eq_true (by omega:(0:Int)<=(m:Int)),decide_eq_true (by omega:(m:Int)<=39),Int.toNat_natCast]
  simp only [Bool.true_and]
  rw [List.all_eq_true]
  intro x hx
  obtain ⟨i,hi,rfl⟩:=List.getElem_of_mem hx
  rw [List.length_drop,L] at hi
  have q:=G (m+1+i) (by omega)
  rw [hz (m+1+i) (by omega) (by omega)] at q
  rw [List.getElem_drop]
  have q2:(flds h.words a)[m+1+i]'(by rw [L];omega)=0:=by
   rw [<- q,List.getD_eq_getElem?_getD,List.getElem?_eq_getElem]
   rfl
  rw [q2]
  rfl
 ·unfold stkB
  refine and_f2 (and_f2 (and_f2 ?_))
  rw [G0,(KE e).2,hm,Int.toNat_natCast,Bool.eq_false_iff]
  intro hall
  have q:=G k k2
  have hx:=List.all_eq_true.1 hall ((flds h.words a).getD k 0) (by
   have:(flds h.words a).getD k 0=((flds h.words a).drop (m+1))[k - (m+1)]'(by rw [List.length_drop,L];omega):=by
    rw [List.getElem_drop,List.getD_eq_getElem?_getD,List.getElem?_eq_getElem (by rw [L];exact k2)]
    show (flds h.words a)[k]=_
    congr 1
    omega
   rw [this]
   exact List.getElem_mem _)
  rw [q] at hx
  exact hz (by simpa using hx)
theorem fld_bnd {h:Hp} (hk:okC h=true) {a:Nat} (ha:a ∈ obC h) (g:gw h.words a=40) : -3000000000<=gw h.words (a+4)/\gw h.words (a+4)<=3000000000:=by
 have RG:=c_right hk
 have F:=RG.2.2.2.2.2.2.2.1 a ha (a+4) (Nat.le_refl _) (by unfold nx;rw [g];show a+4<a+4+40;omega)
 generalize gw h.words (a+4)=x at *
 unfold fitB kindW adrB numB at F
 by_cases o:x % 2=1
 ·rw [if_pos o] at F
  by_cases q:0<=x / 2/\x / 2<=3199
  ·omega
  ·rw [if_neg (by simpa using q)] at F
   simp at F
 ·rw [if_neg o] at F
  by_cases q : -1000000000<=x / 2/\x / 2<=1000000000
  ·omega
  ·rw [if_neg (by simpa using q)] at F
   simp at F
end Go.Proofs.YtgnbibinclepcaaGreatDoor
