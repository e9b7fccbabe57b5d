
import Derived.Test.YtgnbibinclepcaaGreatDoorZP4
import Derived.Test.YtgnbibinclepcaaGreatDoorZP5
import Derived.Test.YtgnbibinclepcaaGreatDoorZLfWalk
import Derived.Test.YtgnbibinclepcaaGreatDoorZKOk
set_option linter.unusedVariables false
set_option linter.unusedSimpArgs false
namespace Go.Proofs.YtgnbibinclepcaaGreatDoor
open Go.Conc Go.Proofs.YtgnbibinclepcaaGreatDoor.Lf Go.RowKit
def vmV (v1 v2 v3 vp vo:Value) (m:Mp):Array Value:=#[v1,v2,.int .i64 m.h.old,.int .i64 m.h.eden,.int .i64 m.h.surv,.bool m.h.flip,.int .i64 m.h.hash,v3,vp,.int .i64 m.pc,vo,.int .i64 m.st]
structure FX (W0:World) (C:Array Value) (w:World):Prop where
 below:Below W0.heap.size (W0.re w.tape 0) w
 box:Bk w W0.heap.size C 29
theorem FX.re {W0:World} {C:Array Value} {w:World} (h:FX W0 C w) (T:Nat->Question->Nat) (d:Nat):FX W0 C (w.re T d) :=
 ⟨⟨h.below.os,rfl,h.below.output,h.below.size,h.below.block⟩,h.box⟩
theorem FX.later {W0:World} {C:Array Value} {w w' : World} (h:FX W0 C w) (hb:Below w.heap.size w w'):FX W0 C w':=by
 refine ⟨⟨hb.os.trans h.below.os,rfl,hb.output.trans h.below.output,Nat.le_trans h.below.size hb.size,fun k hk=>(hb.block k (Nat.lt_of_lt_of_le hk h.below.size)).trans (h.below.block k hk)⟩,h.box.later hb⟩
section
variable (v1 v2 v3 vp vo : Value) (m : Mp) (W0 : World) (cs : List Frame) {S : Goroutine -> World -> Prop}
theorem enter8 (x:Value):Frame.enter Tryz.prog 8 #[x] .normal=b8.at ⟨#[x,undef,undef,undef,undef,undef,undef,undef,undef,undef,undef,undef,undef,undef,undef,undef,undef,undef,undef,undef,undef,undef,undef],[]⟩ [.code body8]:=by
 rw [enter_at (c:=body8) _ Tryz.func8 rfl]
 show (base 8).at { tmps:=#[x] ++ Array.replicate (23 - 1) undef,defers:=[] } _=_
 rw [show #[x] ++ Array.replicate (23 - 1) undef=#[x,undef,undef,undef,undef,undef,undef,undef,undef,undef,undef,undef,undef,undef,undef,undef,undef,undef,undef,undef,undef,undef,undef] by simp [Array.replicate_succ]]
 rfl
theorem FX.start (W0:World) (C:Array Value) (T:Nat->Question->Nat) (d:Nat):FX W0 C ((W0.re T d).alloc (.cells C 29)):=by
 have h:=Below.alloc (Below.refl W0.heap.size (W0.re T d)) (Nat.le_refl _) (.cells C 29)
 exact ⟨⟨h.os,rfl,h.output,h.size,h.block⟩,Bk.new (W0.re T d) C 29⟩
set_option maxHeartbeats 2000000 in
set_option maxRecDepth 100000 in
theorem frz_a (hB:Blind S) (hcs:∀ f ∈ cs,FitFrame f) (ok:Bool) (hV:∀ w,FX W0 (vmV v1 v2 v3 vp vo m) w->Calls Tryz.prog 34 #[.agg (vmV v1 v2 v3 vp vo m)] w fun e w'=>e=.returned (.bool ok)/\Below w.heap.size w w')
  (tx:ByteArray) (hI:ok=true->∀ w,FX W0 (vmV v1 v2 v3 vp vo m) w->Calls Tryz.prog 36 #[.agg (vmV v1 v2 v3 vp vo m)] w fun e w'=>e=.returned (.string tx)/\Below w.heap.size w w')
  (hno:ok=false->∀ (t:Array Value) (todo:List Item) w,FX W0 (vmV v1 v2 v3 vp vo m) w->t[2]?=some (.slice none 0 0)->t[3]?=some (.bool false)->S (G { b8.at ⟨t,[]⟩ todo with mode:=.returning } cs) w)
  (pieces:ok=true->∀ (y0 y1 y2 y3 y5 y6 y7 y8 y9 y10 y11 y12 y13 y14 y15 y16 y17 y18 y19 y20 y21 y22:Value) w,FX W0 (vmV v1 v2 v3 vp vo m) w->Fit (G (Frame.enter Tryz.prog 35 #[.string tx] .normal) (b8.at ⟨#[y0,y1,y2,y3,.slice none 0 0,y5,y6,y7,y8,y9,y10,y11,y12,y13,y14,y15,y16,y17,y18,y19,y20,y21,y22],[]⟩ [.inRegion ops4_8 [2],.code loop8,.code rest8]::cs))->Tree Tryz.prog S (G (Frame.enter Tryz.prog 35 #[.string tx] .normal) (b8.at ⟨#[y0,y1,y2,y3,.slice none 0 0,y5,y6,y7,y8,y9,y10,y11,y12,y13,y14,y15,y16,y17,y18,y19,y20,y21,y22],[]⟩ [.inRegion ops4_8 [2],.code loop8,.code rest8]::cs)) w) :
  Tree Tryz.prog S (G (Frame.enter Tryz.prog 8 #[.agg (vmV v1 v2 v3 vp vo m)] .normal) cs) W0:=by
 have hf:Fit (G (Frame.enter Tryz.prog 8 #[.agg (vmV v1 v2 v3 vp vo m)] .normal) cs):=⟨fit_enter _ _ _,hcs⟩
 rw [enter8] at hf ⊢
 simp only [vmV] at hV hI hno pieces
 simp only [ops4_8,loop8,rest8,R8,body8,Tryz.f8,Option.getD_some] at pieces
 simp only [vmV,body8,Tryz.f8,Option.getD_some] at hf ⊢
 (first
  | refine tree_ctl Tryz.cf hB (run_G _ _) hf (fun _=>stepG_seq) (run_G _ _) (fun hfn=>?_)
  | refine tree_ctl Tryz.cf hB (run_G _ _) hf (fun _=>stepG_skip) (run_G _ _) (fun hfn=>?_)
  | refine tree_ctl Tryz.cf hB (run_G _ _) hf (fun _=>stepG_block) (run_G _ _) (fun hfn=>?_)
  | refine tree_ctl Tryz.cf hB (run_G _ _) hf (fun _=>stepG_loop) (run_G _ _) (fun hfn=>?_)
  | refine tree_ctl Tryz.cf hB (run_G _ _) hf (fun _=>stepG_inLoop) (run_G _ _) (fun hfn=>?_)
  | refine tree_ctl Tryz.cf hB (run_G _ _) hf (fun _=>stepG_inBlock) (run_G _ _) (fun hfn=>?_)
  | refine tree_ctl Tryz.cf hB (run_G _ _) hf (fun _=>stepG_region_end) (run_G _ _) (fun hfn=>?_)
  | refine tree_ctl Tryz.cf hB (run_G _ _) hf (fun _=>stepG_ret') (run_G _ _) (fun hfn=>?_)
  | refine tree_ctl Tryz.cf hB (run_G _ _) hf (fun _=>stepG_region) (run_G _ _) (fun hfn=>?_))
 try simp only [List.size_toArray,List.length_cons,List.length_nil,Nat.reduceAdd,Nat.zero_add,List.range,List.range.loop] at hfn ⊢
 clear hf
 have hf:=hfn
 clear hfn
 (first
  | refine tree_ctl Tryz.cf hB (run_G _ _) hf (fun _=>stepG_seq) (run_G _ _) (fun hfn=>?_)
  | refine tree_ctl Tryz.cf hB (run_G _ _) hf (fun _=>stepG_skip) (run_G _ _) (fun hfn=>?_)
  | refine tree_ctl Tryz.cf hB (run_G _ _) hf (fun _=>stepG_block) (run_G _ _) (fun hfn=>?_)
  | refine tree_ctl Tryz.cf hB (run_G _ _) hf (fun _=>stepG_loop) (run_G _ _) (fun hfn=>?_)
  | refine tree_ctl Tryz.cf hB (run_G _ _) hf (fun _=>stepG_inLoop) (run_G _ _) (fun hfn=>?_)
  | refine tree_ctl Tryz.cf hB (run_G _ _) hf (fun _=>stepG_inBlock) (run_G _ _) (fun hfn=>?_)
  | refine tree_ctl Tryz.cf hB (run_G _ _) hf (fun _=>stepG_region_end) (run_G _ _) (fun hfn=>?_)
  | refine tree_ctl Tryz.cf hB (run_G _ _) hf (fun _=>stepG_ret') (run_G _ _) (fun hfn=>?_)
  | refine tree_ctl Tryz.cf hB (run_G _ _) hf (fun _=>stepG_region) (run_G _ _) (fun hfn=>?_))
 try simp only [List.size_toArray,List.length_cons,List.length_nil,Nat.reduceAdd,Nat.zero_add,List.range,List.range.loop] at hfn ⊢
 clear hf
 have hf:=hfn
 clear hfn
 -- the box
 refine tree_oper_k Tryz.cf hf rfl rfl (by decide) (fun T d K hK=>?_)
 clear hf
 go_simp
 refine hK _ _ (fun hf=>?_)
 clear hK K
 have hX:=FX.start W0 (vmV v1 v2 v3 vp vo m) T d
 simp only [vmV] at hX
 generalize (W0.re T d).alloc _=w at hX ⊢
 repeat (first
  | (
    (first
     | refine tree_ctl Tryz.cf hB (run_G _ _) hf (fun _=>stepG_seq) (run_G _ _) (fun hfn=>?_)
     | refine tree_ctl Tryz.cf hB (run_G _ _) hf (fun _=>stepG_skip) (run_G _ _) (fun hfn=>?_)
     | refine tree_ctl Tryz.cf hB (run_G _ _) hf (fun _=>stepG_block) (run_G _ _) (fun hfn=>?_)
     | refine tree_ctl Tryz.cf hB (run_G _ _) hf (fun _=>stepG_loop) (run_G _ _) (fun hfn=>?_)
     | refine tree_ctl Tryz.cf hB (run_G _ _) hf (fun _=>stepG_inLoop) (run_G _ _) (fun hfn=>?_)
     | refine tree_ctl Tryz.cf hB (run_G _ _) hf (fun _=>stepG_inBlock) (run_G _ _) (fun hfn=>?_)
     | refine tree_ctl Tryz.cf hB (run_G _ _) hf (fun _=>stepG_region_end) (run_G _ _) (fun hfn=>?_)
     | refine tree_ctl Tryz.cf hB (run_G _ _) hf (fun _=>stepG_ret') (run_G _ _) (fun hfn=>?_)
     | refine tree_ctl Tryz.cf hB (run_G _ _) hf (fun _=>stepG_region) (run_G _ _) (fun hfn=>?_))
    try simp only [List.size_toArray,List.length_cons,List.length_nil,Nat.reduceAdd,Nat.zero_add,List.range,List.range.loop] at hfn ⊢
    clear hf
    have hf:=hfn
    clear hfn)
  | (
    refine tree_oper_k Tryz.cf hf rfl rfl (by decide) (fun T d K hK=>?_)
    replace hX:=FX.re hX T d
    generalize World.re _ T d=w at hX hK ⊢
    have x0:=hX.box.cell 0 _ rfl
    have x1:=hX.box.cell 1 _ rfl
    have x2:=hX.box.cell 2 _ rfl
    have x3:=hX.box.cell 3 _ rfl
    have x4:=hX.box.cell 4 _ rfl
    have x5:=hX.box.cell 5 _ rfl
    have x6:=hX.box.cell 6 _ rfl
    have x7:=hX.box.cell 7 _ rfl
    have x8:=hX.box.cell 8 _ rfl
    have x9:=hX.box.cell 9 _ rfl
    have Bg:=hX.box.cell 10 _ rfl
    have Bh:=hX.box.cell 11 _ rfl
    clear hf
    go_simp
    refine hK _ _ (fun hf=>?_)
    clear hK K x0 x1 x2 x3 x4 x5 x6 x7 x8 x9 Bg Bh))
 -- VmOk
 refine tree_call_k Tryz.cf hB (fun w0 e w'=>e=.returned (.bool ok)/\Below w0.heap.size w0 w') hf rfl rfl (by decide) (fun T d=>by go_simp) (fun T=>hV _ (hX.re T 0)) (fun _ _ _ h=>⟨_,h.1⟩) fun T v w1 hr hfn=>?_
 clear hf
 have hf:=hfn
 clear hfn
 obtain ⟨hv,hb⟩:=hr
 cases hv
 replace hX:=(hX.re T 0).later hb
 clear hb
 repeat (first
  | (
    (first
     | refine tree_ctl Tryz.cf hB (run_G _ _) hf (fun _=>stepG_seq) (run_G _ _) (fun hfn=>?_)
     | refine tree_ctl Tryz.cf hB (run_G _ _) hf (fun _=>stepG_skip) (run_G _ _) (fun hfn=>?_)
     | refine tree_ctl Tryz.cf hB (run_G _ _) hf (fun _=>stepG_block) (run_G _ _) (fun hfn=>?_)
     | refine tree_ctl Tryz.cf hB (run_G _ _) hf (fun _=>stepG_loop) (run_G _ _) (fun hfn=>?_)
     | refine tree_ctl Tryz.cf hB (run_G _ _) hf (fun _=>stepG_inLoop) (run_G _ _) (fun hfn=>?_)
     | refine tree_ctl Tryz.cf hB (run_G _ _) hf (fun _=>stepG_inBlock) (run_G _ _) (fun hfn=>?_)
     | refine tree_ctl Tryz.cf hB (run_G _ _) hf (fun _=>stepG_region_end) (run_G _ _) (fun hfn=>?_)
     | refine tree_ctl Tryz.cf hB (run_G _ _) hf (fun _=>stepG_ret') (run_G _ _) (fun hfn=>?_)
     | refine tree_ctl Tryz.cf hB (run_G _ _) hf (fun _=>stepG_region) (run_G _ _) (fun hfn=>?_))
    try simp only [List.size_toArray,List.length_cons,List.length_nil,Nat.reduceAdd,Nat.zero_add,List.range,List.range.loop] at hfn ⊢
    clear hf
    have hf:=hfn
    clear hfn)
  | (
    refine tree_oper_k Tryz.cf hf rfl rfl (by decide) (fun T d K hK=>?_)
    replace hX:=FX.re hX T d
    generalize World.re _ T d=w at hX hK ⊢
    have x0:=hX.box.cell 0 _ rfl
    have x1:=hX.box.cell 1 _ rfl
    have x2:=hX.box.cell 2 _ rfl
    have x3:=hX.box.cell 3 _ rfl
    have x4:=hX.box.cell 4 _ rfl
    have x5:=hX.box.cell 5 _ rfl
    have x6:=hX.box.cell 6 _ rfl
    have x7:=hX.box.cell 7 _ rfl
    have x8:=hX.box.cell 8 _ rfl
    have x9:=hX.box.cell 9 _ rfl
    have Bg:=hX.box.cell 10 _ rfl
    have Bh:=hX.box.cell 11 _ rfl
    clear hf
    go_simp
    refine hK _ _ (fun hf=>?_)
    clear hK K x0 x1 x2 x3 x4 x5 x6 x7 x8 x9 Bg Bh))
 cases ok with
 | false =>
  refine tree_ctl Tryz.cf hB (run_G _ _) hf (fun _=>stepG_cond (t:=true) rfl) (run_G _ _) (fun hfn=>?_)
  clear hf
  simp only [if_true] at hfn ⊢
  have hf:=hfn
  clear hfn
  repeat (first
   | (
     (first
      | refine tree_ctl Tryz.cf hB (run_G _ _) hf (fun _=>stepG_seq) (run_G _ _) (fun hfn=>?_)
      | refine tree_ctl Tryz.cf hB (run_G _ _) hf (fun _=>stepG_skip) (run_G _ _) (fun hfn=>?_)
      | refine tree_ctl Tryz.cf hB (run_G _ _) hf (fun _=>stepG_block) (run_G _ _) (fun hfn=>?_)
      | refine tree_ctl Tryz.cf hB (run_G _ _) hf (fun _=>stepG_loop) (run_G _ _) (fun hfn=>?_)
      | refine tree_ctl Tryz.cf hB (run_G _ _) hf (fun _=>stepG_inLoop) (run_G _ _) (fun hfn=>?_)
      | refine tree_ctl Tryz.cf hB (run_G _ _) hf (fun _=>stepG_inBlock) (run_G _ _) (fun hfn=>?_)
      | refine tree_ctl Tryz.cf hB (run_G _ _) hf (fun _=>stepG_region_end) (run_G _ _) (fun hfn=>?_)
      | refine tree_ctl Tryz.cf hB (run_G _ _) hf (fun _=>stepG_ret') (run_G _ _) (fun hfn=>?_)
      | refine tree_ctl Tryz.cf hB (run_G _ _) hf (fun _=>stepG_region) (run_G _ _) (fun hfn=>?_))
     try simp only [List.size_toArray,List.length_cons,List.length_nil,Nat.reduceAdd,Nat.zero_add,List.range,List.range.loop] at hfn ⊢
     clear hf
     have hf:=hfn
     clear hfn)
   | (
     refine tree_oper_k Tryz.cf hf rfl rfl (by decide) (fun T d K hK=>?_)
     replace hX:=FX.re hX T d
     generalize World.re _ T d=w at hX hK ⊢
     have x0:=hX.box.cell 0 _ rfl
     have x1:=hX.box.cell 1 _ rfl
     have x2:=hX.box.cell 2 _ rfl
     have x3:=hX.box.cell 3 _ rfl
     have x4:=hX.box.cell 4 _ rfl
     have x5:=hX.box.cell 5 _ rfl
     have x6:=hX.box.cell 6 _ rfl
     have x7:=hX.box.cell 7 _ rfl
     have x8:=hX.box.cell 8 _ rfl
     have x9:=hX.box.cell 9 _ rfl
     have Bg:=hX.box.cell 10 _ rfl
     have Bh:=hX.box.cell 11 _ rfl
     clear hf
     go_simp
     refine hK _ _ (fun hf=>?_)
     clear hK K x0 x1 x2 x3 x4 x5 x6 x7 x8 x9 Bg Bh))
  exact .stop (hno rfl _ _ _ hX rfl rfl)
 | true =>
  refine tree_ctl Tryz.cf hB (run_G _ _) hf (fun _=>stepG_cond (t:=false) rfl) (run_G _ _) (fun hfn=>?_)
  clear hf
  simp only [Bool.false_eq_true,if_false] at hfn ⊢
  have hf:=hfn
  clear hfn
  repeat (first
   | (
     (first
      | refine tree_ctl Tryz.cf hB (run_G _ _) hf (fun _=>stepG_seq) (run_G _ _) (fun hfn=>?_)
      | refine tree_ctl Tryz.cf hB (run_G _ _) hf (fun _=>stepG_skip) (run_G _ _) (fun hfn=>?_)
      | refine tree_ctl Tryz.cf hB (run_G _ _) hf (fun _=>stepG_block) (run_G _ _) (fun hfn=>?_)
      | refine tree_ctl Tryz.cf hB (run_G _ _) hf (fun _=>stepG_loop) (run_G _ _) (fun hfn=>?_)
      | refine tree_ctl Tryz.cf hB (run_G _ _) hf (fun _=>stepG_inLoop) (run_G _ _) (fun hfn=>?_)
      | refine tree_ctl Tryz.cf hB (run_G _ _) hf (fun _=>stepG_inBlock) (run_G _ _) (fun hfn=>?_)
      | refine tree_ctl Tryz.cf hB (run_G _ _) hf (fun _=>stepG_region_end) (run_G _ _) (fun hfn=>?_)
      | refine tree_ctl Tryz.cf hB (run_G _ _) hf (fun _=>stepG_ret') (run_G _ _) (fun hfn=>?_)
      | refine tree_ctl Tryz.cf hB (run_G _ _) hf (fun _=>stepG_region) (run_G _ _) (fun hfn=>?_))
     try simp only [List.size_toArray,List.length_cons,List.length_nil,Nat.reduceAdd,Nat.zero_add,List.range,List.range.loop] at hfn ⊢
     clear hf
     have hf:=hfn
     clear hfn)
   | (
     refine tree_oper_k Tryz.cf hf rfl rfl (by decide) (fun T d K hK=>?_)
     replace hX:=FX.re hX T d
     generalize World.re _ T d=w at hX hK ⊢
     have x0:=hX.box.cell 0 _ rfl
     have x1:=hX.box.cell 1 _ rfl
     have x2:=hX.box.cell 2 _ rfl
     have x3:=hX.box.cell 3 _ rfl
     have x4:=hX.box.cell 4 _ rfl
     have x5:=hX.box.cell 5 _ rfl
     have x6:=hX.box.cell 6 _ rfl
     have x7:=hX.box.cell 7 _ rfl
     have x8:=hX.box.cell 8 _ rfl
     have x9:=hX.box.cell 9 _ rfl
     have Bg:=hX.box.cell 10 _ rfl
     have Bh:=hX.box.cell 11 _ rfl
     clear hf
     go_simp
     refine hK _ _ (fun hf=>?_)
     clear hK K x0 x1 x2 x3 x4 x5 x6 x7 x8 x9 Bg Bh))
  -- imageText
  refine tree_call_k Tryz.cf hB (fun w0 e w'=>e=.returned (.string tx)/\Below w0.heap.size w0 w') hf rfl rfl (by decide) (fun T d=>by go_simp) (fun T=>hI rfl _ (hX.re T 0)) (fun _ _ _ h=>⟨_,h.1⟩) fun T v w1 hr hfn=>?_
  clear hf
  have hf:=hfn
  clear hfn
  obtain ⟨hv,hb⟩:=hr
  cases hv
  replace hX:=(hX.re T 0).later hb
  clear hb
  -- piecesOf is entered
  refine tree_go Tryz.cf (run_G _ _) hf fun T d=>⟨_,_,_,stepG_enter (f:=35) (args:=#[.string tx]) (w':=w1.re T d) rfl rfl (by decide) (by go_simp),run_G _ _,fun hfn=>?_⟩
  clear hf
  have hf:=hfn
  clear hfn
  replace hX:=hX.re T d
  generalize w1.re T d=w at hX ⊢
  clear w1
  exact pieces rfl _ _ _ _ _ _ _ _ _ _ _ _ _ _ _ _ _ _ _ _ _ _ _ hX hf
end
end Go.Proofs.YtgnbibinclepcaaGreatDoor
