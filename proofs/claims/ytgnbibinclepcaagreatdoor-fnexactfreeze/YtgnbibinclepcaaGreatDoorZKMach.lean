import Derived.Test.YtgnbibinclepcaaGreatDoorZP18
import Derived.Test.YtgnbibinclepcaaGreatDoorZP13
import Derived.Test.YtgnbibinclepcaaGreatDoorZP15
namespace Go.Proofs.YtgnbibinclepcaaGreatDoor
open Go.RowKit
theorem RC.of_cells {w:World} {g:Nat} {l:List Cd} {cs:Array Value} (hg:w.heap[g]?=some (.cells cs 70 (0,0))) (hs:cs.size=l.length * 2) (hc:∀ c,c<l.length * 2->cs[c]?=some (kcell l c)):RC w g l :=
 ⟨cs,hg,hs,fun c h=>hc c h⟩
theorem kcells_get (l:List Cd) (c:Nat) (h:c<l.length * 2):((List.range (l.length * 2)).map (kcell l))[c]?=some (kcell l c):=by simp [h]
theorem copy_codes {ops:Array Oper} {rest:List Oper} {o:Oper} {a:Act} {Q:Exit->Act->World->Prop} (w:World) (hgd:o.guard=none) (d s:Operand)
  (ho:o.op=.call { callee:=.builtin .copy,args:=#[d,s],argTypes:=#[27,27] })
  (l:List Cd) (g:Nat) (cur:Array Value) (hg:w.heap[g]?=some (.cells cur 70 (0,0))) (hcur:cur.size=l.length * 2) (dCap:Nat) (hd:a.eval d=.slice (some ⟨g,0,none⟩) l.length dCap)
  (sp:Option Addr) (sCap:Nat) (hs:a.eval s=.slice sp l.length sCap) (hsv:CR w (.slice sp l.length sCap) l)
  (h:∀ w',RC w' g l->w.grownBy w' (some g)->wpList Tryz.prog ops Q rest (a.put o.dst (goInt l.length)) w'):wpList Tryz.prog ops Q (o::rest) a w:=by
 have hsz:(Tryz.prog.info? 70).map (·.size)=some 2:=by kernel_rfl
 obtain ⟨x,cp,e1,_,hc⟩:=hsv
 simp only [Value.slice.injEq,true_and] at e1
 obtain ⟨rfl,rfl⟩:=e1
 by_cases h0:l.length=0
 ·have hrun:=run_copy_none2 (P:=Tryz.prog) w 27 27 o.type 70 (some ⟨g,0,none⟩) sp l.length dCap sCap Tryz.underCK hsz h0
  refine wpList_plain hgd fun K hK=>?_
  unfold Oper.wp
  rw [h0] at hs hd hrun
  simp [execOp,ho,resolve,invoke,builtin,hd,hs,hrun,Result.andThen]
  refine hK _ _ ?_
  have q:=h w (RC.of_cells hg hcur (fun c hcx=>absurd hcx (by omega))) ⟨rfl,rfl,rfl,Nat.le_refl _,fun _ _ _=>rfl⟩
  rw [h0] at q
  exact q
 ·obtain ⟨b,q,rfl,_,_⟩:=hc 0 (by omega)
  have hrun:=run_copy_row2 (P:=Tryz.prog) w 27 27 o.type 70 g 0 l.length dCap ⟨b,q,none⟩ l.length sCap cur 70 ((List.range (l.length * 2)).map (kcell l)) Tryz.underCK hsz hg (by simp) (fun j v hj=>by
   have hj2:j<l.length * 2:=by
    rcases Nat.lt_or_ge j (l.length * 2) with k|k
    ·exact k
    ·rw [List.getElem?_eq_none (by simp;omega)] at hj;cases hj
   rw [kcells_get l j hj2] at hj
   simp only [Option.some.injEq] at hj
   subst hj
   obtain ⟨b',q',e2,hx,hy⟩:=hc (j / 2) (by omega)
   simp only [Option.some.injEq,Addr.mk.injEq,and_true] at e2
   obtain ⟨rfl,rfl⟩:=e2
   have ad:(⟨b,q,none⟩:Addr).add j=⟨b,q+j,none⟩:=by
    unfold Addr.add
    split
    ·subst j;rfl
    ·rfl
   rw [ad]
   unfold kcell
   split
   ·rw [<- hx,show q+j / 2 * 2=q+j from by omega]
   ·rw [<- hy,show q+j / 2 * 2+1=q+j from by omega]) (by simp [hcur]) (fun v hv=>by
   obtain ⟨z,_,rfl⟩:=List.mem_map.1 hv
   rfl)
  refine wpList_plain hgd fun K hK=>?_
  rw [show l.length.min l.length=l.length from Nat.min_self _] at hrun
  unfold Oper.wp
  simp [execOp,ho,resolve,invoke,builtin,hd,hs,hrun,Result.andThen]
  refine hK _ _ (h _ (RC.of_cells (setRow_heap w g cur _ _ _ hg) ?_ ?_) (grown_setRow w g _))
  ·simp [hcur]
  ·intro c hcx
   simp [hcur,hcx]
set_option maxHeartbeats 800000 in
theorem copyCodes_any (v:Value) (l:List Cd) (w:World) (hv:CR w v l) (h1:l.length<=1000000000000) :
  Calls Tryz.prog 41 #[v] w fun x w'=>(x=.returned (.slice (some ⟨w.heap.size,0,none⟩) l.length l.length)/\RC w' w.heap.size l/\w.heap.size<w'.heap.size)/\Below w.heap.size w w':=by
 obtain ⟨ao,cap,rfl,hle,hc⟩:=id hv
 have hmk:=makeC l.length h1
 have hb0:=bel_one w (.cells (madeCells #[.int .i64 0,.int .i64 0] (l.length * 2)) 70)
 have hv0:=hv.later hb0
 have hg:(w.alloc (.cells (madeCells #[.int .i64 0,.int .i64 0] (l.length * 2)) 70)).heap[w.heap.size]?=some (.cells (madeCells #[.int .i64 0,.int .i64 0] (l.length * 2)) 70 (0,0)):=Bk.new w _ _
 have hsz:(madeCells #[.int .i64 0,.int .i64 0] (l.length * 2)).size=l.length * 2:=size_madeCells _ _
 clear hv hc
 go_enter Tryz.func41,Tryz.ntmps41
 go_wp2_with (refine copy_codes _ rfl _ _ rfl l w.heap.size _ hg hsz l.length rfl ao cap rfl hv0 ?_;intro w1 R1 g1)
 have hb1:Below w.heap.size w w1:=Below.grown hb0 g1 (by simp) (fun k hk=>by cases hk;exact Nat.le_refl _)
 have lt:=R1.lt
 go_ret
 exact ⟨⟨rfl,R1,lt⟩,hb1⟩
def MkM (h:Hp) (pr:List Cd) (pc:Int) (ot:List Int) (st:Int) (B:Nat) (e:Ending) (w' : World):Prop :=
 (okM h pr pc ot st=true/\∃ g1 g2 g3 P O oa oc,e=.returned (.tuple #[.agg #[.slice (some ⟨g1,0,none⟩) h.words.length h.words.length,.slice oa (obC h).length oc,.slice (some ⟨g2,0,none⟩) h.roots.length h.roots.length,.int .i64 h.old,.int .i64 h.eden,.int .i64 h.surv,.bool h.flip,.int .i64 h.hash,.slice (some ⟨g3,0,none⟩) h.kept.length h.kept.length,.slice (some ⟨P,0,none⟩) pr.length pr.length,.int .i64 pc,.slice (some ⟨O,0,none⟩) ot.length ot.length,.int .i64 st],.bool (partsB h)])/\RI w' O ot ot.length/\B<=O) ∨
 (okM h pr pc ot st=false/\e=.returned (.tuple #[.agg #[.slice none 0 0,.slice none 0 0,.slice none 0 0,.int .i64 0,.int .i64 0,.int .i64 0,.bool false,.int .i64 0,.slice none 0 0,.slice none 0 0,.int .i64 0,.slice none 0 0,.int .i64 0],.bool false]))
set_option maxRecDepth 100000 in
set_option maxHeartbeats 6400000 in
theorem machineOf_any (v1 v2 v3 vp vo:Value) (h:Hp) (pr:List Cd) (pc:Int) (ot:List Int) (st:Int) (w:World) (i1:IR w v1 h.words) (i2:IR w v2 h.roots) (i3:IR w v3 h.kept) (ip:CR w vp pr) (io0:IR w vo ot)
  (hwo:h.words.length<=1000000000) (hro:h.roots.length<=1000000000) (hke:h.kept.length<=1000000000) (hp2:pr.length<=1000000000) (ho2:ot.length<=1000000000) :
  Calls Tryz.prog 75 #[.agg #[v1,v2,.int .i64 h.old,.int .i64 h.eden,.int .i64 h.surv,.bool h.flip,.int .i64 h.hash,v3,vp,.int .i64 pc,vo,.int .i64 st]] w fun e w'=>MkM h pr pc ot st w.heap.size e w' /\ Below w.heap.size w w':=by
 obtain ⟨a1,c1,rfl,-⟩:=IRs i1
 obtain ⟨a2,c2,rfl,-⟩:=IRs i2
 obtain ⟨a3,c3,rfl,-⟩:=IRs i3
 obtain ⟨ap,cp,rfl,-⟩:=CRs ip
 obtain ⟨ao,co,rfl,-⟩:=IRs io0
 have hb0:Below w.heap.size w ((w.alloc (.cells #[.slice a1 h.words.length c1,.slice a2 h.roots.length c2,.int .i64 h.old,.int .i64 h.eden,.int .i64 h.surv,.bool h.flip,.int .i64 h.hash,.slice a3 h.kept.length c3,.slice ap pr.length cp,.int .i64 pc,.slice ao ot.length co,.int .i64 st] 29)).alloc (.cells #[.slice none 0 0,.slice none 0 0,.slice none 0 0,.int .i64 0,.int .i64 0,.int .i64 0,.bool false,.int .i64 0,.slice none 0 0,.slice none 0 0,.int .i64 0,.slice none 0 0,.int .i64 0] 110)):=bel_after (bel_one _ _) (bel_one _ _)
 obtain ⟨f,R0⟩:∃ f,((w.alloc (.cells #[.slice a1 h.words.length c1,.slice a2 h.roots.length c2,.int .i64 h.old,.int .i64 h.eden,.int .i64 h.surv,.bool h.flip,.int .i64 h.hash,.slice a3 h.kept.length c3,.slice ap pr.length cp,.int .i64 pc,.slice ao ot.length co,.int .i64 st] 29)).alloc (.cells #[.slice none 0 0,.slice none 0 0,.slice none 0 0,.int .i64 0,.int .i64 0,.int .i64 0,.bool false,.int .i64 0,.slice none 0 0,.slice none 0 0,.int .i64 0,.slice none 0 0,.int .i64 0] 110)).rowIs (w.heap.size+1) 110 13 f:=by
  have q:=row_any (w.alloc (.cells #[.slice a1 h.words.length c1,.slice a2 h.roots.length c2,.int .i64 h.old,.int .i64 h.eden,.int .i64 h.surv,.bool h.flip,.int .i64 h.hash,.slice a3 h.kept.length c3,.slice ap pr.length cp,.int .i64 pc,.slice ao ot.length co,.int .i64 st] 29)) #[.slice none 0 0,.slice none 0 0,.slice none 0 0,.int .i64 0,.int .i64 0,.int .i64 0,.bool false,.int .i64 0,.slice none 0 0,.slice none 0 0,.int .i64 0,.slice none 0 0,.int .i64 0] 110
  rw [World.size_alloc] at q
  exact ⟨_,q⟩
 have X0:((w.alloc (.cells #[.slice a1 h.words.length c1,.slice a2 h.roots.length c2,.int .i64 h.old,.int .i64 h.eden,.int .i64 h.surv,.bool h.flip,.int .i64 h.hash,.slice a3 h.kept.length c3,.slice ap pr.length cp,.int .i64 pc,.slice ao ot.length co,.int .i64 st] 29)).alloc (.cells #[.slice none 0 0,.slice none 0 0,.slice none 0 0,.int .i64 0,.int .i64 0,.int .i64 0,.bool false,.int .i64 0,.slice none 0 0,.slice none 0 0,.int .i64 0,.slice none 0 0,.int .i64 0] 110)).rowIs w.heap.size 29 12 (fun i=>(#[.slice a1 h.words.length c1,.slice a2 h.roots.length c2,.int .i64 h.old,.int .i64 h.eden,.int .i64 h.surv,.bool h.flip,.int .i64 h.hash,.slice a3 h.kept.length c3,.slice ap pr.length cp,.int .i64 pc,.slice ao ot.length co,.int .i64 st])[i]?.getD undef):=(row_any w #[.slice a1 h.words.length c1,.slice a2 h.roots.length c2,.int .i64 h.old,.int .i64 h.eden,.int .i64 h.surv,.bool h.flip,.int .i64 h.hash,.slice a3 h.kept.length c3,.slice ap pr.length cp,.int .i64 pc,.slice ao ot.length co,.int .i64 st] 29).of_block ((bel_one _ _).block _ (by simp))
 have HVH:HR ((w.alloc (.cells #[.slice a1 h.words.length c1,.slice a2 h.roots.length c2,.int .i64 h.old,.int .i64 h.eden,.int .i64 h.surv,.bool h.flip,.int .i64 h.hash,.slice a3 h.kept.length c3,.slice ap pr.length cp,.int .i64 pc,.slice ao ot.length co,.int .i64 st] 29)).alloc (.cells #[.slice none 0 0,.slice none 0 0,.slice none 0 0,.int .i64 0,.int .i64 0,.int .i64 0,.bool false,.int .i64 0,.slice none 0 0,.slice none 0 0,.int .i64 0,.slice none 0 0,.int .i64 0] 110)) (.agg #[.slice a1 h.words.length c1,.slice a2 h.roots.length c2,.int .i64 h.old,.int .i64 h.eden,.int .i64 h.surv,.bool h.flip,.int .i64 h.hash,.slice a3 h.kept.length c3]) h:=⟨_,_,_,rfl,i1.later hb0,i2.later hb0,i3.later hb0⟩
 have C:=draftOf_c2 _ h _ HVH (by omega) (by omega) (by omega)
 have HPR:∀ W,Below w.heap.size w W->CR W (.slice ap pr.length cp) pr:=fun W hb=>ip.later hb
 have HOT:∀ W,Below w.heap.size w W->IR W (.slice ao ot.length co) ot:=fun W hb=>io0.later hb
 clear i1 i2 i3 ip io0 HVH
 have x0:(((w.alloc (.cells #[.slice a1 h.words.length c1,.slice a2 h.roots.length c2,.int .i64 h.old,.int .i64 h.eden,.int .i64 h.surv,.bool h.flip,.int .i64 h.hash,.slice a3 h.kept.length c3,.slice ap pr.length cp,.int .i64 pc,.slice ao ot.length co,.int .i64 st] 29)).alloc (.cells #[.slice none 0 0,.slice none 0 0,.slice none 0 0,.int .i64 0,.int .i64 0,.int .i64 0,.bool false,.int .i64 0,.slice none 0 0,.slice none 0 0,.int .i64 0,.slice none 0 0,.int .i64 0] 110))).cell? ⟨w.heap.size,0,none⟩=some (.slice a1 h.words.length c1):=X0.cell (i:=0) (by omega)
 have x1:(((w.alloc (.cells #[.slice a1 h.words.length c1,.slice a2 h.roots.length c2,.int .i64 h.old,.int .i64 h.eden,.int .i64 h.surv,.bool h.flip,.int .i64 h.hash,.slice a3 h.kept.length c3,.slice ap pr.length cp,.int .i64 pc,.slice ao ot.length co,.int .i64 st] 29)).alloc (.cells #[.slice none 0 0,.slice none 0 0,.slice none 0 0,.int .i64 0,.int .i64 0,.int .i64 0,.bool false,.int .i64 0,.slice none 0 0,.slice none 0 0,.int .i64 0,.slice none 0 0,.int .i64 0] 110))).cell? ⟨w.heap.size,1,none⟩=some (.slice a2 h.roots.length c2):=X0.cell (i:=1) (by omega)
 have x2:(((w.alloc (.cells #[.slice a1 h.words.length c1,.slice a2 h.roots.length c2,.int .i64 h.old,.int .i64 h.eden,.int .i64 h.surv,.bool h.flip,.int .i64 h.hash,.slice a3 h.kept.length c3,.slice ap pr.length cp,.int .i64 pc,.slice ao ot.length co,.int .i64 st] 29)).alloc (.cells #[.slice none 0 0,.slice none 0 0,.slice none 0 0,.int .i64 0,.int .i64 0,.int .i64 0,.bool false,.int .i64 0,.slice none 0 0,.slice none 0 0,.int .i64 0,.slice none 0 0,.int .i64 0] 110))).cell? ⟨w.heap.size,2,none⟩=some (.int .i64 h.old):=X0.cell (i:=2) (by omega)
 have x3:(((w.alloc (.cells #[.slice a1 h.words.length c1,.slice a2 h.roots.length c2,.int .i64 h.old,.int .i64 h.eden,.int .i64 h.surv,.bool h.flip,.int .i64 h.hash,.slice a3 h.kept.length c3,.slice ap pr.length cp,.int .i64 pc,.slice ao ot.length co,.int .i64 st] 29)).alloc (.cells #[.slice none 0 0,.slice none 0 0,.slice none 0 0,.int .i64 0,.int .i64 0,.int .i64 0,.bool false,.int .i64 0,.slice none 0 0,.slice none 0 0,.int .i64 0,.slice none 0 0,.int .i64 0] 110))).cell? ⟨w.heap.size,3,none⟩=some (.int .i64 h.eden):=X0.cell (i:=3) (by omega)
 have x4:(((w.alloc (.cells #[.slice a1 h.words.length c1,.slice a2 h.roots.length c2,.int .i64 h.old,.int .i64 h.eden,.int .i64 h.surv,.bool h.flip,.int .i64 h.hash,.slice a3 h.kept.length c3,.slice ap pr.length cp,.int .i64 pc,.slice ao ot.length co,.int .i64 st] 29)).alloc (.cells #[.slice none 0 0,.slice none 0 0,.slice none 0 0,.int .i64 0,.int .i64 0,.int .i64 0,.bool false,.int .i64 0,.slice none 0 0,.slice none 0 0,.int .i64 0,.slice none 0 0,.int .i64 0] 110))).cell? ⟨w.heap.size,4,none⟩=some (.int .i64 h.surv):=X0.cell (i:=4) (by omega)
 have x5:(((w.alloc (.cells #[.slice a1 h.words.length c1,.slice a2 h.roots.length c2,.int .i64 h.old,.int .i64 h.eden,.int .i64 h.surv,.bool h.flip,.int .i64 h.hash,.slice a3 h.kept.length c3,.slice ap pr.length cp,.int .i64 pc,.slice ao ot.length co,.int .i64 st] 29)).alloc (.cells #[.slice none 0 0,.slice none 0 0,.slice none 0 0,.int .i64 0,.int .i64 0,.int .i64 0,.bool false,.int .i64 0,.slice none 0 0,.slice none 0 0,.int .i64 0,.slice none 0 0,.int .i64 0] 110))).cell? ⟨w.heap.size,5,none⟩=some (.bool h.flip):=X0.cell (i:=5) (by omega)
 have x6:(((w.alloc (.cells #[.slice a1 h.words.length c1,.slice a2 h.roots.length c2,.int .i64 h.old,.int .i64 h.eden,.int .i64 h.surv,.bool h.flip,.int .i64 h.hash,.slice a3 h.kept.length c3,.slice ap pr.length cp,.int .i64 pc,.slice ao ot.length co,.int .i64 st] 29)).alloc (.cells #[.slice none 0 0,.slice none 0 0,.slice none 0 0,.int .i64 0,.int .i64 0,.int .i64 0,.bool false,.int .i64 0,.slice none 0 0,.slice none 0 0,.int .i64 0,.slice none 0 0,.int .i64 0] 110))).cell? ⟨w.heap.size,6,none⟩=some (.int .i64 h.hash):=X0.cell (i:=6) (by omega)
 have x7:(((w.alloc (.cells #[.slice a1 h.words.length c1,.slice a2 h.roots.length c2,.int .i64 h.old,.int .i64 h.eden,.int .i64 h.surv,.bool h.flip,.int .i64 h.hash,.slice a3 h.kept.length c3,.slice ap pr.length cp,.int .i64 pc,.slice ao ot.length co,.int .i64 st] 29)).alloc (.cells #[.slice none 0 0,.slice none 0 0,.slice none 0 0,.int .i64 0,.int .i64 0,.int .i64 0,.bool false,.int .i64 0,.slice none 0 0,.slice none 0 0,.int .i64 0,.slice none 0 0,.int .i64 0] 110))).cell? ⟨w.heap.size,7,none⟩=some (.slice a3 h.kept.length c3):=X0.cell (i:=7) (by omega)
 have x8:(((w.alloc (.cells #[.slice a1 h.words.length c1,.slice a2 h.roots.length c2,.int .i64 h.old,.int .i64 h.eden,.int .i64 h.surv,.bool h.flip,.int .i64 h.hash,.slice a3 h.kept.length c3,.slice ap pr.length cp,.int .i64 pc,.slice ao ot.length co,.int .i64 st] 29)).alloc (.cells #[.slice none 0 0,.slice none 0 0,.slice none 0 0,.int .i64 0,.int .i64 0,.int .i64 0,.bool false,.int .i64 0,.slice none 0 0,.slice none 0 0,.int .i64 0,.slice none 0 0,.int .i64 0] 110))).cell? ⟨w.heap.size,8,none⟩=some (.slice ap pr.length cp):=X0.cell (i:=8) (by omega)
 have x9:(((w.alloc (.cells #[.slice a1 h.words.length c1,.slice a2 h.roots.length c2,.int .i64 h.old,.int .i64 h.eden,.int .i64 h.surv,.bool h.flip,.int .i64 h.hash,.slice a3 h.kept.length c3,.slice ap pr.length cp,.int .i64 pc,.slice ao ot.length co,.int .i64 st] 29)).alloc (.cells #[.slice none 0 0,.slice none 0 0,.slice none 0 0,.int .i64 0,.int .i64 0,.int .i64 0,.bool false,.int .i64 0,.slice none 0 0,.slice none 0 0,.int .i64 0,.slice none 0 0,.int .i64 0] 110))).cell? ⟨w.heap.size,9,none⟩=some (.int .i64 pc):=X0.cell (i:=9) (by omega)
 have Bg:(((w.alloc (.cells #[.slice a1 h.words.length c1,.slice a2 h.roots.length c2,.int .i64 h.old,.int .i64 h.eden,.int .i64 h.surv,.bool h.flip,.int .i64 h.hash,.slice a3 h.kept.length c3,.slice ap pr.length cp,.int .i64 pc,.slice ao ot.length co,.int .i64 st] 29)).alloc (.cells #[.slice none 0 0,.slice none 0 0,.slice none 0 0,.int .i64 0,.int .i64 0,.int .i64 0,.bool false,.int .i64 0,.slice none 0 0,.slice none 0 0,.int .i64 0,.slice none 0 0,.int .i64 0] 110))).cell? ⟨w.heap.size,10,none⟩=some (.slice ao ot.length co):=X0.cell (i:=10) (by omega)
 have Bh:(((w.alloc (.cells #[.slice a1 h.words.length c1,.slice a2 h.roots.length c2,.int .i64 h.old,.int .i64 h.eden,.int .i64 h.surv,.bool h.flip,.int .i64 h.hash,.slice a3 h.kept.length c3,.slice ap pr.length cp,.int .i64 pc,.slice ao ot.length co,.int .i64 st] 29)).alloc (.cells #[.slice none 0 0,.slice none 0 0,.slice none 0 0,.int .i64 0,.int .i64 0,.int .i64 0,.bool false,.int .i64 0,.slice none 0 0,.slice none 0 0,.int .i64 0,.slice none 0 0,.int .i64 0] 110))).cell? ⟨w.heap.size,11,none⟩=some (.int .i64 st):=X0.cell (i:=11) (by omega)
 have ltX:w.heap.size<((w.alloc (.cells #[.slice a1 h.words.length c1,.slice a2 h.roots.length c2,.int .i64 h.old,.int .i64 h.eden,.int .i64 h.surv,.bool h.flip,.int .i64 h.hash,.slice a3 h.kept.length c3,.slice ap pr.length cp,.int .i64 pc,.slice ao ot.length co,.int .i64 st] 29)).alloc (.cells #[.slice none 0 0,.slice none 0 0,.slice none 0 0,.int .i64 0,.int .i64 0,.int .i64 0,.bool false,.int .i64 0,.slice none 0 0,.slice none 0 0,.int .i64 0,.slice none 0 0,.int .i64 0] 110)).heap.size:=X0.lt
 go_enter Tryz.func75,Tryz.ntmps75
 go_wp2_with fail
 refine C.mono ?_
 clear x0 x1 x2 x3 x4 x5 x6 x7 x8 x9 Bg Bh C ltX
 rintro e w1 ⟨dr,hb1⟩
 have hbw1:=bel_after hb0 hb1
 have R1:=R0.of_block (hb1.block _ R0.lt)
 have X1:=X0.of_block (hb1.block _ X0.lt)
 clear R0 X0
 rcases dr with ⟨hk,g1,g2,g3,oa,oc,rfl,⟨q1,q2,q3⟩,⟨l0,l1,l2⟩,io,farO,-⟩|⟨hk,rfl⟩
 case inr =>
  have OKF:okM h pr pc ot st=false:=by unfold okM;rw [hk];rfl
  have al:=bel_one w1 (.cells #[.slice none 0 0,.slice none 0 0,.slice none 0 0,.int .i64 0,.int .i64 0,.int .i64 0,.bool false,.int .i64 0,.slice none 0 0] 108)
  have hbA:=bel_after hbw1 al
  have R2:=R1.of_block (al.block _ R1.lt)
  clear R1 X1
  have OKZ:(#[.slice none 0 0,.slice none 0 0,.slice none 0 0,.int .i64 0,.int .i64 0,.int .i64 0,.bool false,.int .i64 0,.slice none 0 0,.slice none 0 0,.int .i64 0,.slice none 0 0,.int .i64 0]:Array Value).all (·.oneCell')=true:=by simp [Value.oneCell']
  go_wp2_with ((with_reducible refine store_box _ ?_ (.tmp 2) (.tmp 41) 110 ?_ 110 (w.heap.size+1) 13 #[.slice none 0 0,.slice none 0 0,.slice none 0 0,.int .i64 0,.int .i64 0,.int .i64 0,.bool false,.int .i64 0,.slice none 0 0,.slice none 0 0,.int .i64 0,.slice none 0 0,.int .i64 0] f ?_ ?_ R2 ?_ ?_ OKZ ?_);rfl;rfl;rfl;rfl;rfl;kernel_rfl;intro wA KA GA;have r0:wA.cell? ⟨w.heap.size+1,0,none⟩=some (.slice none 0 0):=KA.cell (i:=0) (by omega);have r1:wA.cell? ⟨w.heap.size+1,1,none⟩=some (.slice none 0 0):=KA.cell (i:=1) (by omega);have r2:wA.cell? ⟨w.heap.size+1,2,none⟩=some (.slice none 0 0):=KA.cell (i:=2) (by omega);have r3:wA.cell? ⟨w.heap.size+1,3,none⟩=some (.int .i64 0):=KA.cell (i:=3) (by omega);have r4:wA.cell? ⟨w.heap.size+1,4,none⟩=some (.int .i64 0):=KA.cell (i:=4) (by omega);have r5:wA.cell? ⟨w.heap.size+1,5,none⟩=some (.int .i64 0):=KA.cell (i:=5) (by omega);have r6:wA.cell? ⟨w.heap.size+1,6,none⟩=some (.bool false):=KA.cell (i:=6) (by omega);have r7:wA.cell? ⟨w.heap.size+1,7,none⟩=some (.int .i64 0):=KA.cell (i:=7) (by omega);have r8:wA.cell? ⟨w.heap.size+1,8,none⟩=some (.slice none 0 0):=KA.cell (i:=8) (by omega);have r9:wA.cell? ⟨w.heap.size+1,9,none⟩=some (.slice none 0 0):=KA.cell (i:=9) (by omega);have r10:wA.cell? ⟨w.heap.size+1,10,none⟩=some (.int .i64 0):=KA.cell (i:=10) (by omega);have r11:wA.cell? ⟨w.heap.size+1,11,none⟩=some (.slice none 0 0):=KA.cell (i:=11) (by omega);have r12:wA.cell? ⟨w.heap.size+1,12,none⟩=some (.int .i64 0):=KA.cell (i:=12) (by omega))
  have BA:Below w.heap.size w wA:=Below.grown hbA GA hbA.size (fun q hq=>by cases hq;omega)
  exact bodyPost_ret (v:=.tuple #[.agg #[.slice none 0 0,.slice none 0 0,.slice none 0 0,.int .i64 0,.int .i64 0,.int .i64 0,.bool false,.int .i64 0,.slice none 0 0,.slice none 0 0,.int .i64 0,.slice none 0 0,.int .i64 0],.bool false]) (by simp [results,Tryz.results75,go_sem,r0,r1,r2,r3,r4,r5,r6,r7,r8,r9,r10,r11,r12]) rfl ⟨.inr ⟨OKF,rfl⟩,BA⟩
 have al:=bel_one w1 (.cells #[.slice (some ⟨g1,0,none⟩) h.words.length h.words.length,.slice oa (obC h).length oc,.slice (some ⟨g2,0,none⟩) h.roots.length h.roots.length,.int .i64 h.old,.int .i64 h.eden,.int .i64 h.surv,.bool h.flip,.int .i64 h.hash,.slice (some ⟨g3,0,none⟩) h.kept.length h.kept.length] 108)
 have hbA:=bel_after hbw1 al
 have R2:=R1.of_block (al.block _ R1.lt)
 have X2:=X1.of_block (al.block _ X1.lt)
 have D2:(w1.alloc (.cells #[.slice (some ⟨g1,0,none⟩) h.words.length h.words.length,.slice oa (obC h).length oc,.slice (some ⟨g2,0,none⟩) h.roots.length h.roots.length,.int .i64 h.old,.int .i64 h.eden,.int .i64 h.surv,.bool h.flip,.int .i64 h.hash,.slice (some ⟨g3,0,none⟩) h.kept.length h.kept.length] 108)).rowIs w1.heap.size 108 9 (fun i=>(#[.slice (some ⟨g1,0,none⟩) h.words.length h.words.length,.slice oa (obC h).length oc,.slice (some ⟨g2,0,none⟩) h.roots.length h.roots.length,.int .i64 h.old,.int .i64 h.eden,.int .i64 h.surv,.bool h.flip,.int .i64 h.hash,.slice (some ⟨g3,0,none⟩) h.kept.length h.kept.length])[i]?.getD undef):=row_any w1 #[.slice (some ⟨g1,0,none⟩) h.words.length h.words.length,.slice oa (obC h).length oc,.slice (some ⟨g2,0,none⟩) h.roots.length h.roots.length,.int .i64 h.old,.int .i64 h.eden,.int .i64 h.surv,.bool h.flip,.int .i64 h.hash,.slice (some ⟨g3,0,none⟩) h.kept.length h.kept.length] 108
 have P1:=q1.later al
 have P2:=q2.later al
 have io2:=io.later al
 have kl:h.roots.length<=20:=(ok_len hk).2.2.2.2.2
 have HL:Hid (h.words.length=3200):=(ok_len hk).1
 obtain ⟨w2,e2⟩:∃ x,x=w1.alloc (.cells #[.slice (some ⟨g1,0,none⟩) h.words.length h.words.length,.slice oa (obC h).length oc,.slice (some ⟨g2,0,none⟩) h.roots.length h.roots.length,.int .i64 h.old,.int .i64 h.eden,.int .i64 h.surv,.bool h.flip,.int .i64 h.hash,.slice (some ⟨g3,0,none⟩) h.kept.length h.kept.length] 108):=⟨_,rfl⟩
 obtain ⟨Dd,eD⟩:∃ x,x=w1.heap.size:=⟨_,rfl⟩
 have ltD:Dd<w2.heap.size:=by rw [e2,eD];simp
 have l0' : w.heap.size+2<=g1:=by simpa using l0
 rw [<- e2,← eD] at D2
 rw [<- e2] at R2 X2 P1 P2 io2 hbA
 clear q1 q2 q3 io R1 X1 al hb1 hbw1
 have VX:∀ W,Below w2.heap.size w2 W->(W.cell? ⟨w.heap.size,8,none⟩=some (.slice ap pr.length cp)/\W.cell? ⟨w.heap.size,9,none⟩=some (.int .i64 pc)/\W.cell? ⟨w.heap.size,10,none⟩=some (.slice ao ot.length co)/\W.cell? ⟨w.heap.size,11,none⟩=some (.int .i64 st)):=fun W hb=>⟨cell_later hb (X2.cell (i:=8) (by omega)),cell_later hb (X2.cell (i:=9) (by omega)),cell_later hb (X2.cell (i:=10) (by omega)),cell_later hb (X2.cell (i:=11) (by omega))⟩
 have DX:∀ W,Below w2.heap.size w2 W->(W.cell? ⟨Dd,0,none⟩=some (.slice (some ⟨g1,0,none⟩) h.words.length h.words.length)/\W.cell? ⟨Dd,1,none⟩=some (.slice oa (obC h).length oc)/\W.cell? ⟨Dd,2,none⟩=some (.slice (some ⟨g2,0,none⟩) h.roots.length h.roots.length)/\W.cell? ⟨Dd,3,none⟩=some (.int .i64 h.old)/\W.cell? ⟨Dd,4,none⟩=some (.int .i64 h.eden)/\W.cell? ⟨Dd,5,none⟩=some (.int .i64 h.surv)/\W.cell? ⟨Dd,6,none⟩=some (.bool h.flip)/\W.cell? ⟨Dd,7,none⟩=some (.int .i64 h.hash)/\W.cell? ⟨Dd,8,none⟩=some (.slice (some ⟨g3,0,none⟩) h.kept.length h.kept.length)):=fun W hb=>⟨cell_later hb (D2.cell (i:=0) (by omega)),cell_later hb (D2.cell (i:=1) (by omega)),cell_later hb (D2.cell (i:=2) (by omega)),cell_later hb (D2.cell (i:=3) (by omega)),cell_later hb (D2.cell (i:=4) (by omega)),cell_later hb (D2.cell (i:=5) (by omega)),cell_later hb (D2.cell (i:=6) (by omega)),cell_later hb (D2.cell (i:=7) (by omega)),cell_later hb (D2.cell (i:=8) (by omega))⟩
 obtain ⟨x8,x9,Bg,Bh⟩:=VX w2 (Below.refl _ _)
 have CT0:=isProgram_any _ pr w2 (HPR _ hbA) hp2
 rw [e2] at x8 x9 Bg Bh CT0
 subst eD
 go_wp2_with fail
 refine CT0.mono ?_
 rw [<- e2]
 rw [<- e2] at x8 x9 Bg Bh
 rintro e w3 ⟨rfl,hbx⟩
 have hbA1:Below w.heap.size w w3:=bel_after hbA hbx
 have bz1:Below w2.heap.size w2 w3:=hbx
 obtain ⟨x8,x9,Bg,Bh⟩:=VX w3 bz1
 clear hbx CT0
 cases PRG:progB pr
 case false =>
  have OKF:okM h pr pc ot st=false:=by unfold okM;simp [PRG]
  have R9:=R2.of_block (bz1.block _ R2.lt)
  clear VX DX
  have OKZ:(#[.slice none 0 0,.slice none 0 0,.slice none 0 0,.int .i64 0,.int .i64 0,.int .i64 0,.bool false,.int .i64 0,.slice none 0 0,.slice none 0 0,.int .i64 0,.slice none 0 0,.int .i64 0]:Array Value).all (·.oneCell')=true:=by simp [Value.oneCell']
  go_wp2_with ((with_reducible refine store_box _ ?_ (.tmp 2) (.tmp 41) 110 ?_ 110 (w.heap.size+1) 13 #[.slice none 0 0,.slice none 0 0,.slice none 0 0,.int .i64 0,.int .i64 0,.int .i64 0,.bool false,.int .i64 0,.slice none 0 0,.slice none 0 0,.int .i64 0,.slice none 0 0,.int .i64 0] f ?_ ?_ R9 ?_ ?_ OKZ ?_);rfl;rfl;rfl;rfl;rfl;kernel_rfl;intro wA KA GA;have r0:wA.cell? ⟨w.heap.size+1,0,none⟩=some (.slice none 0 0):=KA.cell (i:=0) (by omega);have r1:wA.cell? ⟨w.heap.size+1,1,none⟩=some (.slice none 0 0):=KA.cell (i:=1) (by omega);have r2:wA.cell? ⟨w.heap.size+1,2,none⟩=some (.slice none 0 0):=KA.cell (i:=2) (by omega);have r3:wA.cell? ⟨w.heap.size+1,3,none⟩=some (.int .i64 0):=KA.cell (i:=3) (by omega);have r4:wA.cell? ⟨w.heap.size+1,4,none⟩=some (.int .i64 0):=KA.cell (i:=4) (by omega);have r5:wA.cell? ⟨w.heap.size+1,5,none⟩=some (.int .i64 0):=KA.cell (i:=5) (by omega);have r6:wA.cell? ⟨w.heap.size+1,6,none⟩=some (.bool false):=KA.cell (i:=6) (by omega);have r7:wA.cell? ⟨w.heap.size+1,7,none⟩=some (.int .i64 0):=KA.cell (i:=7) (by omega);have r8:wA.cell? ⟨w.heap.size+1,8,none⟩=some (.slice none 0 0):=KA.cell (i:=8) (by omega);have r9:wA.cell? ⟨w.heap.size+1,9,none⟩=some (.slice none 0 0):=KA.cell (i:=9) (by omega);have r10:wA.cell? ⟨w.heap.size+1,10,none⟩=some (.int .i64 0):=KA.cell (i:=10) (by omega);have r11:wA.cell? ⟨w.heap.size+1,11,none⟩=some (.slice none 0 0):=KA.cell (i:=11) (by omega);have r12:wA.cell? ⟨w.heap.size+1,12,none⟩=some (.int .i64 0):=KA.cell (i:=12) (by omega))
  have BA:Below w.heap.size w wA:=Below.grown hbA1 GA hbA1.size (fun q hq=>by cases hq;omega)
  exact bodyPost_ret (v:=.tuple #[.agg #[.slice none 0 0,.slice none 0 0,.slice none 0 0,.int .i64 0,.int .i64 0,.int .i64 0,.bool false,.int .i64 0,.slice none 0 0,.slice none 0 0,.int .i64 0,.slice none 0 0,.int .i64 0],.bool false]) (by simp [results,Tryz.results75,go_sem,r0,r1,r2,r3,r4,r5,r6,r7,r8,r9,r10,r11,r12]) rfl ⟨.inr ⟨OKF,rfl⟩,BA⟩
 have CT1:=isPlace_any _ pr pc w3 (HPR _ hbA1) hp2
 go_wp2_with fail
 refine CT1.mono ?_
 rintro e w4 ⟨rfl,hbx⟩
 have hbA2:Below w.heap.size w w4:=bel_after hbA1 hbx
 have bz2:Below w2.heap.size w2 w4:=bel_after bz1 hbx
 obtain ⟨x8,x9,Bg,Bh⟩:=VX w4 bz2
 clear hbx CT1
 cases PLC:placeB pr.length pc
 case false =>
  have OKF:okM h pr pc ot st=false:=by unfold okM;simp [PRG,PLC]
  have R9:=R2.of_block (bz2.block _ R2.lt)
  clear VX DX
  have OKZ:(#[.slice none 0 0,.slice none 0 0,.slice none 0 0,.int .i64 0,.int .i64 0,.int .i64 0,.bool false,.int .i64 0,.slice none 0 0,.slice none 0 0,.int .i64 0,.slice none 0 0,.int .i64 0]:Array Value).all (·.oneCell')=true:=by simp [Value.oneCell']
  go_wp2_with ((with_reducible refine store_box _ ?_ (.tmp 2) (.tmp 41) 110 ?_ 110 (w.heap.size+1) 13 #[.slice none 0 0,.slice none 0 0,.slice none 0 0,.int .i64 0,.int .i64 0,.int .i64 0,.bool false,.int .i64 0,.slice none 0 0,.slice none 0 0,.int .i64 0,.slice none 0 0,.int .i64 0] f ?_ ?_ R9 ?_ ?_ OKZ ?_);rfl;rfl;rfl;rfl;rfl;kernel_rfl;intro wA KA GA;have r0:wA.cell? ⟨w.heap.size+1,0,none⟩=some (.slice none 0 0):=KA.cell (i:=0) (by omega);have r1:wA.cell? ⟨w.heap.size+1,1,none⟩=some (.slice none 0 0):=KA.cell (i:=1) (by omega);have r2:wA.cell? ⟨w.heap.size+1,2,none⟩=some (.slice none 0 0):=KA.cell (i:=2) (by omega);have r3:wA.cell? ⟨w.heap.size+1,3,none⟩=some (.int .i64 0):=KA.cell (i:=3) (by omega);have r4:wA.cell? ⟨w.heap.size+1,4,none⟩=some (.int .i64 0):=KA.cell (i:=4) (by omega);have r5:wA.cell? ⟨w.heap.size+1,5,none⟩=some (.int .i64 0):=KA.cell (i:=5) (by omega);have r6:wA.cell? ⟨w.heap.size+1,6,none⟩=some (.bool false):=KA.cell (i:=6) (by omega);have r7:wA.cell? ⟨w.heap.size+1,7,none⟩=some (.int .i64 0):=KA.cell (i:=7) (by omega);have r8:wA.cell? ⟨w.heap.size+1,8,none⟩=some (.slice none 0 0):=KA.cell (i:=8) (by omega);have r9:wA.cell? ⟨w.heap.size+1,9,none⟩=some (.slice none 0 0):=KA.cell (i:=9) (by omega);have r10:wA.cell? ⟨w.heap.size+1,10,none⟩=some (.int .i64 0):=KA.cell (i:=10) (by omega);have r11:wA.cell? ⟨w.heap.size+1,11,none⟩=some (.slice none 0 0):=KA.cell (i:=11) (by omega);have r12:wA.cell? ⟨w.heap.size+1,12,none⟩=some (.int .i64 0):=KA.cell (i:=12) (by omega))
  have BA:Below w.heap.size w wA:=Below.grown hbA2 GA hbA2.size (fun q hq=>by cases hq;omega)
  exact bodyPost_ret (v:=.tuple #[.agg #[.slice none 0 0,.slice none 0 0,.slice none 0 0,.int .i64 0,.int .i64 0,.int .i64 0,.bool false,.int .i64 0,.slice none 0 0,.slice none 0 0,.int .i64 0,.slice none 0 0,.int .i64 0],.bool false]) (by simp [results,Tryz.results75,go_sem,r0,r1,r2,r3,r4,r5,r6,r7,r8,r9,r10,r11,r12]) rfl ⟨.inr ⟨OKF,rfl⟩,BA⟩
 have CT2:=isOut_any _ ot w4 (HOT _ hbA2) ho2
 go_wp2_with fail
 refine CT2.mono ?_
 rintro e w5 ⟨rfl,hbx⟩
 have hbA3:Below w.heap.size w w5:=bel_after hbA2 hbx
 have bz3:Below w2.heap.size w2 w5:=bel_after bz2 hbx
 obtain ⟨x8,x9,Bg,Bh⟩:=VX w5 bz3
 clear hbx CT2
 cases OUT:outB ot
 case false =>
  have OKF:okM h pr pc ot st=false:=by unfold okM;simp [PRG,PLC,OUT]
  have R9:=R2.of_block (bz3.block _ R2.lt)
  clear VX DX
  have OKZ:(#[.slice none 0 0,.slice none 0 0,.slice none 0 0,.int .i64 0,.int .i64 0,.int .i64 0,.bool false,.int .i64 0,.slice none 0 0,.slice none 0 0,.int .i64 0,.slice none 0 0,.int .i64 0]:Array Value).all (·.oneCell')=true:=by simp [Value.oneCell']
  go_wp2_with ((with_reducible refine store_box _ ?_ (.tmp 2) (.tmp 41) 110 ?_ 110 (w.heap.size+1) 13 #[.slice none 0 0,.slice none 0 0,.slice none 0 0,.int .i64 0,.int .i64 0,.int .i64 0,.bool false,.int .i64 0,.slice none 0 0,.slice none 0 0,.int .i64 0,.slice none 0 0,.int .i64 0] f ?_ ?_ R9 ?_ ?_ OKZ ?_);rfl;rfl;rfl;rfl;rfl;kernel_rfl;intro wA KA GA;have r0:wA.cell? ⟨w.heap.size+1,0,none⟩=some (.slice none 0 0):=KA.cell (i:=0) (by omega);have r1:wA.cell? ⟨w.heap.size+1,1,none⟩=some (.slice none 0 0):=KA.cell (i:=1) (by omega);have r2:wA.cell? ⟨w.heap.size+1,2,none⟩=some (.slice none 0 0):=KA.cell (i:=2) (by omega);have r3:wA.cell? ⟨w.heap.size+1,3,none⟩=some (.int .i64 0):=KA.cell (i:=3) (by omega);have r4:wA.cell? ⟨w.heap.size+1,4,none⟩=some (.int .i64 0):=KA.cell (i:=4) (by omega);have r5:wA.cell? ⟨w.heap.size+1,5,none⟩=some (.int .i64 0):=KA.cell (i:=5) (by omega);have r6:wA.cell? ⟨w.heap.size+1,6,none⟩=some (.bool false):=KA.cell (i:=6) (by omega);have r7:wA.cell? ⟨w.heap.size+1,7,none⟩=some (.int .i64 0):=KA.cell (i:=7) (by omega);have r8:wA.cell? ⟨w.heap.size+1,8,none⟩=some (.slice none 0 0):=KA.cell (i:=8) (by omega);have r9:wA.cell? ⟨w.heap.size+1,9,none⟩=some (.slice none 0 0):=KA.cell (i:=9) (by omega);have r10:wA.cell? ⟨w.heap.size+1,10,none⟩=some (.int .i64 0):=KA.cell (i:=10) (by omega);have r11:wA.cell? ⟨w.heap.size+1,11,none⟩=some (.slice none 0 0):=KA.cell (i:=11) (by omega);have r12:wA.cell? ⟨w.heap.size+1,12,none⟩=some (.int .i64 0):=KA.cell (i:=12) (by omega))
  have BA:Below w.heap.size w wA:=Below.grown hbA3 GA hbA3.size (fun q hq=>by cases hq;omega)
  exact bodyPost_ret (v:=.tuple #[.agg #[.slice none 0 0,.slice none 0 0,.slice none 0 0,.int .i64 0,.int .i64 0,.int .i64 0,.bool false,.int .i64 0,.slice none 0 0,.slice none 0 0,.int .i64 0,.slice none 0 0,.int .i64 0],.bool false]) (by simp [results,Tryz.results75,go_sem,r0,r1,r2,r3,r4,r5,r6,r7,r8,r9,r10,r11,r12]) rfl ⟨.inr ⟨OKF,rfl⟩,BA⟩
 have CT3:=isState_any st w5
 go_wp2_with fail
 refine CT3.mono ?_
 rintro e w6 ⟨rfl,hbx⟩
 have hbA4:Below w.heap.size w w6:=bel_after hbA3 hbx
 have bz4:Below w2.heap.size w2 w6:=bel_after bz3 hbx
 obtain ⟨x8,x9,Bg,Bh⟩:=VX w6 bz4
 clear hbx CT3
 cases STA:stateB st
 case false =>
  have OKF:okM h pr pc ot st=false:=by unfold okM;simp [PRG,PLC,OUT,STA]
  have R9:=R2.of_block (bz4.block _ R2.lt)
  clear VX DX
  have OKZ:(#[.slice none 0 0,.slice none 0 0,.slice none 0 0,.int .i64 0,.int .i64 0,.int .i64 0,.bool false,.int .i64 0,.slice none 0 0,.slice none 0 0,.int .i64 0,.slice none 0 0,.int .i64 0]:Array Value).all (·.oneCell')=true:=by simp [Value.oneCell']
  go_wp2_with ((with_reducible refine store_box _ ?_ (.tmp 2) (.tmp 41) 110 ?_ 110 (w.heap.size+1) 13 #[.slice none 0 0,.slice none 0 0,.slice none 0 0,.int .i64 0,.int .i64 0,.int .i64 0,.bool false,.int .i64 0,.slice none 0 0,.slice none 0 0,.int .i64 0,.slice none 0 0,.int .i64 0] f ?_ ?_ R9 ?_ ?_ OKZ ?_);rfl;rfl;rfl;rfl;rfl;kernel_rfl;intro wA KA GA;have r0:wA.cell? ⟨w.heap.size+1,0,none⟩=some (.slice none 0 0):=KA.cell (i:=0) (by omega);have r1:wA.cell? ⟨w.heap.size+1,1,none⟩=some (.slice none 0 0):=KA.cell (i:=1) (by omega);have r2:wA.cell? ⟨w.heap.size+1,2,none⟩=some (.slice none 0 0):=KA.cell (i:=2) (by omega);have r3:wA.cell? ⟨w.heap.size+1,3,none⟩=some (.int .i64 0):=KA.cell (i:=3) (by omega);have r4:wA.cell? ⟨w.heap.size+1,4,none⟩=some (.int .i64 0):=KA.cell (i:=4) (by omega);have r5:wA.cell? ⟨w.heap.size+1,5,none⟩=some (.int .i64 0):=KA.cell (i:=5) (by omega);have r6:wA.cell? ⟨w.heap.size+1,6,none⟩=some (.bool false):=KA.cell (i:=6) (by omega);have r7:wA.cell? ⟨w.heap.size+1,7,none⟩=some (.int .i64 0):=KA.cell (i:=7) (by omega);have r8:wA.cell? ⟨w.heap.size+1,8,none⟩=some (.slice none 0 0):=KA.cell (i:=8) (by omega);have r9:wA.cell? ⟨w.heap.size+1,9,none⟩=some (.slice none 0 0):=KA.cell (i:=9) (by omega);have r10:wA.cell? ⟨w.heap.size+1,10,none⟩=some (.int .i64 0):=KA.cell (i:=10) (by omega);have r11:wA.cell? ⟨w.heap.size+1,11,none⟩=some (.slice none 0 0):=KA.cell (i:=11) (by omega);have r12:wA.cell? ⟨w.heap.size+1,12,none⟩=some (.int .i64 0):=KA.cell (i:=12) (by omega))
  have BA:Below w.heap.size w wA:=Below.grown hbA4 GA hbA4.size (fun q hq=>by cases hq;omega)
  exact bodyPost_ret (v:=.tuple #[.agg #[.slice none 0 0,.slice none 0 0,.slice none 0 0,.int .i64 0,.int .i64 0,.int .i64 0,.bool false,.int .i64 0,.slice none 0 0,.slice none 0 0,.int .i64 0,.slice none 0 0,.int .i64 0],.bool false]) (by simp [results,Tryz.results75,go_sem,r0,r1,r2,r3,r4,r5,r6,r7,r8,r9,r10,r11,r12]) rfl ⟨.inr ⟨OKF,rfl⟩,BA⟩
 have OKF:Hid (okM h pr pc ot st=true):=(by unfold okM;simp [hk,PRG,PLC,OUT,STA]:okM h pr pc ot st=true)
 have R6:=R2.of_block (bz4.block _ R2.lt)
 obtain ⟨N6,eN⟩:∃ x,x=w6.heap.size:=⟨_,rfl⟩
 have BW6:Below w.heap.size w w6:=hbA4
 have le6:=hbA4.size
 have lz6:w.heap.size+1<N6:=by have:=R6.lt;omega
 have UP:∀ W,Below N6 w6 W->Below w2.heap.size w2 W/\Below w.heap.size w W:=fun W hb=>⟨bz4.trans (hb.mono (by have:=bz4.size;omega)),hbA4.trans (hb.mono (by omega))⟩
 have VB:=fun W (hb:Below N6 w6 W)=>VX W (UP W hb).1
 have DB:=fun W (hb:Below N6 w6 W)=>DX W (UP W hb).1
 replace HPR:=fun W (hb:Below N6 w6 W)=>HPR W (UP W hb).2
 replace HOT:=fun W (hb:Below N6 w6 W)=>HOT W (UP W hb).2
 have QB:∀ W,Below N6 w6 W->(RI W g1 h.words h.words.length/\RI W g2 h.roots h.roots.length/\IR W (.slice oa (obC h).length oc) (ints (obC h))):=fun W hb=>⟨P1.later (UP W hb).1,P2.later (UP W hb).1,io2.later (UP W hb).1⟩
 clear VX DX UP X2 D2 P1 P2 io2 bz1 bz2 bz3 bz4 hbA hbA1 hbA2 hbA3 hbA4 R2 x8 x9 Bg Bh PRG PLC OUT STA
 go_wp2_with fail
 refine Disk.z_plain 99 (fun W'=>Below N6 w6 W') (by kernel_rfl) (by rw [eN];exact (Below.refl _ _).drew) fun hs=>?_
 refine Disk.zt 0 42 (v:=.agg #[.slice (some ⟨g1,0,none⟩) h.words.length h.words.length,.slice oa (obC h).length oc,.slice (some ⟨g2,0,none⟩) h.roots.length h.roots.length,.int .i64 h.old,.int .i64 h.eden,.int .i64 h.surv,.bool h.flip,.int .i64 h.hash,.slice (some ⟨g3,0,none⟩) h.kept.length h.kept.length]) rfl rfl hs (fun W' hSw=>(by
  obtain ⟨d0,d1,d2,d3,d4,d5,d6,d7,d8⟩:=DB _ hSw
  go_simp;first|done|with_reducible rfl)) ?_
 simp only [zA,zB,zC]
 refine Disk.zt 1 43 (v:=.pointer (some ⟨w.heap.size,8,none⟩)) rfl rfl hs (fun W' hSw=>(by
  obtain ⟨q8,q9,q10,q11⟩:=VB _ hSw
  go_simp;first|done|with_reducible rfl)) ?_
 simp only [zA,zB,zC]
 refine Disk.zt 2 44 (v:=.slice ap pr.length cp) rfl rfl hs (fun W' hSw=>(by
  obtain ⟨q8,q9,q10,q11⟩:=VB _ hSw
  go_simp;first|done|with_reducible rfl)) ?_
 simp only [zA,zB,zC]
 refine Disk.zt 4 46 (v:=.pointer (some ⟨w.heap.size,9,none⟩)) rfl rfl hs (fun W' hSw=>(by
  obtain ⟨q8,q9,q10,q11⟩:=VB _ hSw
  go_simp;first|done|with_reducible rfl)) ?_
 simp only [zA,zB,zC]
 refine Disk.zt 5 47 (v:=.int .i64 pc) rfl rfl hs (fun W' hSw=>(by
  obtain ⟨q8,q9,q10,q11⟩:=VB _ hSw
  go_simp;first|done|with_reducible rfl)) ?_
 simp only [zA,zB,zC]
 refine Disk.zt 6 48 (v:=.pointer (some ⟨w.heap.size,10,none⟩)) rfl rfl hs (fun W' hSw=>(by
  obtain ⟨q8,q9,q10,q11⟩:=VB _ hSw
  go_simp;first|done|with_reducible rfl)) ?_
 simp only [zA,zB,zC]
 refine Disk.zt 7 49 (v:=.slice ao ot.length co) rfl rfl hs (fun W' hSw=>(by
  obtain ⟨q8,q9,q10,q11⟩:=VB _ hSw
  go_simp;first|done|with_reducible rfl)) ?_
 simp only [zA,zB,zC]
 refine Disk.zt 9 51 (v:=.pointer (some ⟨w.heap.size,11,none⟩)) rfl rfl hs (fun W' hSw=>(by
  obtain ⟨q8,q9,q10,q11⟩:=VB _ hSw
  go_simp;first|done|with_reducible rfl)) ?_
 simp only [zA,zB,zC]
 refine Disk.zt 10 52 (v:=.int .i64 st) rfl rfl hs (fun W' hSw=>(by
  obtain ⟨q8,q9,q10,q11⟩:=VB _ hSw
  go_simp;first|done|with_reducible rfl)) ?_
 simp only [zA,zB,zC]
 obtain ⟨w7,e7⟩:∃ x,x=w6.drew:=⟨_,rfl⟩
 rw [<- e7] at hs ⊢
 clear e7
 refine z_or (i:=3) (j:=12) (by kernel_rfl) ?_ ?_
 ·have leN:N6<=w7.heap.size:=by have:=hs.size;omega
  refine o_call 3 45 rfl rfl (by rfl) (f:=41) (args:=#[.slice ap pr.length cp]) (w0:=w7) (by go_simp;first|done|with_reducible rfl) ?_
  refine (copyCodes_any _ pr w7 (HPR _ hs) (by omega)).mono ?_
  rintro e w8 ⟨⟨rfl,RP,ltw8⟩,BX⟩
  refine ⟨_,rfl,.inr (hs.trans (BX.mono leN)),?_⟩
  simp only [zA,zB,zC]
  obtain ⟨P,eP⟩:∃ x,x=w7.heap.size:=⟨_,rfl⟩
  rw [<- eP] at RP ⊢
  have lP:N6<=P:=by omega
  have hs:=hs.trans (BX.mono leN)
  clear BX
  refine z_or (i:=8) (j:=12) (by kernel_rfl) ?_ ?_
  ·have leN:N6<=w8.heap.size:=by have:=hs.size;omega
   refine o_call 8 50 rfl rfl (by rfl) (f:=115) (args:=#[.slice ao ot.length co]) (w0:=w8) (by go_simp;first|done|with_reducible rfl) ?_
   refine (copyList_any _ ot w8 (HOT _ hs) (by omega)).mono ?_
   rintro e w9 ⟨⟨rfl,RO,ltw9⟩,BX⟩
   refine ⟨_,rfl,.inr (hs.trans (BX.mono leN)),?_⟩
   simp only [zA,zB,zC]
   obtain ⟨O,eO⟩:∃ x,x=w8.heap.size:=⟨_,rfl⟩
   rw [<- eO] at RO ⊢
   have lO:N6<=O:=by omega
   have RP:=RP.later BX
   have hs:=hs.trans (BX.mono leN)
   clear BX
   refine Disk.zt 11 53 (v:=.agg #[.slice (some ⟨g1,0,none⟩) h.words.length h.words.length,.slice oa (obC h).length oc,.slice (some ⟨g2,0,none⟩) h.roots.length h.roots.length,.int .i64 h.old,.int .i64 h.eden,.int .i64 h.surv,.bool h.flip,.int .i64 h.hash,.slice (some ⟨g3,0,none⟩) h.kept.length h.kept.length,.slice (some ⟨P,0,none⟩) pr.length pr.length,.int .i64 pc,.slice (some ⟨O,0,none⟩) ot.length ot.length,.int .i64 st]) rfl rfl hs (fun W' hSw=>(by
    clear hSw
    go_simp;first|done|with_reducible rfl)) ?_
   simp only [zA,zB,zC]
   have leN:N6<=w9.heap.size:=by have:=hs.size;omega
   refine Disk.zr 12 6 (w':=w9.alloc (.cells #[.slice none 0 0,.slice none 0 0,.slice none 0 0,.int .i64 0,.int .i64 0,.int .i64 0,.bool false,.int .i64 0,.slice none 0 0,.slice none 0 0,.int .i64 0,.slice none 0 0,.int .i64 0] 110)) (v:=.pointer (some ⟨w9.heap.size,0,none⟩)) rfl rfl (.inr (hs.trans ((bel_one w9 _).mono leN))) ?_
   simp only [zA,zB,zC]
   obtain ⟨wa,ewa⟩:∃ x,x=w9.alloc (.cells #[.slice none 0 0,.slice none 0 0,.slice none 0 0,.int .i64 0,.int .i64 0,.int .i64 0,.bool false,.int .i64 0,.slice none 0 0,.slice none 0 0,.int .i64 0,.slice none 0 0,.int .i64 0] 110):=⟨_,rfl⟩
   obtain ⟨fA,RA⟩:∃ fA,wa.rowIs w9.heap.size 110 13 fA:=⟨_,by rw [ewa];exact row_any w9 #[.slice none 0 0,.slice none 0 0,.slice none 0 0,.int .i64 0,.int .i64 0,.int .i64 0,.bool false,.int .i64 0,.slice none 0 0,.slice none 0 0,.int .i64 0,.slice none 0 0,.int .i64 0] 110⟩
   have BX:Below w9.heap.size w9 wa:=by rw [ewa];exact bel_one w9 _
   rw [<- ewa]
   have ltwa:w9.heap.size<wa.heap.size:=RA.lt
   clear ewa
   obtain ⟨A,eA⟩:∃ x,x=w9.heap.size:=⟨_,rfl⟩
   rw [<- eA] at RA ⊢
   have lA:N6<=A:=by omega
   have RP:=RP.later BX
   have RO:=RO.later BX
   have hs:=hs.trans (BX.mono leN)
   clear BX
   have OKM:(#[.slice (some ⟨g1,0,none⟩) h.words.length h.words.length,.slice oa (obC h).length oc,.slice (some ⟨g2,0,none⟩) h.roots.length h.roots.length,.int .i64 h.old,.int .i64 h.eden,.int .i64 h.surv,.bool h.flip,.int .i64 h.hash,.slice (some ⟨g3,0,none⟩) h.kept.length h.kept.length,.slice (some ⟨P,0,none⟩) pr.length pr.length,.int .i64 pc,.slice (some ⟨O,0,none⟩) ot.length ot.length,.int .i64 st]:Array Value).all (·.oneCell')=true:=by simp [Value.oneCell']
   have hrun:=run_store_box wa 110 110 A 13 #[.slice (some ⟨g1,0,none⟩) h.words.length h.words.length,.slice oa (obC h).length oc,.slice (some ⟨g2,0,none⟩) h.roots.length h.roots.length,.int .i64 h.old,.int .i64 h.eden,.int .i64 h.surv,.bool h.flip,.int .i64 h.hash,.slice (some ⟨g3,0,none⟩) h.kept.length h.kept.length,.slice (some ⟨P,0,none⟩) pr.length pr.length,.int .i64 pc,.slice (some ⟨O,0,none⟩) ot.length ot.length,.int .i64 st] fA RA rfl (by kernel_rfl) OKM
   have KB:=row_set wa A 110 13 #[.slice (some ⟨g1,0,none⟩) h.words.length h.words.length,.slice oa (obC h).length oc,.slice (some ⟨g2,0,none⟩) h.roots.length h.roots.length,.int .i64 h.old,.int .i64 h.eden,.int .i64 h.surv,.bool h.flip,.int .i64 h.hash,.slice (some ⟨g3,0,none⟩) h.kept.length h.kept.length,.slice (some ⟨P,0,none⟩) pr.length pr.length,.int .i64 pc,.slice (some ⟨O,0,none⟩) ot.length ot.length,.int .i64 st] fA RA rfl
   have GB:=grown_setRow wa A #[.slice (some ⟨g1,0,none⟩) h.words.length h.words.length,.slice oa (obC h).length oc,.slice (some ⟨g2,0,none⟩) h.roots.length h.roots.length,.int .i64 h.old,.int .i64 h.eden,.int .i64 h.surv,.bool h.flip,.int .i64 h.hash,.slice (some ⟨g3,0,none⟩) h.kept.length h.kept.length,.slice (some ⟨P,0,none⟩) pr.length pr.length,.int .i64 pc,.slice (some ⟨O,0,none⟩) ot.length ot.length,.int .i64 st]
   have nOA:O ≠ A:=by omega
   have RO:=RO.grown GB (by intro e;cases e;exact nOA rfl)
   have hs:Below N6 w6 (wa.setRow A #[.slice (some ⟨g1,0,none⟩) h.words.length h.words.length,.slice oa (obC h).length oc,.slice (some ⟨g2,0,none⟩) h.roots.length h.roots.length,.int .i64 h.old,.int .i64 h.eden,.int .i64 h.surv,.bool h.flip,.int .i64 h.hash,.slice (some ⟨g3,0,none⟩) h.kept.length h.kept.length,.slice (some ⟨P,0,none⟩) pr.length pr.length,.int .i64 pc,.slice (some ⟨O,0,none⟩) ot.length ot.length,.int .i64 st]):=Below.grown hs GB (by have:=hs.size;omega) (fun q hq=>by cases hq;exact lA)
   clear GB RA RP
   refine Disk.z_skip 13 rfl rfl (by kernel_rfl) (by rfl) (exec_storeQ rfl rfl rfl hrun) (.inr hs) ?_
   refine Disk.z_done (by kernel_rfl) ?_ _
   clear hrun eA eP eO
   obtain ⟨w10,e10⟩:∃ x,x=wa.setRow A #[.slice (some ⟨g1,0,none⟩) h.words.length h.words.length,.slice oa (obC h).length oc,.slice (some ⟨g2,0,none⟩) h.roots.length h.roots.length,.int .i64 h.old,.int .i64 h.eden,.int .i64 h.surv,.bool h.flip,.int .i64 h.hash,.slice (some ⟨g3,0,none⟩) h.kept.length h.kept.length,.slice (some ⟨P,0,none⟩) pr.length pr.length,.int .i64 pc,.slice (some ⟨O,0,none⟩) ot.length ot.length,.int .i64 st]:=⟨_,rfl⟩
   rw [<- e10] at KB hs RO ⊢
   clear e10
   have le10:N6<=w10.heap.size:=by have:=hs.size;omega
   have RZ:=R6.of_block (hs.block _ (by omega))
   have KMA:KM w10 A g1 g2 oa oc h:=⟨by rw [<- HL.out];exact KB.cell (i:=0) (by omega),KB.cell (i:=1) (by omega),KB.cell (i:=2) (by omega),fun j hj=>by rw [Nat.zero_add];exact (QB _ hs).1.cell hj,fun j hj=>(QB _ hs).2.1.cell hj,(QB _ hs).2.2⟩
   have KB0:=KB
   go_wp2_with fail
   refine Disk.z_plain 99 (fun W'=>W'.rowIs A 110 13 (fun i=>((#[.slice (some ⟨g1,0,none⟩) h.words.length h.words.length,.slice oa (obC h).length oc,.slice (some ⟨g2,0,none⟩) h.roots.length h.roots.length,.int .i64 h.old,.int .i64 h.eden,.int .i64 h.surv,.bool h.flip,.int .i64 h.hash,.slice (some ⟨g3,0,none⟩) h.kept.length h.kept.length,.slice (some ⟨P,0,none⟩) pr.length pr.length,.int .i64 pc,.slice (some ⟨O,0,none⟩) ot.length ot.length,.int .i64 st]:Array Value))[i]?.getD undef)) (by kernel_rfl) (KB0.of_block rfl) fun hq=>?_
   refine Disk.zt 0 54 (v:=.agg #[.slice (some ⟨g1,0,none⟩) h.words.length h.words.length,.slice oa (obC h).length oc,.slice (some ⟨g2,0,none⟩) h.roots.length h.roots.length,.int .i64 h.old,.int .i64 h.eden,.int .i64 h.surv,.bool h.flip,.int .i64 h.hash,.slice (some ⟨g3,0,none⟩) h.kept.length h.kept.length,.slice (some ⟨P,0,none⟩) pr.length pr.length,.int .i64 pc,.slice (some ⟨O,0,none⟩) ot.length ot.length,.int .i64 st]) rfl rfl hq (fun W' hSw=>(by
    obtain ⟨k0,k1,k2,k3,k4,k5,k6,k7⟩:=zrc8 hSw;have k8:=hSw.cell (i:=8) (by omega);have k9:=hSw.cell (i:=9) (by omega);have k10:=hSw.cell (i:=10) (by omega);have k11:=hSw.cell (i:=11) (by omega);have k12:=hSw.cell (i:=12) (by omega)
    go_simp;first|done|with_reducible rfl)) ?_
   simp only [zA,zB,zC]
   refine Disk.z_call 1 55 rfl rfl (by kernel_rfl) (by rfl) (f:=116) (args:=#[.pointer (some ⟨A,0,none⟩)]) (w0:=w10.drew) (by go_simp;first|done|with_reducible rfl) ?_
   refine (hasParts_any A g1 g2 oa oc h w10.drew (KMA.later (Below.refl _ _).drew) hk kl).mono ?_
   rintro e w11 ⟨rfl,hb11⟩
   have b11:Below w10.heap.size w10 w11:=bel_after (Below.refl _ _).drew hb11
   have KB1:=KB.of_block (b11.block _ KB.lt)
   have RZ1:=RZ.of_block (b11.block _ RZ.lt)
   have RO1:=RO.later b11
   refine ⟨_,rfl,.inr KB1,?_⟩
   simp only [zA,zB,zC]
   have hrun:=run_store_box w11 110 110 (w.heap.size+1) 13 #[.slice (some ⟨g1,0,none⟩) h.words.length h.words.length,.slice oa (obC h).length oc,.slice (some ⟨g2,0,none⟩) h.roots.length h.roots.length,.int .i64 h.old,.int .i64 h.eden,.int .i64 h.surv,.bool h.flip,.int .i64 h.hash,.slice (some ⟨g3,0,none⟩) h.kept.length h.kept.length,.slice (some ⟨P,0,none⟩) pr.length pr.length,.int .i64 pc,.slice (some ⟨O,0,none⟩) ot.length ot.length,.int .i64 st] f RZ1 rfl (by kernel_rfl) OKM
   have KA:=row_set w11 (w.heap.size+1) 110 13 #[.slice (some ⟨g1,0,none⟩) h.words.length h.words.length,.slice oa (obC h).length oc,.slice (some ⟨g2,0,none⟩) h.roots.length h.roots.length,.int .i64 h.old,.int .i64 h.eden,.int .i64 h.surv,.bool h.flip,.int .i64 h.hash,.slice (some ⟨g3,0,none⟩) h.kept.length h.kept.length,.slice (some ⟨P,0,none⟩) pr.length pr.length,.int .i64 pc,.slice (some ⟨O,0,none⟩) ot.length ot.length,.int .i64 st] f RZ1 rfl
   have GA:=grown_setRow w11 (w.heap.size+1) #[.slice (some ⟨g1,0,none⟩) h.words.length h.words.length,.slice oa (obC h).length oc,.slice (some ⟨g2,0,none⟩) h.roots.length h.roots.length,.int .i64 h.old,.int .i64 h.eden,.int .i64 h.surv,.bool h.flip,.int .i64 h.hash,.slice (some ⟨g3,0,none⟩) h.kept.length h.kept.length,.slice (some ⟨P,0,none⟩) pr.length pr.length,.int .i64 pc,.slice (some ⟨O,0,none⟩) ot.length ot.length,.int .i64 st]
   have nA:A ≠ w.heap.size+1:=by omega
   have nO:O ≠ w.heap.size+1:=by omega
   have KB2:=KB1.of_block (GA.block _ KB1.lt (by intro e;cases e;exact nA rfl))
   have RO2:=RO1.grown GA (by intro e;cases e;exact nO rfl)
   have b10:Below w.heap.size w w10:=BW6.trans (hs.mono (by omega))
   have BA:Below w.heap.size w (w11.setRow (w.heap.size+1) #[.slice (some ⟨g1,0,none⟩) h.words.length h.words.length,.slice oa (obC h).length oc,.slice (some ⟨g2,0,none⟩) h.roots.length h.roots.length,.int .i64 h.old,.int .i64 h.eden,.int .i64 h.surv,.bool h.flip,.int .i64 h.hash,.slice (some ⟨g3,0,none⟩) h.kept.length h.kept.length,.slice (some ⟨P,0,none⟩) pr.length pr.length,.int .i64 pc,.slice (some ⟨O,0,none⟩) ot.length ot.length,.int .i64 st]):=Below.grown (b10.trans (b11.mono b10.size)) GA (by have:=b10.size;have:=b11.size;omega) (fun q hq=>by cases hq;omega)
   refine Disk.z_skip 2 rfl rfl (by kernel_rfl) (by rfl) (exec_storeQ rfl rfl rfl hrun) (.inr KB2) ?_
   clear hrun GA
   obtain ⟨w12,e12⟩:∃ x,x=w11.setRow (w.heap.size+1) #[.slice (some ⟨g1,0,none⟩) h.words.length h.words.length,.slice oa (obC h).length oc,.slice (some ⟨g2,0,none⟩) h.roots.length h.roots.length,.int .i64 h.old,.int .i64 h.eden,.int .i64 h.surv,.bool h.flip,.int .i64 h.hash,.slice (some ⟨g3,0,none⟩) h.kept.length h.kept.length,.slice (some ⟨P,0,none⟩) pr.length pr.length,.int .i64 pc,.slice (some ⟨O,0,none⟩) ot.length ot.length,.int .i64 st]:=⟨_,rfl⟩
   rw [<- e12] at KA BA RO2 KB2 ⊢
   clear e12 KB KB0 KB1 KMA RZ RZ1 RO RO1
   refine Disk.zt 3 3 (v:=.bool (partsB h)) rfl rfl KB2 (fun W' hSw=>(by
    clear hSw
    go_simp;first|done|with_reducible rfl)) ?_
   simp only [zA,zB,zC]
   refine Disk.z_done (by kernel_rfl) ?_ _
   have r0:w12.cell? ⟨w.heap.size+1,0,none⟩=some (.slice (some ⟨g1,0,none⟩) h.words.length h.words.length):=KA.cell (i:=0) (by omega)
   have r1:w12.cell? ⟨w.heap.size+1,1,none⟩=some (.slice oa (obC h).length oc):=KA.cell (i:=1) (by omega)
   have r2:w12.cell? ⟨w.heap.size+1,2,none⟩=some (.slice (some ⟨g2,0,none⟩) h.roots.length h.roots.length):=KA.cell (i:=2) (by omega)
   have r3:w12.cell? ⟨w.heap.size+1,3,none⟩=some (.int .i64 h.old):=KA.cell (i:=3) (by omega)
   have r4:w12.cell? ⟨w.heap.size+1,4,none⟩=some (.int .i64 h.eden):=KA.cell (i:=4) (by omega)
   have r5:w12.cell? ⟨w.heap.size+1,5,none⟩=some (.int .i64 h.surv):=KA.cell (i:=5) (by omega)
   have r6:w12.cell? ⟨w.heap.size+1,6,none⟩=some (.bool h.flip):=KA.cell (i:=6) (by omega)
   have r7:w12.cell? ⟨w.heap.size+1,7,none⟩=some (.int .i64 h.hash):=KA.cell (i:=7) (by omega)
   have r8:w12.cell? ⟨w.heap.size+1,8,none⟩=some (.slice (some ⟨g3,0,none⟩) h.kept.length h.kept.length):=KA.cell (i:=8) (by omega)
   have r9:w12.cell? ⟨w.heap.size+1,9,none⟩=some (.slice (some ⟨P,0,none⟩) pr.length pr.length):=KA.cell (i:=9) (by omega)
   have r10:w12.cell? ⟨w.heap.size+1,10,none⟩=some (.int .i64 pc):=KA.cell (i:=10) (by omega)
   have r11:w12.cell? ⟨w.heap.size+1,11,none⟩=some (.slice (some ⟨O,0,none⟩) ot.length ot.length):=KA.cell (i:=11) (by omega)
   have r12:w12.cell? ⟨w.heap.size+1,12,none⟩=some (.int .i64 st):=KA.cell (i:=12) (by omega)
   go_wp2
   exact bodyPost_ret (v:=.tuple #[.agg #[.slice (some ⟨g1,0,none⟩) h.words.length h.words.length,.slice oa (obC h).length oc,.slice (some ⟨g2,0,none⟩) h.roots.length h.roots.length,.int .i64 h.old,.int .i64 h.eden,.int .i64 h.surv,.bool h.flip,.int .i64 h.hash,.slice (some ⟨g3,0,none⟩) h.kept.length h.kept.length,.slice (some ⟨P,0,none⟩) pr.length pr.length,.int .i64 pc,.slice (some ⟨O,0,none⟩) ot.length ot.length,.int .i64 st],.bool (partsB h)]) (by simp [results,Tryz.results75,go_sem,r0,r1,r2,r3,r4,r5,r6,r7,r8,r9,r10,r11,r12]) rfl ⟨.inl ⟨OKF.out,g1,g2,g3,P,O,oa,oc,rfl,RO2,by omega⟩,BA⟩
  ·have leN:N6<=w8.heap.size:=by have:=hs.size;omega
   refine o_run 12 6 (w':=w8.alloc (.cells #[.slice none 0 0,.slice none 0 0,.slice none 0 0,.int .i64 0,.int .i64 0,.int .i64 0,.bool false,.int .i64 0,.slice none 0 0,.slice none 0 0,.int .i64 0,.slice none 0 0,.int .i64 0] 110)) (v:=.pointer (some ⟨w8.heap.size,0,none⟩)) rfl rfl (by rfl) (by go_simp;first|done|with_reducible rfl) (.inr (hs.trans ((bel_one w8 _).mono leN))) ?_
   simp only [zA,zB,zC]
   obtain ⟨w9,ew9⟩:∃ x,x=w8.alloc (.cells #[.slice none 0 0,.slice none 0 0,.slice none 0 0,.int .i64 0,.int .i64 0,.int .i64 0,.bool false,.int .i64 0,.slice none 0 0,.slice none 0 0,.int .i64 0,.slice none 0 0,.int .i64 0] 110):=⟨_,rfl⟩
   obtain ⟨fA,RA⟩:∃ fA,w9.rowIs w8.heap.size 110 13 fA:=⟨_,by rw [ew9];exact row_any w8 #[.slice none 0 0,.slice none 0 0,.slice none 0 0,.int .i64 0,.int .i64 0,.int .i64 0,.bool false,.int .i64 0,.slice none 0 0,.slice none 0 0,.int .i64 0,.slice none 0 0,.int .i64 0] 110⟩
   have BX:Below w8.heap.size w8 w9:=by rw [ew9];exact bel_one w8 _
   rw [<- ew9]
   have ltw9:w8.heap.size<w9.heap.size:=RA.lt
   clear ew9
   obtain ⟨A,eA⟩:∃ x,x=w8.heap.size:=⟨_,rfl⟩
   rw [<- eA] at RA ⊢
   have lA:N6<=A:=by omega
   have RP:=RP.later BX
   have hs:=hs.trans (BX.mono leN)
   clear BX
   have leN:N6<=w9.heap.size:=by have:=hs.size;omega
   refine Disk.z_call 8 50 rfl rfl (by kernel_rfl) (by rfl) (f:=115) (args:=#[.slice ao ot.length co]) (w0:=w9) (by go_simp;first|done|with_reducible rfl) ?_
   refine (copyList_any _ ot w9 (HOT _ hs) (by omega)).mono ?_
   rintro e wa ⟨⟨rfl,RO,ltwa⟩,BX⟩
   refine ⟨_,rfl,.inr (hs.trans (BX.mono leN)),?_⟩
   simp only [zA,zB,zC]
   obtain ⟨O,eO⟩:∃ x,x=w9.heap.size:=⟨_,rfl⟩
   rw [<- eO] at RO ⊢
   have lO:N6<=O:=by omega
   have RP:=RP.later BX
   have RA:=RA.of_block (BX.block _ RA.lt)
   have hs:=hs.trans (BX.mono leN)
   clear BX
   refine Disk.zt 11 53 (v:=.agg #[.slice (some ⟨g1,0,none⟩) h.words.length h.words.length,.slice oa (obC h).length oc,.slice (some ⟨g2,0,none⟩) h.roots.length h.roots.length,.int .i64 h.old,.int .i64 h.eden,.int .i64 h.surv,.bool h.flip,.int .i64 h.hash,.slice (some ⟨g3,0,none⟩) h.kept.length h.kept.length,.slice (some ⟨P,0,none⟩) pr.length pr.length,.int .i64 pc,.slice (some ⟨O,0,none⟩) ot.length ot.length,.int .i64 st]) rfl rfl hs (fun W' hSw=>(by
    clear hSw
    go_simp;first|done|with_reducible rfl)) ?_
   simp only [zA,zB,zC]
   have OKM:(#[.slice (some ⟨g1,0,none⟩) h.words.length h.words.length,.slice oa (obC h).length oc,.slice (some ⟨g2,0,none⟩) h.roots.length h.roots.length,.int .i64 h.old,.int .i64 h.eden,.int .i64 h.surv,.bool h.flip,.int .i64 h.hash,.slice (some ⟨g3,0,none⟩) h.kept.length h.kept.length,.slice (some ⟨P,0,none⟩) pr.length pr.length,.int .i64 pc,.slice (some ⟨O,0,none⟩) ot.length ot.length,.int .i64 st]:Array Value).all (·.oneCell')=true:=by simp [Value.oneCell']
   have hrun:=run_store_box wa 110 110 A 13 #[.slice (some ⟨g1,0,none⟩) h.words.length h.words.length,.slice oa (obC h).length oc,.slice (some ⟨g2,0,none⟩) h.roots.length h.roots.length,.int .i64 h.old,.int .i64 h.eden,.int .i64 h.surv,.bool h.flip,.int .i64 h.hash,.slice (some ⟨g3,0,none⟩) h.kept.length h.kept.length,.slice (some ⟨P,0,none⟩) pr.length pr.length,.int .i64 pc,.slice (some ⟨O,0,none⟩) ot.length ot.length,.int .i64 st] fA RA rfl (by kernel_rfl) OKM
   have KB:=row_set wa A 110 13 #[.slice (some ⟨g1,0,none⟩) h.words.length h.words.length,.slice oa (obC h).length oc,.slice (some ⟨g2,0,none⟩) h.roots.length h.roots.length,.int .i64 h.old,.int .i64 h.eden,.int .i64 h.surv,.bool h.flip,.int .i64 h.hash,.slice (some ⟨g3,0,none⟩) h.kept.length h.kept.length,.slice (some ⟨P,0,none⟩) pr.length pr.length,.int .i64 pc,.slice (some ⟨O,0,none⟩) ot.length ot.length,.int .i64 st] fA RA rfl
   have GB:=grown_setRow wa A #[.slice (some ⟨g1,0,none⟩) h.words.length h.words.length,.slice oa (obC h).length oc,.slice (some ⟨g2,0,none⟩) h.roots.length h.roots.length,.int .i64 h.old,.int .i64 h.eden,.int .i64 h.surv,.bool h.flip,.int .i64 h.hash,.slice (some ⟨g3,0,none⟩) h.kept.length h.kept.length,.slice (some ⟨P,0,none⟩) pr.length pr.length,.int .i64 pc,.slice (some ⟨O,0,none⟩) ot.length ot.length,.int .i64 st]
   have nOA:O ≠ A:=by omega
   have RO:=RO.grown GB (by intro e;cases e;exact nOA rfl)
   have hs:Below N6 w6 (wa.setRow A #[.slice (some ⟨g1,0,none⟩) h.words.length h.words.length,.slice oa (obC h).length oc,.slice (some ⟨g2,0,none⟩) h.roots.length h.roots.length,.int .i64 h.old,.int .i64 h.eden,.int .i64 h.surv,.bool h.flip,.int .i64 h.hash,.slice (some ⟨g3,0,none⟩) h.kept.length h.kept.length,.slice (some ⟨P,0,none⟩) pr.length pr.length,.int .i64 pc,.slice (some ⟨O,0,none⟩) ot.length ot.length,.int .i64 st]):=Below.grown hs GB (by have:=hs.size;omega) (fun q hq=>by cases hq;exact lA)
   clear GB RA RP
   refine Disk.z_skip 13 rfl rfl (by kernel_rfl) (by rfl) (exec_storeQ rfl rfl rfl hrun) (.inr hs) ?_
   refine Disk.z_done (by kernel_rfl) ?_ _
   clear hrun eA eP eO
   obtain ⟨w10,e10⟩:∃ x,x=wa.setRow A #[.slice (some ⟨g1,0,none⟩) h.words.length h.words.length,.slice oa (obC h).length oc,.slice (some ⟨g2,0,none⟩) h.roots.length h.roots.length,.int .i64 h.old,.int .i64 h.eden,.int .i64 h.surv,.bool h.flip,.int .i64 h.hash,.slice (some ⟨g3,0,none⟩) h.kept.length h.kept.length,.slice (some ⟨P,0,none⟩) pr.length pr.length,.int .i64 pc,.slice (some ⟨O,0,none⟩) ot.length ot.length,.int .i64 st]:=⟨_,rfl⟩
   rw [<- e10] at KB hs RO ⊢
   clear e10
   have le10:N6<=w10.heap.size:=by have:=hs.size;omega
   have RZ:=R6.of_block (hs.block _ (by omega))
   have KMA:KM w10 A g1 g2 oa oc h:=⟨by rw [<- HL.out];exact KB.cell (i:=0) (by omega),KB.cell (i:=1) (by omega),KB.cell (i:=2) (by omega),fun j hj=>by rw [Nat.zero_add];exact (QB _ hs).1.cell hj,fun j hj=>(QB _ hs).2.1.cell hj,(QB _ hs).2.2⟩
   have KB0:=KB
   go_wp2_with fail
   refine Disk.z_plain 99 (fun W'=>W'.rowIs A 110 13 (fun i=>((#[.slice (some ⟨g1,0,none⟩) h.words.length h.words.length,.slice oa (obC h).length oc,.slice (some ⟨g2,0,none⟩) h.roots.length h.roots.length,.int .i64 h.old,.int .i64 h.eden,.int .i64 h.surv,.bool h.flip,.int .i64 h.hash,.slice (some ⟨g3,0,none⟩) h.kept.length h.kept.length,.slice (some ⟨P,0,none⟩) pr.length pr.length,.int .i64 pc,.slice (some ⟨O,0,none⟩) ot.length ot.length,.int .i64 st]:Array Value))[i]?.getD undef)) (by kernel_rfl) (KB0.of_block rfl) fun hq=>?_
   refine Disk.zt 0 54 (v:=.agg #[.slice (some ⟨g1,0,none⟩) h.words.length h.words.length,.slice oa (obC h).length oc,.slice (some ⟨g2,0,none⟩) h.roots.length h.roots.length,.int .i64 h.old,.int .i64 h.eden,.int .i64 h.surv,.bool h.flip,.int .i64 h.hash,.slice (some ⟨g3,0,none⟩) h.kept.length h.kept.length,.slice (some ⟨P,0,none⟩) pr.length pr.length,.int .i64 pc,.slice (some ⟨O,0,none⟩) ot.length ot.length,.int .i64 st]) rfl rfl hq (fun W' hSw=>(by
    obtain ⟨k0,k1,k2,k3,k4,k5,k6,k7⟩:=zrc8 hSw;have k8:=hSw.cell (i:=8) (by omega);have k9:=hSw.cell (i:=9) (by omega);have k10:=hSw.cell (i:=10) (by omega);have k11:=hSw.cell (i:=11) (by omega);have k12:=hSw.cell (i:=12) (by omega)
    go_simp;first|done|with_reducible rfl)) ?_
   simp only [zA,zB,zC]
   refine Disk.z_call 1 55 rfl rfl (by kernel_rfl) (by rfl) (f:=116) (args:=#[.pointer (some ⟨A,0,none⟩)]) (w0:=w10.drew) (by go_simp;first|done|with_reducible rfl) ?_
   refine (hasParts_any A g1 g2 oa oc h w10.drew (KMA.later (Below.refl _ _).drew) hk kl).mono ?_
   rintro e w11 ⟨rfl,hb11⟩
   have b11:Below w10.heap.size w10 w11:=bel_after (Below.refl _ _).drew hb11
   have KB1:=KB.of_block (b11.block _ KB.lt)
   have RZ1:=RZ.of_block (b11.block _ RZ.lt)
   have RO1:=RO.later b11
   refine ⟨_,rfl,.inr KB1,?_⟩
   simp only [zA,zB,zC]
   have hrun:=run_store_box w11 110 110 (w.heap.size+1) 13 #[.slice (some ⟨g1,0,none⟩) h.words.length h.words.length,.slice oa (obC h).length oc,.slice (some ⟨g2,0,none⟩) h.roots.length h.roots.length,.int .i64 h.old,.int .i64 h.eden,.int .i64 h.surv,.bool h.flip,.int .i64 h.hash,.slice (some ⟨g3,0,none⟩) h.kept.length h.kept.length,.slice (some ⟨P,0,none⟩) pr.length pr.length,.int .i64 pc,.slice (some ⟨O,0,none⟩) ot.length ot.length,.int .i64 st] f RZ1 rfl (by kernel_rfl) OKM
   have KA:=row_set w11 (w.heap.size+1) 110 13 #[.slice (some ⟨g1,0,none⟩) h.words.length h.words.length,.slice oa (obC h).length oc,.slice (some ⟨g2,0,none⟩) h.roots.length h.roots.length,.int .i64 h.old,.int .i64 h.eden,.int .i64 h.surv,.bool h.flip,.int .i64 h.hash,.slice (some ⟨g3,0,none⟩) h.kept.length h.kept.length,.slice (some ⟨P,0,none⟩) pr.length pr.length,.int .i64 pc,.slice (some ⟨O,0,none⟩) ot.length ot.length,.int .i64 st] f RZ1 rfl
   have GA:=grown_setRow w11 (w.heap.size+1) #[.slice (some ⟨g1,0,none⟩) h.words.length h.words.length,.slice oa (obC h).length oc,.slice (some ⟨g2,0,none⟩) h.roots.length h.roots.length,.int .i64 h.old,.int .i64 h.eden,.int .i64 h.surv,.bool h.flip,.int .i64 h.hash,.slice (some ⟨g3,0,none⟩) h.kept.length h.kept.length,.slice (some ⟨P,0,none⟩) pr.length pr.length,.int .i64 pc,.slice (some ⟨O,0,none⟩) ot.length ot.length,.int .i64 st]
   have nA:A ≠ w.heap.size+1:=by omega
   have nO:O ≠ w.heap.size+1:=by omega
   have KB2:=KB1.of_block (GA.block _ KB1.lt (by intro e;cases e;exact nA rfl))
   have RO2:=RO1.grown GA (by intro e;cases e;exact nO rfl)
   have b10:Below w.heap.size w w10:=BW6.trans (hs.mono (by omega))
   have BA:Below w.heap.size w (w11.setRow (w.heap.size+1) #[.slice (some ⟨g1,0,none⟩) h.words.length h.words.length,.slice oa (obC h).length oc,.slice (some ⟨g2,0,none⟩) h.roots.length h.roots.length,.int .i64 h.old,.int .i64 h.eden,.int .i64 h.surv,.bool h.flip,.int .i64 h.hash,.slice (some ⟨g3,0,none⟩) h.kept.length h.kept.length,.slice (some ⟨P,0,none⟩) pr.length pr.length,.int .i64 pc,.slice (some ⟨O,0,none⟩) ot.length ot.length,.int .i64 st]):=Below.grown (b10.trans (b11.mono b10.size)) GA (by have:=b10.size;have:=b11.size;omega) (fun q hq=>by cases hq;omega)
   refine Disk.z_skip 2 rfl rfl (by kernel_rfl) (by rfl) (exec_storeQ rfl rfl rfl hrun) (.inr KB2) ?_
   clear hrun GA
   obtain ⟨w12,e12⟩:∃ x,x=w11.setRow (w.heap.size+1) #[.slice (some ⟨g1,0,none⟩) h.words.length h.words.length,.slice oa (obC h).length oc,.slice (some ⟨g2,0,none⟩) h.roots.length h.roots.length,.int .i64 h.old,.int .i64 h.eden,.int .i64 h.surv,.bool h.flip,.int .i64 h.hash,.slice (some ⟨g3,0,none⟩) h.kept.length h.kept.length,.slice (some ⟨P,0,none⟩) pr.length pr.length,.int .i64 pc,.slice (some ⟨O,0,none⟩) ot.length ot.length,.int .i64 st]:=⟨_,rfl⟩
   rw [<- e12] at KA BA RO2 KB2 ⊢
   clear e12 KB KB0 KB1 KMA RZ RZ1 RO RO1
   refine Disk.zt 3 3 (v:=.bool (partsB h)) rfl rfl KB2 (fun W' hSw=>(by
    clear hSw
    go_simp;first|done|with_reducible rfl)) ?_
   simp only [zA,zB,zC]
   refine Disk.z_done (by kernel_rfl) ?_ _
   have r0:w12.cell? ⟨w.heap.size+1,0,none⟩=some (.slice (some ⟨g1,0,none⟩) h.words.length h.words.length):=KA.cell (i:=0) (by omega)
   have r1:w12.cell? ⟨w.heap.size+1,1,none⟩=some (.slice oa (obC h).length oc):=KA.cell (i:=1) (by omega)
   have r2:w12.cell? ⟨w.heap.size+1,2,none⟩=some (.slice (some ⟨g2,0,none⟩) h.roots.length h.roots.length):=KA.cell (i:=2) (by omega)
   have r3:w12.cell? ⟨w.heap.size+1,3,none⟩=some (.int .i64 h.old):=KA.cell (i:=3) (by omega)
   have r4:w12.cell? ⟨w.heap.size+1,4,none⟩=some (.int .i64 h.eden):=KA.cell (i:=4) (by omega)
   have r5:w12.cell? ⟨w.heap.size+1,5,none⟩=some (.int .i64 h.surv):=KA.cell (i:=5) (by omega)
   have r6:w12.cell? ⟨w.heap.size+1,6,none⟩=some (.bool h.flip):=KA.cell (i:=6) (by omega)
   have r7:w12.cell? ⟨w.heap.size+1,7,none⟩=some (.int .i64 h.hash):=KA.cell (i:=7) (by omega)
   have r8:w12.cell? ⟨w.heap.size+1,8,none⟩=some (.slice (some ⟨g3,0,none⟩) h.kept.length h.kept.length):=KA.cell (i:=8) (by omega)
   have r9:w12.cell? ⟨w.heap.size+1,9,none⟩=some (.slice (some ⟨P,0,none⟩) pr.length pr.length):=KA.cell (i:=9) (by omega)
   have r10:w12.cell? ⟨w.heap.size+1,10,none⟩=some (.int .i64 pc):=KA.cell (i:=10) (by omega)
   have r11:w12.cell? ⟨w.heap.size+1,11,none⟩=some (.slice (some ⟨O,0,none⟩) ot.length ot.length):=KA.cell (i:=11) (by omega)
   have r12:w12.cell? ⟨w.heap.size+1,12,none⟩=some (.int .i64 st):=KA.cell (i:=12) (by omega)
   go_wp2
   exact bodyPost_ret (v:=.tuple #[.agg #[.slice (some ⟨g1,0,none⟩) h.words.length h.words.length,.slice oa (obC h).length oc,.slice (some ⟨g2,0,none⟩) h.roots.length h.roots.length,.int .i64 h.old,.int .i64 h.eden,.int .i64 h.surv,.bool h.flip,.int .i64 h.hash,.slice (some ⟨g3,0,none⟩) h.kept.length h.kept.length,.slice (some ⟨P,0,none⟩) pr.length pr.length,.int .i64 pc,.slice (some ⟨O,0,none⟩) ot.length ot.length,.int .i64 st],.bool (partsB h)]) (by simp [results,Tryz.results75,go_sem,r0,r1,r2,r3,r4,r5,r6,r7,r8,r9,r10,r11,r12]) rfl ⟨.inl ⟨OKF.out,g1,g2,g3,P,O,oa,oc,rfl,RO2,by omega⟩,BA⟩
 ·have leN:N6<=w7.heap.size:=by have:=hs.size;omega
  refine o_run 12 6 (w':=w7.alloc (.cells #[.slice none 0 0,.slice none 0 0,.slice none 0 0,.int .i64 0,.int .i64 0,.int .i64 0,.bool false,.int .i64 0,.slice none 0 0,.slice none 0 0,.int .i64 0,.slice none 0 0,.int .i64 0] 110)) (v:=.pointer (some ⟨w7.heap.size,0,none⟩)) rfl rfl (by rfl) (by go_simp;first|done|with_reducible rfl) (.inr (hs.trans ((bel_one w7 _).mono leN))) ?_
  simp only [zA,zB,zC]
  obtain ⟨w8,ew8⟩:∃ x,x=w7.alloc (.cells #[.slice none 0 0,.slice none 0 0,.slice none 0 0,.int .i64 0,.int .i64 0,.int .i64 0,.bool false,.int .i64 0,.slice none 0 0,.slice none 0 0,.int .i64 0,.slice none 0 0,.int .i64 0] 110):=⟨_,rfl⟩
  obtain ⟨fA,RA⟩:∃ fA,w8.rowIs w7.heap.size 110 13 fA:=⟨_,by rw [ew8];exact row_any w7 #[.slice none 0 0,.slice none 0 0,.slice none 0 0,.int .i64 0,.int .i64 0,.int .i64 0,.bool false,.int .i64 0,.slice none 0 0,.slice none 0 0,.int .i64 0,.slice none 0 0,.int .i64 0] 110⟩
  have BX:Below w7.heap.size w7 w8:=by rw [ew8];exact bel_one w7 _
  rw [<- ew8]
  have ltw8:w7.heap.size<w8.heap.size:=RA.lt
  clear ew8
  obtain ⟨A,eA⟩:∃ x,x=w7.heap.size:=⟨_,rfl⟩
  rw [<- eA] at RA ⊢
  have lA:N6<=A:=by omega
  have hs:=hs.trans (BX.mono leN)
  clear BX
  have leN:N6<=w8.heap.size:=by have:=hs.size;omega
  refine Disk.z_call 3 45 rfl rfl (by kernel_rfl) (by rfl) (f:=41) (args:=#[.slice ap pr.length cp]) (w0:=w8) (by go_simp;first|done|with_reducible rfl) ?_
  refine (copyCodes_any _ pr w8 (HPR _ hs) (by omega)).mono ?_
  rintro e w9 ⟨⟨rfl,RP,ltw9⟩,BX⟩
  refine ⟨_,rfl,.inr (hs.trans (BX.mono leN)),?_⟩
  simp only [zA,zB,zC]
  obtain ⟨P,eP⟩:∃ x,x=w8.heap.size:=⟨_,rfl⟩
  rw [<- eP] at RP ⊢
  have lP:N6<=P:=by omega
  have RA:=RA.of_block (BX.block _ RA.lt)
  have hs:=hs.trans (BX.mono leN)
  clear BX
  have leN:N6<=w9.heap.size:=by have:=hs.size;omega
  refine Disk.z_call 8 50 rfl rfl (by kernel_rfl) (by rfl) (f:=115) (args:=#[.slice ao ot.length co]) (w0:=w9) (by go_simp;first|done|with_reducible rfl) ?_
  refine (copyList_any _ ot w9 (HOT _ hs) (by omega)).mono ?_
  rintro e wa ⟨⟨rfl,RO,ltwa⟩,BX⟩
  refine ⟨_,rfl,.inr (hs.trans (BX.mono leN)),?_⟩
  simp only [zA,zB,zC]
  obtain ⟨O,eO⟩:∃ x,x=w9.heap.size:=⟨_,rfl⟩
  rw [<- eO] at RO ⊢
  have lO:N6<=O:=by omega
  have RA:=RA.of_block (BX.block _ RA.lt)
  have RP:=RP.later BX
  have hs:=hs.trans (BX.mono leN)
  clear BX
  refine Disk.zt 11 53 (v:=.agg #[.slice (some ⟨g1,0,none⟩) h.words.length h.words.length,.slice oa (obC h).length oc,.slice (some ⟨g2,0,none⟩) h.roots.length h.roots.length,.int .i64 h.old,.int .i64 h.eden,.int .i64 h.surv,.bool h.flip,.int .i64 h.hash,.slice (some ⟨g3,0,none⟩) h.kept.length h.kept.length,.slice (some ⟨P,0,none⟩) pr.length pr.length,.int .i64 pc,.slice (some ⟨O,0,none⟩) ot.length ot.length,.int .i64 st]) rfl rfl hs (fun W' hSw=>(by
   clear hSw
   go_simp;first|done|with_reducible rfl)) ?_
  simp only [zA,zB,zC]
  have OKM:(#[.slice (some ⟨g1,0,none⟩) h.words.length h.words.length,.slice oa (obC h).length oc,.slice (some ⟨g2,0,none⟩) h.roots.length h.roots.length,.int .i64 h.old,.int .i64 h.eden,.int .i64 h.surv,.bool h.flip,.int .i64 h.hash,.slice (some ⟨g3,0,none⟩) h.kept.length h.kept.length,.slice (some ⟨P,0,none⟩) pr.length pr.length,.int .i64 pc,.slice (some ⟨O,0,none⟩) ot.length ot.length,.int .i64 st]:Array Value).all (·.oneCell')=true:=by simp [Value.oneCell']
  have hrun:=run_store_box wa 110 110 A 13 #[.slice (some ⟨g1,0,none⟩) h.words.length h.words.length,.slice oa (obC h).length oc,.slice (some ⟨g2,0,none⟩) h.roots.length h.roots.length,.int .i64 h.old,.int .i64 h.eden,.int .i64 h.surv,.bool h.flip,.int .i64 h.hash,.slice (some ⟨g3,0,none⟩) h.kept.length h.kept.length,.slice (some ⟨P,0,none⟩) pr.length pr.length,.int .i64 pc,.slice (some ⟨O,0,none⟩) ot.length ot.length,.int .i64 st] fA RA rfl (by kernel_rfl) OKM
  have KB:=row_set wa A 110 13 #[.slice (some ⟨g1,0,none⟩) h.words.length h.words.length,.slice oa (obC h).length oc,.slice (some ⟨g2,0,none⟩) h.roots.length h.roots.length,.int .i64 h.old,.int .i64 h.eden,.int .i64 h.surv,.bool h.flip,.int .i64 h.hash,.slice (some ⟨g3,0,none⟩) h.kept.length h.kept.length,.slice (some ⟨P,0,none⟩) pr.length pr.length,.int .i64 pc,.slice (some ⟨O,0,none⟩) ot.length ot.length,.int .i64 st] fA RA rfl
  have GB:=grown_setRow wa A #[.slice (some ⟨g1,0,none⟩) h.words.length h.words.length,.slice oa (obC h).length oc,.slice (some ⟨g2,0,none⟩) h.roots.length h.roots.length,.int .i64 h.old,.int .i64 h.eden,.int .i64 h.surv,.bool h.flip,.int .i64 h.hash,.slice (some ⟨g3,0,none⟩) h.kept.length h.kept.length,.slice (some ⟨P,0,none⟩) pr.length pr.length,.int .i64 pc,.slice (some ⟨O,0,none⟩) ot.length ot.length,.int .i64 st]
  have nOA:O ≠ A:=by omega
  have RO:=RO.grown GB (by intro e;cases e;exact nOA rfl)
  have hs:Below N6 w6 (wa.setRow A #[.slice (some ⟨g1,0,none⟩) h.words.length h.words.length,.slice oa (obC h).length oc,.slice (some ⟨g2,0,none⟩) h.roots.length h.roots.length,.int .i64 h.old,.int .i64 h.eden,.int .i64 h.surv,.bool h.flip,.int .i64 h.hash,.slice (some ⟨g3,0,none⟩) h.kept.length h.kept.length,.slice (some ⟨P,0,none⟩) pr.length pr.length,.int .i64 pc,.slice (some ⟨O,0,none⟩) ot.length ot.length,.int .i64 st]):=Below.grown hs GB (by have:=hs.size;omega) (fun q hq=>by cases hq;exact lA)
  clear GB RA RP
  refine Disk.z_skip 13 rfl rfl (by kernel_rfl) (by rfl) (exec_storeQ rfl rfl rfl hrun) (.inr hs) ?_
  refine Disk.z_done (by kernel_rfl) ?_ _
  clear hrun eA eP eO
  obtain ⟨w10,e10⟩:∃ x,x=wa.setRow A #[.slice (some ⟨g1,0,none⟩) h.words.length h.words.length,.slice oa (obC h).length oc,.slice (some ⟨g2,0,none⟩) h.roots.length h.roots.length,.int .i64 h.old,.int .i64 h.eden,.int .i64 h.surv,.bool h.flip,.int .i64 h.hash,.slice (some ⟨g3,0,none⟩) h.kept.length h.kept.length,.slice (some ⟨P,0,none⟩) pr.length pr.length,.int .i64 pc,.slice (some ⟨O,0,none⟩) ot.length ot.length,.int .i64 st]:=⟨_,rfl⟩
  rw [<- e10] at KB hs RO ⊢
  clear e10
  have le10:N6<=w10.heap.size:=by have:=hs.size;omega
  have RZ:=R6.of_block (hs.block _ (by omega))
  have KMA:KM w10 A g1 g2 oa oc h:=⟨by rw [<- HL.out];exact KB.cell (i:=0) (by omega),KB.cell (i:=1) (by omega),KB.cell (i:=2) (by omega),fun j hj=>by rw [Nat.zero_add];exact (QB _ hs).1.cell hj,fun j hj=>(QB _ hs).2.1.cell hj,(QB _ hs).2.2⟩
  have KB0:=KB
  go_wp2_with fail
  refine Disk.z_plain 99 (fun W'=>W'.rowIs A 110 13 (fun i=>((#[.slice (some ⟨g1,0,none⟩) h.words.length h.words.length,.slice oa (obC h).length oc,.slice (some ⟨g2,0,none⟩) h.roots.length h.roots.length,.int .i64 h.old,.int .i64 h.eden,.int .i64 h.surv,.bool h.flip,.int .i64 h.hash,.slice (some ⟨g3,0,none⟩) h.kept.length h.kept.length,.slice (some ⟨P,0,none⟩) pr.length pr.length,.int .i64 pc,.slice (some ⟨O,0,none⟩) ot.length ot.length,.int .i64 st]:Array Value))[i]?.getD undef)) (by kernel_rfl) (KB0.of_block rfl) fun hq=>?_
  refine Disk.zt 0 54 (v:=.agg #[.slice (some ⟨g1,0,none⟩) h.words.length h.words.length,.slice oa (obC h).length oc,.slice (some ⟨g2,0,none⟩) h.roots.length h.roots.length,.int .i64 h.old,.int .i64 h.eden,.int .i64 h.surv,.bool h.flip,.int .i64 h.hash,.slice (some ⟨g3,0,none⟩) h.kept.length h.kept.length,.slice (some ⟨P,0,none⟩) pr.length pr.length,.int .i64 pc,.slice (some ⟨O,0,none⟩) ot.length ot.length,.int .i64 st]) rfl rfl hq (fun W' hSw=>(by
   obtain ⟨k0,k1,k2,k3,k4,k5,k6,k7⟩:=zrc8 hSw;have k8:=hSw.cell (i:=8) (by omega);have k9:=hSw.cell (i:=9) (by omega);have k10:=hSw.cell (i:=10) (by omega);have k11:=hSw.cell (i:=11) (by omega);have k12:=hSw.cell (i:=12) (by omega)
   go_simp;first|done|with_reducible rfl)) ?_
  simp only [zA,zB,zC]
  refine Disk.z_call 1 55 rfl rfl (by kernel_rfl) (by rfl) (f:=116) (args:=#[.pointer (some ⟨A,0,none⟩)]) (w0:=w10.drew) (by go_simp;first|done|with_reducible rfl) ?_
  refine (hasParts_any A g1 g2 oa oc h w10.drew (KMA.later (Below.refl _ _).drew) hk kl).mono ?_
  rintro e w11 ⟨rfl,hb11⟩
  have b11:Below w10.heap.size w10 w11:=bel_after (Below.refl _ _).drew hb11
  have KB1:=KB.of_block (b11.block _ KB.lt)
  have RZ1:=RZ.of_block (b11.block _ RZ.lt)
  have RO1:=RO.later b11
  refine ⟨_,rfl,.inr KB1,?_⟩
  simp only [zA,zB,zC]
  have hrun:=run_store_box w11 110 110 (w.heap.size+1) 13 #[.slice (some ⟨g1,0,none⟩) h.words.length h.words.length,.slice oa (obC h).length oc,.slice (some ⟨g2,0,none⟩) h.roots.length h.roots.length,.int .i64 h.old,.int .i64 h.eden,.int .i64 h.surv,.bool h.flip,.int .i64 h.hash,.slice (some ⟨g3,0,none⟩) h.kept.length h.kept.length,.slice (some ⟨P,0,none⟩) pr.length pr.length,.int .i64 pc,.slice (some ⟨O,0,none⟩) ot.length ot.length,.int .i64 st] f RZ1 rfl (by kernel_rfl) OKM
  have KA:=row_set w11 (w.heap.size+1) 110 13 #[.slice (some ⟨g1,0,none⟩) h.words.length h.words.length,.slice oa (obC h).length oc,.slice (some ⟨g2,0,none⟩) h.roots.length h.roots.length,.int .i64 h.old,.int .i64 h.eden,.int .i64 h.surv,.bool h.flip,.int .i64 h.hash,.slice (some ⟨g3,0,none⟩) h.kept.length h.kept.length,.slice (some ⟨P,0,none⟩) pr.length pr.length,.int .i64 pc,.slice (some ⟨O,0,none⟩) ot.length ot.length,.int .i64 st] f RZ1 rfl
  have GA:=grown_setRow w11 (w.heap.size+1) #[.slice (some ⟨g1,0,none⟩) h.words.length h.words.length,.slice oa (obC h).length oc,.slice (some ⟨g2,0,none⟩) h.roots.length h.roots.length,.int .i64 h.old,.int .i64 h.eden,.int .i64 h.surv,.bool h.flip,.int .i64 h.hash,.slice (some ⟨g3,0,none⟩) h.kept.length h.kept.length,.slice (some ⟨P,0,none⟩) pr.length pr.length,.int .i64 pc,.slice (some ⟨O,0,none⟩) ot.length ot.length,.int .i64 st]
  have nA:A ≠ w.heap.size+1:=by omega
  have nO:O ≠ w.heap.size+1:=by omega
  have KB2:=KB1.of_block (GA.block _ KB1.lt (by intro e;cases e;exact nA rfl))
  have RO2:=RO1.grown GA (by intro e;cases e;exact nO rfl)
  have b10:Below w.heap.size w w10:=BW6.trans (hs.mono (by omega))
  have BA:Below w.heap.size w (w11.setRow (w.heap.size+1) #[.slice (some ⟨g1,0,none⟩) h.words.length h.words.length,.slice oa (obC h).length oc,.slice (some ⟨g2,0,none⟩) h.roots.length h.roots.length,.int .i64 h.old,.int .i64 h.eden,.int .i64 h.surv,.bool h.flip,.int .i64 h.hash,.slice (some ⟨g3,0,none⟩) h.kept.length h.kept.length,.slice (some ⟨P,0,none⟩) pr.length pr.length,.int .i64 pc,.slice (some ⟨O,0,none⟩) ot.length ot.length,.int .i64 st]):=Below.grown (b10.trans (b11.mono b10.size)) GA (by have:=b10.size;have:=b11.size;omega) (fun q hq=>by cases hq;omega)
  refine Disk.z_skip 2 rfl rfl (by kernel_rfl) (by rfl) (exec_storeQ rfl rfl rfl hrun) (.inr KB2) ?_
  clear hrun GA
  obtain ⟨w12,e12⟩:∃ x,x=w11.setRow (w.heap.size+1) #[.slice (some ⟨g1,0,none⟩) h.words.length h.words.length,.slice oa (obC h).length oc,.slice (some ⟨g2,0,none⟩) h.roots.length h.roots.length,.int .i64 h.old,.int .i64 h.eden,.int .i64 h.surv,.bool h.flip,.int .i64 h.hash,.slice (some ⟨g3,0,none⟩) h.kept.length h.kept.length,.slice (some ⟨P,0,none⟩) pr.length pr.length,.int .i64 pc,.slice (some ⟨O,0,none⟩) ot.length ot.length,.int .i64 st]:=⟨_,rfl⟩
  rw [<- e12] at KA BA RO2 KB2 ⊢
  clear e12 KB KB0 KB1 KMA RZ RZ1 RO RO1
  refine Disk.zt 3 3 (v:=.bool (partsB h)) rfl rfl KB2 (fun W' hSw=>(by
   clear hSw
   go_simp;first|done|with_reducible rfl)) ?_
  simp only [zA,zB,zC]
  refine Disk.z_done (by kernel_rfl) ?_ _
  have r0:w12.cell? ⟨w.heap.size+1,0,none⟩=some (.slice (some ⟨g1,0,none⟩) h.words.length h.words.length):=KA.cell (i:=0) (by omega)
  have r1:w12.cell? ⟨w.heap.size+1,1,none⟩=some (.slice oa (obC h).length oc):=KA.cell (i:=1) (by omega)
  have r2:w12.cell? ⟨w.heap.size+1,2,none⟩=some (.slice (some ⟨g2,0,none⟩) h.roots.length h.roots.length):=KA.cell (i:=2) (by omega)
  have r3:w12.cell? ⟨w.heap.size+1,3,none⟩=some (.int .i64 h.old):=KA.cell (i:=3) (by omega)
  have r4:w12.cell? ⟨w.heap.size+1,4,none⟩=some (.int .i64 h.eden):=KA.cell (i:=4) (by omega)
  have r5:w12.cell? ⟨w.heap.size+1,5,none⟩=some (.int .i64 h.surv):=KA.cell (i:=5) (by omega)
  have r6:w12.cell? ⟨w.heap.size+1,6,none⟩=some (.bool h.flip):=KA.cell (i:=6) (by omega)
  have r7:w12.cell? ⟨w.heap.size+1,7,none⟩=some (.int .i64 h.hash):=KA.cell (i:=7) (by omega)
  have r8:w12.cell? ⟨w.heap.size+1,8,none⟩=some (.slice (some ⟨g3,0,none⟩) h.kept.length h.kept.length):=KA.cell (i:=8) (by omega)
  have r9:w12.cell? ⟨w.heap.size+1,9,none⟩=some (.slice (some ⟨P,0,none⟩) pr.length pr.length):=KA.cell (i:=9) (by omega)
  have r10:w12.cell? ⟨w.heap.size+1,10,none⟩=some (.int .i64 pc):=KA.cell (i:=10) (by omega)
  have r11:w12.cell? ⟨w.heap.size+1,11,none⟩=some (.slice (some ⟨O,0,none⟩) ot.length ot.length):=KA.cell (i:=11) (by omega)
  have r12:w12.cell? ⟨w.heap.size+1,12,none⟩=some (.int .i64 st):=KA.cell (i:=12) (by omega)
  go_wp2
  exact bodyPost_ret (v:=.tuple #[.agg #[.slice (some ⟨g1,0,none⟩) h.words.length h.words.length,.slice oa (obC h).length oc,.slice (some ⟨g2,0,none⟩) h.roots.length h.roots.length,.int .i64 h.old,.int .i64 h.eden,.int .i64 h.surv,.bool h.flip,.int .i64 h.hash,.slice (some ⟨g3,0,none⟩) h.kept.length h.kept.length,.slice (some ⟨P,0,none⟩) pr.length pr.length,.int .i64 pc,.slice (some ⟨O,0,none⟩) ot.length ot.length,.int .i64 st],.bool (partsB h)]) (by simp [results,Tryz.results75,go_sem,r0,r1,r2,r3,r4,r5,r6,r7,r8,r9,r10,r11,r12]) rfl ⟨.inl ⟨OKF.out,g1,g2,g3,P,O,oa,oc,rfl,RO2,by omega⟩,BA⟩
end Go.Proofs.YtgnbibinclepcaaGreatDoor
