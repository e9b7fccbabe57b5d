
import Derived.Test.YtgnbibinclepcaaGreatDoorZP10
import Derived.Test.YtgnbibinclepcaaGreatDoorZHSpecO
import Derived.Test.YtgnbibinclepcaaGreatDoorZP8
import Derived.Laws.CopyOwn
/- HeapOk, Objects, Young and Header of the model and of the program, in one plain word each. -/
namespace Go.Proofs.YtgnbibinclepcaaGreatDoor
open Go.RowKit
noncomputable def okC (h:Hp):Bool:=@decide (∃ l,RightAt h l) (Classical.propDecidable _)
noncomputable def obC (h:Hp):List Nat:=@dite _ (∃ l,RightAt h l) (Classical.propDecidable _) (fun k=>Classical.choose k) (fun _=>[])
theorem c_yes {h:Hp} {l:List Nat} (k:RightAt h l):okC h=true/\obC h=l:=by
 have hk:∃ l,RightAt h l:=⟨l,k⟩
 refine ⟨@decide_eq_true _ (Classical.propDecidable _) hk,?_⟩
 unfold obC
 rw [dif_pos hk]
 exact (Classical.choose_spec hk).eq k
theorem c_no {h:Hp} (k:∀ l,¬ RightAt h l):okC h=false/\obC h=[]:=by
 have hk:¬ ∃ l,RightAt h l:=fun ⟨l,q⟩=>k l q
 refine ⟨@decide_eq_false _ (Classical.propDecidable _) hk,?_⟩
 unfold obC
 rw [dif_neg hk]
theorem c_right {h:Hp} (k:okC h=true):RightAt h (obC h):=by
 have hk:∃ l,RightAt h l:=@of_decide_eq_true _ (Classical.propDecidable _) k
 obtain ⟨l,q⟩:=hk
 rw [(c_yes q).2]
 exact q
theorem c_wrong {h:Hp} (k:okC h=false):obC h=[]:=(c_no (fun l q=>by rw [(c_yes q).1] at k;cases k)).2
theorem ob_short (h:Hp):(obC h).length<=3200:=by
 cases k:okC h
 ·rw [c_wrong k];simp
 ·exact (c_right k).1.short
theorem okOut_eq {h:Hp} {x:Ending} (k:OkOut h x):x=.returned (.bool (okC h)):=by
 obtain ⟨ok,rfl,hk⟩:=k
 cases ok
 ·rw [(c_no (fun l q=>by have:=hk.2 ⟨l,q⟩;cases this)).1]
 ·obtain ⟨l,q⟩:=hk.1 rfl
  rw [(c_yes q).1]
theorem specHeapOk_c (v:Value) (h:Hp) (w:World) (hv:HR w v h) (hro:h.roots.length<=1000000000000) (hke:h.kept.length<=1000000000000) :
  Calls Tryz.prog 43 #[v] w fun x w'=>x=.returned (.bool (okC h))/\Below w.heap.size w w' :=
 (specHeapOk_any v h w hv hro hke).mono fun _ _ ⟨a,b⟩=>⟨okOut_eq a,b⟩
theorem right_c (v:Value) (h:Hp) (w:World) (hv:HR w v h) (hro:h.roots.length<=1000000000000) (hke:h.kept.length<=1000000000000) :
  Calls Tryz.prog 94 #[v] w fun x w'=>(∃ v',x=.returned (.tuple #[v',.bool (okC h)])/\w'.ownsRow w.heap.size 2 1 v' (obC h).length (icells (ints (obC h))))/\Below w.heap.size w w' :=
 (rightObjects_any v h w hv hro hke).mono fun x w' ⟨a,b⟩=>by
  refine ⟨?_,b⟩
  rcases a with ⟨l,v',rfl,ho,hr,_⟩|⟨rfl,hn⟩
  ·obtain ⟨e1,e2⟩:=c_yes hr
   rw [e1,e2]
   exact ⟨v',rfl,ho⟩
  ·obtain ⟨e1,e2⟩:=c_no hn
   rw [e1,e2]
   exact ⟨_,rfl,⟨by simp [icells,ints],.inl ⟨rfl,rfl⟩⟩⟩
theorem implHeapOk_c (v:Value) (h:Hp) (w:World) (hv:HR w v h) (hro:h.roots.length<=1000000000000) (hke:h.kept.length<=1000000000000) :
  Calls Tryz.prog 45 #[v] w fun x w'=>x=.returned (.bool (okC h))/\Below w.heap.size w w':=by
 obtain ⟨v1,v2,v3,rfl,i1,i2,i3⟩:=id hv
 have hb0:=bel_one w (.cells #[v1,v2,.int .i64 h.old,.int .i64 h.eden,.int .i64 h.surv,.bool h.flip,.int .i64 h.hash,v3] 26)
 have C:=right_c _ h _ (hv.later hb0) hro hke
 go_enter Tryz.func45,Tryz.ntmps45
 go_wp2_with fail
 refine C.mono ?_
 rintro x w1 ⟨⟨v',rfl,ho⟩,hb1⟩
 go_wp2
 go_ret
 exact ⟨rfl,bel_after hb0 hb1⟩
end Go.Proofs.YtgnbibinclepcaaGreatDoor
/- Header of the model and of the program. -/
namespace Go.Proofs.YtgnbibinclepcaaGreatDoor
open Go.RowKit
end Go.Proofs.YtgnbibinclepcaaGreatDoor
/- The walks of the laws on HeapOk, Young and Header. -/
namespace Go.Proofs.YtgnbibinclepcaaGreatDoor
open Go.RowKit
end Go.Proofs.YtgnbibinclepcaaGreatDoor
/- The walk of the law on NewHeap. -/
namespace Go.Proofs.YtgnbibinclepcaaGreatDoor
open Go.RowKit
theorem HN.out {B:Nat} {w:World} {v:Value} {h:Hp} (k:HN B w v h):∃ a1 c1 a2 c2 a3 c3,v=.agg #[.slice a1 h.words.length c1,.slice a2 h.roots.length c2,.int .i64 h.old,.int .i64 h.eden,.int .i64 h.surv,.bool h.flip,.int .i64 h.hash,.slice a3 h.kept.length c3] ∧
  (Disk.OS w 2 1 (.slice a1 h.words.length c1) h.words.length/\Disk.OS w 2 1 (.slice a2 h.roots.length c2) h.roots.length/\Disk.OS w 2 1 (.slice a3 h.kept.length c3) h.kept.length)/\(IR w (.slice a1 h.words.length c1) h.words/\IR w (.slice a2 h.roots.length c2) h.roots/\IR w (.slice a3 h.kept.length c3) h.kept) ∧
  ((∀ b,Disk.rowOf (.slice a1 h.words.length c1) h.words.length=some b->B<=b)/\(∀ b,Disk.rowOf (.slice a2 h.roots.length c2) h.roots.length=some b->B<=b)/\(∀ b,Disk.rowOf (.slice a3 h.kept.length c3) h.kept.length=some b->B<=b)) ∧
  (∀ b,Disk.rowOf (.slice a1 h.words.length c1) h.words.length=some b->Disk.rowOf (.slice a2 h.roots.length c2) h.roots.length ≠ some b)/\(∀ b,Disk.rowOf (.slice a1 h.words.length c1) h.words.length=some b->Disk.rowOf (.slice a3 h.kept.length c3) h.kept.length ≠ some b)/\(∀ b,Disk.rowOf (.slice a2 h.roots.length c2) h.roots.length=some b->Disk.rowOf (.slice a3 h.kept.length c3) h.kept.length ≠ some b):=by
 obtain ⟨v1,v2,v3,e,os,ir,rest⟩:=k.ex
 obtain ⟨a1,c1,rfl,_⟩:=IRs ir.1
 obtain ⟨a2,c2,rfl,_⟩:=IRs ir.2.1
 obtain ⟨a3,c3,rfl,_⟩:=IRs ir.2.2
 exact ⟨a1,c1,a2,c2,a3,c3,e,os,ir,rest⟩
theorem IR.keep {w w' : World} {v:Value} {l:List Int} (h:IR w v l) (hk:∀ a n c,v=.slice (some a) n c->0<n->w'.heap[a.block]?=w.heap[a.block]?):IR w' v l:=by
 obtain ⟨ao,cap,rfl,hle,h⟩:=h
 refine ⟨ao,cap,rfl,hle,fun i hi=>?_⟩
 obtain ⟨b,o,rfl,hc⟩:=h i hi
 have q:w'.heap[b]?=w.heap[b]?:=hk _ _ _ rfl (by omega)
 exact ⟨b,o,rfl,(World.cell?_of_block (w:=w) (a:=⟨b,o+i,none⟩) q).trans hc⟩
end Go.Proofs.YtgnbibinclepcaaGreatDoor
/- Rows of numbers that a call has made: read, written, copied; heaps of such rows. -/
namespace Go.Proofs.YtgnbibinclepcaaGreatDoor
open Go.RowKit
def RI (w:World) (g:Nat) (l:List Int) (c:Nat):Prop:=∃ f,w.rowIs g 2 c f/\l.length<=c/\∀ i,i<l.length->f i=.int .i64 (l.getD i 0)
theorem RI.lt {w:World} {g c:Nat} {l:List Int} (h:RI w g l c):g<w.heap.size:=by
 obtain ⟨f,h,_⟩:=h
 exact h.lt
theorem RI.block {w w' : World} {g c:Nat} {l:List Int} (h:RI w g l c) (hb:w'.heap[g]?=w.heap[g]?):RI w' g l c:=by
 obtain ⟨f,h,r⟩:=h
 exact ⟨f,h.of_block hb,r⟩
theorem RI.later {w w' : World} {g c:Nat} {l:List Int} (h:RI w g l c) (hb:Below w.heap.size w w'):RI w' g l c:=h.block (hb.block g h.lt)
theorem RI.grown {w w' : World} {g c:Nat} {l:List Int} {r:Option Nat} (h:RI w g l c) (hg:w.grownBy w' r) (hr:some g ≠ r):RI w' g l c:=h.block (hg.block g h.lt hr)
theorem RI.cell {w:World} {g c:Nat} {l:List Int} (h:RI w g l c) {i:Nat} (hi:i<l.length):w.cell? ⟨g,i,none⟩=some (.int .i64 (l.getD i 0)):=by
 obtain ⟨f,h,hN,e⟩:=h
 rw [h.cell (by omega),e i hi]
theorem IR.keep' {w w' : World} {v:Value} {l:List Int} (h:IR w v l) (hk:∀ a n c,v=.slice (some a) n c->0<n->w'.heap[a.block]?=w.heap[a.block]?):IR w' v l:=by
 obtain ⟨ao,cap,rfl,hle,h⟩:=h
 refine ⟨ao,cap,rfl,hle,fun i hi=>?_⟩
 obtain ⟨b,o,rfl,hc⟩:=h i hi
 have q:w'.heap[b]?=w.heap[b]?:=hk _ _ _ rfl (by omega)
 exact ⟨b,o,rfl,(World.cell?_of_block (w:=w) (a:=⟨b,o+i,none⟩) q).trans hc⟩
theorem RI.setOther {w:World} {g b i c:Nat} {l:List Int} (h:RI w g l c) (hb:g ≠ b) (v:Value):RI (w.setCell ⟨b,i,none⟩ v) g l c:=by
 obtain ⟨f,h,r⟩:=h
 exact ⟨f,h.setOther (a:=⟨b,i,none⟩) hb v,r⟩
theorem splice_get (W l:List Int) (off i:Nat) (h:off+l.length<=W.length):(splice W off l).getD i 0=if i<off then W.getD i 0 else if i<off+l.length then l.getD (i - off) 0 else W.getD i 0:=by
 unfold splice
 simp only [List.getD_eq_getElem?_getD]
 by_cases h1:i<off
 ·rw [if_pos h1,List.getElem?_append_left (by rw [List.length_take];omega),List.getElem?_take_of_lt h1]
 ·rw [if_neg h1,List.getElem?_append_right (by rw [List.length_take];omega),List.length_take,show min off W.length=off from by omega]
  by_cases h2:i<off+l.length
  ·rw [if_pos h2,List.getElem?_append_left (by omega)]
  ·rw [if_neg h2,List.getElem?_append_right (by omega),List.getElem?_drop,show off+l.length+(i - off - l.length)=i from by omega]
theorem set_row_ri {w:World} {g off:Nat} {W l:List Int} {cur:Array Value} (hg:w.heap[g]?=some (.cells cur 2 (0,0))) (hW:W.length<=cur.size) (hc:∀ i,i<W.length->cur[i]?=some (.int .i64 (W.getD i 0))) (h:off+l.length<=W.length) :
  RI (w.setRow g (cur.toList.take off ++ (icells l ++ cur.toList.drop (off+(icells l).length))).toArray) g (splice W off l) cur.size:=by
 have hlen:=length_splice W off l h
 have hl:=icells_length l
 refine ⟨fun i=>(cur.toList.take off ++ (icells l ++ cur.toList.drop (off+(icells l).length)))[i]?.getD undef,⟨_,setRow_heap w g cur _ 2 _ hg,?_,fun i hi=>?_⟩,by omega,fun i hi=>?_⟩
 ·simp
  omega
 ·have:i<(cur.toList.take off ++ (icells l ++ cur.toList.drop (off+(icells l).length))).length:=by simp;omega
  rw [List.getElem?_toArray]
  show (cur.toList.take off ++ (icells l ++ cur.toList.drop (off+(icells l).length)))[i]?=some ((cur.toList.take off ++ (icells l ++ cur.toList.drop (off+(icells l).length)))[i]?.getD undef)
  rw [List.getElem?_eq_getElem this]
  rfl
 ·rw [hlen] at hi
  rw [splice_get W l off i h]
  show (cur.toList.take off ++ (icells l ++ cur.toList.drop (off+(icells l).length)))[i]?.getD undef=_
  have hci:cur.toList[i]?=some (.int .i64 (W.getD i 0)):=by rw [Array.getElem?_toList];exact hc i hi
  have hcl:cur.toList.length=cur.size:=by simp
  by_cases h1:i<off
  ·rw [if_pos h1,List.getElem?_append_left (by rw [List.length_take];omega),List.getElem?_take_of_lt h1,hci]
   rfl
  ·rw [if_neg h1,List.getElem?_append_right (by rw [List.length_take];omega),List.length_take,show min off cur.toList.length=off from by omega]
   by_cases h2:i<off+l.length
   ·rw [if_pos h2,List.getElem?_append_left (by omega)]
    have:i - off<l.length:=by omega
    simp [icells,this]
   ·rw [if_neg h2,List.getElem?_append_right (by omega),List.getElem?_drop,show off+(icells l).length+(i - off - (icells l).length)=i from by omega,hci]
    rfl
theorem grown_setRow (w:World) (g:Nat) (cs:Array Value):w.grownBy (w.setRow g cs) (some g) :=
 ⟨rfl,rfl,rfl,by simp [World.setRow],fun k _ hr=>setRow_other w g k cs (fun e=>hr (by rw [e]))⟩
theorem copy_ints {ops:Array Oper} {rest:List Oper} {o:Oper} {a:Act} {Q:Exit->Act->World->Prop} (w:World) (hgd:o.guard=none) (d s:Operand)
  (ho:o.op=.call { callee:=.builtin .copy,args:=#[d,s],argTypes:=#[24,24] })
  (g off dLen dCap:Nat) (hd:a.eval d=.slice (some ⟨g,off,none⟩) dLen dCap) (W:List Int) (c:Nat) (hrow:RI w g W c) (hW:off+dLen<=W.length)
  (l:List Int) (sp:Option Addr) (sCap:Nat) (hs:a.eval s=.slice sp l.length sCap) (hsv:IR w (.slice sp l.length sCap) l) (hl:l.length<=dLen)
  (h:∀ w',RI w' g (splice W off l) c->w.grownBy w' (some g)->wpList Tryz.prog ops Q rest (a.put o.dst (goInt l.length)) w'):wpList Tryz.prog ops Q (o::rest) a w:=by
 have hsz:(Tryz.prog.info? 2).map (·.size)=some 1:=by kernel_rfl
 by_cases h0:l.length=0
 ·obtain rfl:l=[]:=List.eq_nil_of_length_eq_zero h0
  refine wpList_copy_nothing hgd d s 24 24 ho 2 Tryz.underlying24 hsz _ _ _ _ _ _ hd hs (by simp) ?_
  refine h w ?_ ⟨rfl,rfl,rfl,Nat.le_refl _,fun _ _ _=>rfl⟩
  rw [show splice W off []=W from by simp [splice]]
  exact hrow
 ·obtain ⟨f,⟨cur,hg,hcs,hcf⟩,hN,e⟩:=hrow
  obtain ⟨ao,cap,e1,_,hc⟩:=hsv
  simp only [Value.slice.injEq,true_and] at e1
  obtain ⟨rfl,rfl⟩:=e1
  obtain ⟨b,q,rfl,_⟩:=hc 0 (by omega)
  have hcl:=icells_length l
  refine wpList_copy_own hgd d s 24 24 ho 2 Tryz.underlying24 hsz g off dLen dCap ⟨b,q,none⟩ l.length sCap hd hs cur 2 hg (icells l) (by rw [hcl];exact (Nat.min_eq_left hl).symm) (fun j v hj=>?_) (by omega) (fun v hv=>?_) ?_
  ·have hj' : j<l.length:=by
    rcases Nat.lt_or_ge j l.length with k|k
    ·exact k
    ·rw [List.getElem?_eq_none (by omega)] at hj;cases hj
   obtain ⟨b',q',e2,hcell⟩:=hc j hj'
   simp only [Option.some.injEq,Addr.mk.injEq,and_true] at e2
   obtain ⟨rfl,rfl⟩:=e2
   have hv:v=.int .i64 (l.getD j 0):=by
    simp [icells,hj'] at hj
    rw [<- hj]
    simp [hj']
   rw [hv,← hcell]
   unfold Addr.add
   split
   ·subst j;rfl
   ·simp
  ·obtain ⟨z,_,rfl⟩:=List.mem_map.1 hv
   rfl
  ·rw [hcl]
   have R:=set_row_ri (w:=w) (g:=g) (off:=off) (W:=W) (l:=l) hg (by omega) (fun i hi=>by rw [hcf i (by omega),e i hi]) (by omega)
   rw [hcl,hcs] at R
   exact h _ R (grown_setRow w g _)
theorem splice_all (W l:List Int) (h:l.length=W.length):splice W 0 l=l:=by
 unfold splice
 rw [List.take_zero,List.nil_append,Nat.zero_add,h,List.drop_length,List.append_nil]
theorem made_ri (w:World) (n:Nat):RI (w.alloc (.cells (madeCells #[.int .i64 0] n) 2)) w.heap.size (List.replicate n 0) n:=by
 refine ⟨_,World.rowIs_made w _ n 2,by simp,fun i hi=>?_⟩
 simp at hi
 simp [hi]
set_option maxRecDepth 100000 in
set_option maxHeartbeats 800000 in
theorem copyList_any (v:Value) (l:List Int) (w:World) (hv:IR w v l) (h1:l.length<=1000000000000) :
  Calls Tryz.prog 115 #[v] w fun x w'=>(x=.returned (.slice (some ⟨w.heap.size,0,none⟩) l.length l.length)/\RI w' w.heap.size l l.length/\w.heap.size<w'.heap.size)/\Below w.heap.size w w':=by
 obtain ⟨ao,cap,rfl,hle,hc⟩:=id hv
 have hmk:=make28 l.length (by omega)
 have hR:=made_ri w l.length
 have hb0:=bel_one w (.cells (madeCells #[.int .i64 0] l.length) 2)
 have hv0:=hv.later hb0
 have SP:Hid (splice (List.replicate l.length 0) 0 l=l):=splice_all _ _ (by simp)
 clear hv hc
 go_enter Tryz.func115,Tryz.ntmps115
 go_wp2_with (refine copy_ints _ rfl _ _ rfl w.heap.size 0 l.length l.length rfl _ _ hR (by simp) l ao cap rfl hv0 (Nat.le_refl _) ?_;intro w1 R1 g1)
 have hb1:Below w.heap.size w w1:=Below.grown hb0 g1 (by simp) (fun k hk=>by cases hk;exact Nat.le_refl _)
 rw [SP.out] at R1
 have lt:=R1.lt
 go_ret
 exact ⟨⟨rfl,R1,lt⟩,hb1⟩
end Go.Proofs.YtgnbibinclepcaaGreatDoor
