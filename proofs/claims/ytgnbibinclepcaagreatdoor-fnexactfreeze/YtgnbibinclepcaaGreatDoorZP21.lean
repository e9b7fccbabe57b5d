
import Derived.Test.YtgnbibinclepcaaGreatDoorZKSpW
import Derived.Test.YtgnbibinclepcaaGreatDoorZP20
import Derived.Test.YtgnbibinclepcaaGreatDoorZP3
import Derived.Test.YtgnbibinclepcaaGreatDoorZLfWalk
/- Freeze of the model, by what VmOk and l14Text answer. -/
namespace Go.Proofs.YtgnbibinclepcaaGreatDoor
open Go.RowKit
theorem infoSF:(Tryz.prog.info? 9).map (fun i=>(i.zero,i.size,i.bytes))=some (some (.string ⟨#[]⟩),1,16):=by kernel_rfl
theorem app_sF {ops:Array Oper} {rest:List Oper} {o:Oper} {a:Act} {Q:Exit->Act->World->Prop} (w:World) (hgd:o.guard=none) (s x:Operand)
  (ho:o.op=.call { callee:=.builtin .append,args:=#[s,x],argTypes:=#[31,31] }) (B:Nat) (v:Value) (n:Nat) (xs:List Value) (hs:a.eval s=v) (hown:w.ownsRow B 9 1 v n xs)
  (g c:Nat) (z:ByteArray) (hx:a.eval x=.slice (some ⟨g,0,none⟩) 1 c) (hc:w.cell? ⟨g,0,none⟩=some (.string z)) (hn:n<=1000000000) (hB:B<=w.heap.size)
  (h:∀ v' w',w'.ownsRow B 9 1 v' (n+1) (xs ++ [.string z])->w.grownBy w' v.ownBlock->wpList Tryz.prog ops Q rest (a.put o.dst v') w'):wpList Tryz.prog ops Q (o::rest) a w:=by
 obtain ⟨i,hi,hzz⟩:=Option.map_eq_some_iff.1 infoSF
 simp only [Prod.mk.injEq] at hzz
 obtain ⟨hz,hsz,hby⟩:=hzz
 refine wpList_append_own_at w hgd s x 31 ho B 9 i _ 1 16 Tryz.underlying31 hi hz hsz hby rfl (by omega) v n xs hs hown ⟨g,0,none⟩ 1 c [.string z] hx rfl (fun j u hj=>?_) (fun u hu=>?_) (by unfold maxLen;omega) (by omega) hB (fun v' w' h1 h2 _ h4=>h v' w' h1 h2)
 ·match j,hj with
  | 0,hj=>simp at hj;subst hj;simpa [Addr.add] using hc
 ·simp at hu;subst hu;rfl
def mNs (s:ByteArray):Nat:=if 200<s.size then 200 else s.size
def cutS:Nat->ByteArray->List ByteArray
 | 0,_=>[]
 | n+1,s=>if s.size=0 then [] else s.extract 0 (mNs s)::cutS n (s.extract (mNs s) s.size)
theorem cutS_more:∀ (k:Nat) (s:ByteArray),s.size<k->∀ j,s.size<j->cutS k s=cutS j s:=by
 intro k
 induction k with
 | zero=>intro s h;omega
 | succ k ih =>
  intro s h j hj
  cases j with
  | zero=>omega
  | succ j =>
   by_cases h0:s.size=0
   ·simp [cutS,h0]
   ·simp only [cutS,h0,if_false]
    have:0<mNs s:=by unfold mNs;split <;> omega
    have hle:mNs s<=s.size:=by unfold mNs;split <;> omega
    rw [ih _ (by simp [ByteArray.size_extract];omega) j (by simp [ByteArray.size_extract];omega)]
theorem cutS_cons {s:ByteArray} (h:s.size ≠ 0):cutS (s.size+1) s=s.extract 0 (mNs s)::cutS ((s.extract (mNs s) s.size).size+1) (s.extract (mNs s) s.size):=by
 have:0<mNs s:=by unfold mNs;split <;> omega
 have hle:mNs s<=s.size:=by unfold mNs;split <;> omega
 rw [show cutS (s.size+1) s=s.extract 0 (mNs s)::cutS s.size (s.extract (mNs s) s.size) by simp [cutS,h]]
 rw [cutS_more s.size _ (by simp [ByteArray.size_extract];omega) _ (Nat.lt_succ_self _)]
theorem cutS_nil {s:ByteArray} (h:s.size=0):cutS (s.size+1) s=[]:=by simp [cutS,h]
theorem cutS_len (s:ByteArray):∀ k,(cutS k s).length<=k:=by
 intro k
 induction k generalizing s with
 | zero=>simp [cutS]
 | succ k ih =>
  unfold cutS
  split
  ·simp
  ·have:=ih (s.extract (mNs s) s.size)
   simp
   omega
def strLen:Value->Nat
 | .string s=>s.size
 | _=>0
def FsPost (B:Nat) (tx:ByteArray) (ok:Bool) (e:Ending) (w' : World):Prop :=
 ∃ ov n rb,e=.returned (.tuple #[ov,.bool rb])/\(rb=(ok && decide ((cutS (tx.size+1) tx).length<=30)))/\w'.ownsRow B 9 1 ov n (if rb then (cutS (tx.size+1) tx).map .string else [])
theorem FsPost.in {B:Nat} {tx:ByteArray} {ok:Bool} {w' : World} {ov:Value} {n:Nat} {rb:Bool} (h1:Hid (rb=(ok && decide ((cutS (tx.size+1) tx).length<=30)))) (h2:Hid (w'.ownsRow B 9 1 ov n (if rb then (cutS (tx.size+1) tx).map .string else []))):FsPost B tx ok (.returned (.tuple #[ov,.bool rb])) w':=⟨ov,n,rb,rfl,h1.out,h2.out⟩
set_option maxRecDepth 100000 in
set_option maxHeartbeats 3200000 in
theorem specFreeze_any (v1 v2 v3 vp vo:Value) (h:Hp) (pc:Int) (st:Int) (w:World) (ok:Bool) (tx:ByteArray) (htx:tx.size<=100000000)
  (hV:∀ W,Below w.heap.size w W->Calls Tryz.prog 37 #[.agg #[v1,v2,.int .i64 h.old,.int .i64 h.eden,.int .i64 h.surv,.bool h.flip,.int .i64 h.hash,v3,vp,.int .i64 pc,vo,.int .i64 st]] W fun e w'=>e=.returned (.bool ok)/\Below W.heap.size W w')
  (hI:ok=true->∀ W,Below w.heap.size w W->Calls Tryz.prog 38 #[.agg #[v1,v2,.int .i64 h.old,.int .i64 h.eden,.int .i64 h.surv,.bool h.flip,.int .i64 h.hash,v3,vp,.int .i64 pc,vo,.int .i64 st]] W fun e w'=>e=.returned (.string tx)/\Below W.heap.size W w') :
  Calls Tryz.prog 9 #[.agg #[v1,v2,.int .i64 h.old,.int .i64 h.eden,.int .i64 h.surv,.bool h.flip,.int .i64 h.hash,v3,vp,.int .i64 pc,vo,.int .i64 st]] w fun e w' =>
   FsPost w.heap.size tx ok e w' /\ Below w.heap.size w w':=by
 have hb0:=bel_one w (.cells #[v1,v2,.int .i64 h.old,.int .i64 h.eden,.int .i64 h.surv,.bool h.flip,.int .i64 h.hash,v3,vp,.int .i64 pc,vo,.int .i64 st] 29)
 have B0:Bk (w.alloc (.cells #[v1,v2,.int .i64 h.old,.int .i64 h.eden,.int .i64 h.surv,.bool h.flip,.int .i64 h.hash,v3,vp,.int .i64 pc,vo,.int .i64 st] 29)) w.heap.size #[v1,v2,.int .i64 h.old,.int .i64 h.eden,.int .i64 h.surv,.bool h.flip,.int .i64 h.hash,v3,vp,.int .i64 pc,vo,.int .i64 st] 29:=Bk.new ..
 have x0:=B0.cell 0 (v1) rfl
 go_enter Tryz.func9,Tryz.ntmps9
 go_wp2_with fail
 have al:=bel_one (w.alloc (.cells #[v1,v2,.int .i64 h.old,.int .i64 h.eden,.int .i64 h.surv,.bool h.flip,.int .i64 h.hash,v3,vp,.int .i64 pc,vo,.int .i64 st] 29)) (.cells #[] 9)
 have hb2:=bel_after hb0 al
 have B2:=B0.later al
 have ho0:((w.alloc (.cells #[v1,v2,.int .i64 h.old,.int .i64 h.eden,.int .i64 h.surv,.bool h.flip,.int .i64 h.hash,v3,vp,.int .i64 pc,vo,.int .i64 st] 29)).alloc (.cells #[] 9)).ownsRow w.heap.size 9 1 (.slice (some ⟨w.heap.size+1,0,none⟩) 0 0) 0 [] :=
  ⟨rfl,.inr ⟨w.heap.size+1,0,#[],rfl,by omega,by have:=heap_alloc_new (w.alloc (.cells #[v1,v2,.int .i64 h.old,.int .i64 h.eden,.int .i64 h.surv,.bool h.flip,.int .i64 h.hash,v3,vp,.int .i64 pc,vo,.int .i64 st] 29)) (.cells #[] 9);simpa using this,Nat.le_refl _,by unfold maxLen;omega,rfl,rfl⟩⟩
 refine (hV _ hb2).mono ?_
 clear x0 hV
 rintro e w1 ⟨rfl,hb1⟩
 have bw1:=bel_after hb2 hb1
 have B1:=B2.later hb1
 have ho1:=own_later ho0 hb1
 clear ho0 B2 B0 al hb0 hb2 hb1
 cases ok with
 | false =>
  clear hI B1
  go_wp2
  go_ret2
  exact ⟨FsPost.in (rb:=false) (n:=0) (rfl:false=(false && _)) (by simpa using ho1:Go.World.ownsRow _ _ _ _ _ _ _),bw1⟩
 | true =>
  have x0:=B1.cell 0 _ rfl
  have x1:=B1.cell 1 _ rfl
  have x2:=B1.cell 2 _ rfl
  have x3:=B1.cell 3 _ rfl
  have x4:=B1.cell 4 _ rfl
  have x5:=B1.cell 5 _ rfl
  have x6:=B1.cell 6 _ rfl
  have x7:=B1.cell 7 _ rfl
  have x8:=B1.cell 8 _ rfl
  have x9:=B1.cell 9 _ rfl
  have Bg:=B1.cell 10 _ rfl
  have Bh:=B1.cell 11 _ rfl
  go_wp2_with fail
  refine (hI trivial _ bw1).mono ?_
  clear x0 x1 x2 x3 x4 x5 x6 x7 x8 x9 Bg Bh B1 hI
  rintro e w2 ⟨rfl,hb2⟩
  have bw2:=bel_after bw1 hb2
  have ho2:=own_later ho1 hb2
  clear ho1 hb2 bw1
  go_wp2
  go_loopw [4,5] (fun ov tv wr=>∃ (s:ByteArray) (done:List ByteArray),tv=.string s/\done ++ cutS (s.size+1) s=cutS (tx.size+1) tx/\s.size<=tx.size/\wr.ownsRow w.heap.size 9 1 ov done.length (done.map .string)/\Below w.heap.size w wr) (fun _ tv _=>strLen tv)
  case atStart=>exact ⟨tx,[],rfl,rfl,Nat.le_refl _,ho2,bw2⟩
  case round =>
   obtain ⟨s,done,rfl,he,hsz,ho,hb⟩:=hrel
   clear ho2
   by_cases hnil:s.size=0
   ·have hd:done=cutS (tx.size+1) tx:=by rw [<- he,cutS_nil hnil,List.append_nil]
    clear he
    obtain ⟨ao,cap,rfl⟩:=gown_shape ho
    by_cases h30:done.length<=30
    ·have h31:¬ ((30:Int)<(done.length:Int)):=by omega
     have e1:Hid (true=(true && decide ((cutS (tx.size+1) tx).length<=30))):=(by rw [<- hd];simp [h30]:true=(true && decide ((cutS (tx.size+1) tx).length<=30)))
     have e2:Hid (wr.ownsRow w.heap.size 9 1 (.slice ao done.length cap) done.length (if true then (cutS (tx.size+1) tx).map .string else [])):=(by rw [<- hd];simpa using ho:wr.ownsRow w.heap.size 9 1 (.slice ao done.length cap) done.length (if true then (cutS (tx.size+1) tx).map .string else []))
     clear hd ho
     go_wp2
     go_ret2
     exact ⟨FsPost.in e1 e2,hb⟩
    ·have h31:((30:Int)<(done.length:Int)):=by omega
     have e1:Hid (false=(true && decide ((cutS (tx.size+1) tx).length<=30))):=(by rw [<- hd];simp [h30]:false=(true && decide ((cutS (tx.size+1) tx).length<=30)))
     clear hd ho
     go_wp2
     go_ret2
     have hz:=hb.size
     exact ⟨FsPost.in e1 (⟨rfl,.inr ⟨wr.heap.size,0,#[],rfl,hz,by have:=heap_alloc_new wr (.cells #[] 9);simpa using this,Nat.le_refl _,by unfold maxLen;omega,rfl,rfl⟩⟩:(wr.alloc (.cells #[] 9)).ownsRow w.heap.size 9 1 (.slice (some ⟨wr.heap.size,0,none⟩) 0 0) 0 (if false then (cutS (tx.size+1) tx).map .string else [])),hb.alloc hz _⟩
   ·have he2:Hid (done ++ (s.extract 0 (mNs s)::cutS ((s.extract (mNs s) s.size).size+1) (s.extract (mNs s) s.size))=cutS (tx.size+1) tx):=(by rw [<- cutS_cons hnil];exact he:done ++ (s.extract 0 (mNs s)::cutS ((s.extract (mNs s) s.size).size+1) (s.extract (mNs s) s.size))=cutS (tx.size+1) tx)
    have hdl:done.length<=100000001:=by
     have:=cutS_len tx (tx.size+1)
     rw [<- he,List.length_append] at this
     omega
    clear he
    have hpos:(0:Int)<(s.size:Int):=by omega
    by_cases h200:200<s.size
    ·have h2:(200:Int)<(s.size:Int):=by omega
     have hm:mNs s=200:=by unfold mNs;rw [if_pos h200]
     have i0:(0:Int)<=200:=by omega
     have i1:(200:Int)<=(s.size:Int):=by omega
     have al:=bel_one wr (.cells #[.string (s.extract 0 200)] 9)
     have hb3:=bel_after hb al
     have ho3:=own_later ho al
     have hc:∀ W:World,(W.alloc (.cells #[.string (s.extract 0 200)] 9)).cell? ⟨W.heap.size,0,none⟩=some (.string (s.extract 0 200)):=fun W=>by simp
     have sz:=hb3.size
     have e3:Hid ((done ++ [s.extract 0 200]) ++ cutS ((s.extract 200 s.size).size+1) (s.extract 200 s.size)=cutS (tx.size+1) tx):=(by rw [<- he2.out];simp [hm]:(done ++ [s.extract 0 200]) ++ cutS ((s.extract 200 s.size).size+1) (s.extract 200 s.size)=cutS (tx.size+1) tx)
     clear he2 al ho
     go_wp2_with (at_builtin;refine app_sF _ rfl _ _ rfl w.heap.size _ done.length (done.map .string) rfl ho3 _ 1 (s.extract 0 200) rfl (hc _) (by omega) sz ?_;intro v4 w4 o4 gr4)
     refine ⟨⟨_,done ++ [s.extract 0 200],rfl,by simpa using e3.out,by simp [ByteArray.size_extract];omega,by simpa using o4,Below.grown hb3 gr4 sz (fun k e=>(ho3.lt k e).1)⟩,by simp [strLen,ByteArray.size_extract];omega⟩
    ·have h2:¬ ((200:Int)<(s.size:Int)):=by omega
     have hm:mNs s=s.size:=by unfold mNs;rw [if_neg h200]
     have al:=bel_one wr (.cells #[.string s] 9)
     have hb3:=bel_after hb al
     have ho3:=own_later ho al
     have hc:∀ W:World,(W.alloc (.cells #[.string s] 9)).cell? ⟨W.heap.size,0,none⟩=some (.string s):=fun W=>by simp
     have sz:=hb3.size
     have e3:Hid ((done ++ [s]) ++ cutS ((s.extract s.size s.size).size+1) (s.extract s.size s.size)=cutS (tx.size+1) tx):=(by rw [<- he2.out];simp [hm]:(done ++ [s]) ++ cutS ((s.extract s.size s.size).size+1) (s.extract s.size s.size)=cutS (tx.size+1) tx)
     clear he2 al ho
     go_wp2_with (at_builtin;refine app_sF _ rfl _ _ rfl w.heap.size _ done.length (done.map .string) rfl ho3 _ 1 s rfl (hc _) (by omega) sz ?_;intro v4 w4 o4 gr4)
     refine ⟨⟨_,done ++ [s],rfl,by simpa using e3.out,by simp,by simpa using o4,Below.grown hb3 gr4 sz (fun k e=>(ho3.lt k e).1)⟩,by simp [strLen];omega⟩
end Go.Proofs.YtgnbibinclepcaaGreatDoor
/- The text of a machine, in plain words: the rows joined, and the bytes one behind another, are one text; the two ways to cut it are one. -/
namespace Go.Proofs.YtgnbibinclepcaaGreatDoor
open Go.RowKit
theorem join_flat (x:List UInt8) (l:List (List UInt8)) (sep:List UInt8):Lib.join (x::l) sep=x ++ l.flatMap fun y=>sep ++ y:=by
 induction l generalizing x with
 | nil=>simp [Lib.join]
 | cons y l ih =>
  have h:=ih y
  unfold Lib.join at h ⊢
  rw [List.flatMap_cons,List.append_assoc,← h]
  simp
def rowB (l:List Int):List UInt8:=l.flatMap fun x=>32::Lib.itoa x
theorem text_row (x:Int) (l:List Int):Lib.join ((x::l).map Lib.itoa) [32]=Lib.itoa x ++ rowB l:=by
 rw [List.map_cons,join_flat,List.flatMap_map]
 rfl
def imgS (pc st hash:Int) (out:List Int) (nodes:List Nd):List UInt8 :=
 Lib.itoa pc ++ [32] ++ Lib.itoa st ++ [32] ++ Lib.itoa hash ++ [10] ++ Lib.itoa (out.length:Int) ++ rowB out ++ [10] ++ nodes.flatMap fun n=>Lib.itoa n.cls ++ [32] ++ Lib.itoa n.hash ++ rowB n.fl ++ [10]
def imgI (pc st hash:Int) (out:List Int) (nodes:List Nd):List UInt8 :=
 Lib.join (((textB [pc,st,hash])::textB ((out.length:Int)::out)::nodes.map ndTx).map (·.data.toList)) [10] ++ [10]
theorem imgI_S (pc st hash:Int) (out:List Int) (nodes:List Nd):imgI pc st hash out nodes=imgS pc st hash out nodes:=by
 have hn:∀ l:List Nd,(l.flatMap fun n=>([10]:List UInt8) ++ (ndTx n).data.toList) ++ [10]=[10] ++ l.flatMap fun n=>Lib.itoa n.cls ++ [32] ++ Lib.itoa n.hash ++ rowB n.fl ++ [10]:=by
  intro l
  induction l with
  | nil=>rfl
  | cons n l ih =>
   rw [List.flatMap_cons,List.flatMap_cons,List.append_assoc,ih]
   have e:(ndTx n).data.toList=Lib.itoa n.cls ++ [32] ++ Lib.itoa n.hash ++ rowB n.fl:=by
    show Lib.join ((n.cls::n.hash::n.fl).map Lib.itoa) [32]=_
    rw [text_row]
    simp [rowB]
   rw [e]
   simp
 unfold imgI imgS
 rw [List.map_cons,List.map_cons,join_flat,List.flatMap_cons,List.map_map,List.flatMap_map]
 have e1:(textB [pc,st,hash]).data.toList=Lib.itoa pc ++ [32] ++ Lib.itoa st ++ [32] ++ Lib.itoa hash:=by
  show Lib.join ([pc,st,hash].map Lib.itoa) [32]=_
  rw [text_row]
  simp [rowB]
 have e2:(textB ((out.length:Int)::out)).data.toList=Lib.itoa (out.length:Int) ++ rowB out:=text_row _ _
 rw [e1,e2]
 have:=hn nodes
 simp only [Function.comp_def,List.append_assoc] at this ⊢
 rw [this]
end Go.Proofs.YtgnbibinclepcaaGreatDoor
set_option linter.unusedVariables false
namespace Go.Proofs.YtgnbibinclepcaaGreatDoor
theorem mN_mNs (s:ByteArray):mN s=mNs s:=by unfold mN mNs;split <;> split <;> omega
theorem empty_iff (s:ByteArray):s.toList.isEmpty=true ↔ s.size=0:=by
 rw [ByteArray.toList_eq,List.isEmpty_iff]
 constructor
 ·intro h
  show s.data.size=0
  rw [<- Array.length_toList,h];rfl
 ·intro h
  exact List.eq_nil_of_length_eq_zero (by rw [Array.length_toList];exact h)
theorem cutN_S:∀ (k:Nat) (s:ByteArray),cutN k s=cutS k s:=by
 intro k
 induction k with
 | zero=>intro s;rfl
 | succ k ih =>
  intro s
  unfold cutN cutS
  rw [mN_mNs,ih]
  by_cases h:s.size=0
  ·rw [if_pos ((empty_iff s).2 h),if_pos h]
  ·rw [if_neg (fun x=>h ((empty_iff s).1 x)),if_neg h]
theorem cutT_S (s:ByteArray):cutT s=cutS (s.size+1) s:=cutN_S _ _
end Go.Proofs.YtgnbibinclepcaaGreatDoor
set_option linter.unusedVariables false
set_option linter.unusedSimpArgs false
namespace Go.Proofs.YtgnbibinclepcaaGreatDoor.Lf
variable {P : Program}
open Go.Conc
theorem runs_re {S:Goroutine->World->Prop} {g:Goroutine} {w:World} {T:Nat->Question->Nat} {d:Nat} (h:Runs P S g (w.re T d)):Runs P S g w:=h
theorem runs_tree {S:Goroutine->World->Prop} {g:Goroutine} {w:World} (h:Tree P (Runs P S) g w):Runs P S g w :=
 (runs_of_tree (fun _ _ _ _ h=>h) h).bind fun _ _ h=>h
theorem blind_runs (S:Goroutine->World->Prop):Blind (Runs P S):=fun _ _ _ _ h=>h
theorem fit_next {b:Frame} {a a' : Act} {ops:Array Oper} {l l' : List Nat} {k:List Item} {cs:List Frame} (hf:Fit (G (b.at a (.inRegion ops l::k)) cs)):Fit (G (b.at a' (.inRegion ops l' :: k)) cs):=by
 refine ⟨fun x hx=>?_,hf.2⟩
 rcases List.mem_cons.1 (show x ∈ Item.inRegion ops l' :: k from hx) with rfl|hx
 ·trivial
 ·exact hf.1 x (show x ∈ Item.inRegion ops l::k from List.mem_cons_of_mem _ hx)
theorem runs_call (hcf:CF P) {S:Goroutine->World->Prop} {b:Frame} {a:Act} {k:List Item} {cs:List Frame} {w:World} {ops:Array Oper} {i:Nat} {rest:List Nat} {o:Oper} {f:FuncId} {fn:Func} {args:Array Value} {R:Ending->World->Prop}
  (hf:Fit (G (b.at a (.inRegion ops (i::rest)::k)) cs)) (ho:ops[i]?=some o) (hw:Region.wanted o (yielded ops a.tmps)=true)
  (hk:b.kind ≠ .early) (hr:∀ T d,(execOp a.eval o).run P (w.re T d)=.ok (.enter f args) (w.re T d)) (hfn:P.funcs[f]?=some fn) (he:∀ t w,(results fn t).events P w #[]=#[])
  (hC:Runs P (AtLeave P f (b.at a (.inRegion ops (i::rest)::k)::cs) R) (G (Frame.enter P f args .normal) (b.at a (.inRegion ops (i::rest)::k)::cs)) w) (hR:∀ e w,R e w->∃ v,e=.returned v)
  (ht:∀ v w',R (.returned v) w' -> Fit (G (b.at (a.put o.dst v) (.inRegion ops rest::k)) cs)->Runs P S (G (b.at (a.put o.dst v) (.inRegion ops rest::k)) cs) w') :
  Runs P S (G (b.at a (.inRegion ops (i::rest)::k)) cs) w:=by
 let S1:Goroutine->World->Prop:=fun g w'=>(∃ T d,w' = w.re T d)/\g=G (Frame.enter P f args .normal) (b.at a (.inRegion ops (i::rest)::k)::cs)
 have hB1:Blind S1:=by
  rintro g w' T d ⟨⟨T',d',rfl⟩,rfl⟩
  exact ⟨⟨T,d,rfl⟩,rfl⟩
 have h1:Runs P S1 (G (b.at a (.inRegion ops (i::rest)::k)) cs) w :=
  runs_of_tree hB1 (tree_go hcf (run_G _ _) hf fun T d=>⟨_,_,_,stepG_enter ho hw hk (hr T d),run_G _ _,fun _=>.stop ⟨⟨T,d,rfl⟩,rfl⟩⟩)
 refine h1.bind fun g w1 hs=>?_
 obtain ⟨⟨T,d,rfl⟩,rfl⟩:=hs
 refine (show Runs P _ _ (w.re T d) from hC).bind fun g w2 hs=>?_
 obtain ⟨e,fr,T2,d2,rfl,h2,h3,h4⟩:=hs
 obtain ⟨v,rfl⟩:=hR _ _ h2
 let S2:Goroutine->World->Prop:=fun g w'=>∃ T d,g=G (b.at (a.put o.dst v) (.inRegion ops rest::k)) cs/\R (.returned v) (w'.re T d)
 have hB2:Blind S2:=by
  rintro g w' T d ⟨T',d',rfl,h⟩
  exact ⟨T',d',rfl,h⟩
 have h5:Runs P S2 (G fr (b.at a (.inRegion ops (i::rest)::k)::cs)) w2:=by
  refine runs_of_tree hB2 (Tree.go (run_G _ _) fun T d=>⟨G (b.at (a.put o.dst v) (.inRegion ops rest::k)) cs,w2.re T d,#[],?_,run_G _ _,fit_next hf,quiet_nil,rfl,.stop ⟨T2,d2,rfl,h2⟩⟩)
  obtain ⟨l1,l2,l3,fn',l4,l5⟩:=h4 T d
  obtain rfl:fn' = fn:=by rw [h3,hfn] at l4;exact (Option.some.inj l4).symm
  have hfin:(b.at a (.inRegion ops (i::rest)::k)).finish v=b.at (a.put o.dst v) (.inRegion ops rest::k):=by rw [Frame.finish_at,ho];rfl
  rw [<- hfin]
  simp [G,stepG,unwind,doReturn,l1,l2,l3,l4,l5,he,seen,GStep.after]
 refine h5.bind fun g w3 hs=>?_
 obtain ⟨T3,d3,rfl,h6⟩:=hs
 exact ht v (w3.re T3 d3) h6 (fit_next hf)
end Go.Proofs.YtgnbibinclepcaaGreatDoor.Lf
set_option linter.unusedVariables false
namespace Go.Proofs.YtgnbibinclepcaaGreatDoor.Lf
open Go.Conc
variable {P : Program}
def codeOf:List Code->Code->Code
 | [],r=>r
 | s::ss,r=>.seq s (codeOf ss r)
def Chain (P:Program):List Code->(Exit->Act->World->Prop)->Act->World->Prop
 | [],Q,a,w=>Q .normal a w
 | s::ss,Q,a,w=>s.wp P (Exit.then (Chain P ss Q) Q) a w
theorem chain_k {s:Code} {ss:List Code} {Q:Exit->Act->World->Prop} {a:Act} {w:World} (h:∀ K:Act->World->Prop,(∀ a w,Chain P ss Q a w->K a w)->s.wp P (Exit.then K Q) a w):Chain P (s::ss) Q a w:=h _ fun _ _ h=>h
theorem chain_steps {rest:Code} {Q:Exit->Act->World->Prop} {b:Frame} {k:List Item} {cs:List Frame} (hQ:∀ e a w,Q e a w->e=.normal ∨ e=.ret):∀ (ss:List Code) (a:Act) (w:World),Chain P ss Q a w →
  (∃ a' w',Q .normal a' w' /\ Steps P (lone (b.at a (.code (codeOf ss rest)::k)) cs w) (lone (b.at a' (.code rest::k)) cs w')) ∨
  (∃ a' w' todo,Q .ret a' w' /\ Steps P (lone (b.at a (.code (codeOf ss rest)::k)) cs w) (lone { b.at a' todo with mode:=.returning } cs w'))
 | [],a,w,h=>.inl ⟨a,w,h,.refl _ _⟩
 | s::ss,a,w,h=>by
  obtain ⟨e,a1,w1,q,arr⟩:=h b (.code (codeOf ss rest)::k) cs
  have st:Steps P (lone (b.at a (.code (codeOf (s::ss) rest)::k)) cs w) (lone (b.at a (.code s::.code (codeOf ss rest)::k)) cs w):=.one step_seq
  cases e with
  | normal =>
   rcases chain_steps hQ ss a1 w1 q with ⟨a2,w2,q2,h2⟩|⟨a2,w2,todo,q2,h2⟩
   ·exact .inl ⟨a2,w2,q2,st.trans (Steps.trans arr h2)⟩
   ·exact .inr ⟨a2,w2,todo,q2,st.trans (Steps.trans arr h2)⟩
  | ret =>
   obtain ⟨todo,h2⟩:=arr
   exact .inr ⟨a1,w1,todo,q,st.trans h2⟩
  | exit id=>rcases hQ _ _ _ q with h|h <;> cases h
  | goto l=>rcases hQ _ _ _ q with h|h <;> cases h
  | panic c=>rcases hQ _ _ _ q with h|h <;> cases h
  | outgrown=>rcases hQ _ _ _ q with h|h <;> cases h
theorem runs_chain (hcf:CF P) {S:Goroutine->World->Prop} {ss:List Code} {rest:Code} {Q:Exit->Act->World->Prop} {a:Act} {w:World} {b:Frame} {k:List Item} {cs:List Frame} (hk:∀ x ∈ k,FitItem x) (hcs:∀ c ∈ cs,FitFrame c)
  (hQ:∀ e a w,Q e a w->e=.normal ∨ e=.ret) (h:∀ T,Chain P ss Q a (w.re T 0))
  (hn:∀ a w,Q .normal a w->Runs P S (G (b.at a (.code rest::k)) cs) w) (hr:∀ a w todo,Q .ret a w->Runs P S (G { b.at a todo with mode:=.returning } cs) w) :
  Runs P S (G (b.at a (.code (codeOf ss rest)::k)) cs) w:=by
 let S1:Goroutine->World->Prop:=fun g w=>(∃ a T d,Q .normal a (w.re T d)/\g=G (b.at a (.code rest::k)) cs) ∨ ∃ a todo T d,Q .ret a (w.re T d)/\g=G { b.at a todo with mode:=.returning } cs
 have hB:Blind S1:=by
  rintro g w T d (⟨a,T',d',h1,h2⟩|⟨a,todo,T',d',h1,h2⟩)
  ·exact .inl ⟨a,T',d',h1,h2⟩
  ·exact .inr ⟨a,todo,T',d',h1,h2⟩
 refine (runs_of_tree hB (tree_of_runs hcf hB ⟨rfl,rfl⟩ ⟨fit_at hk,hcs⟩ fun T=>?_)).bind fun g w' hs=>?_
 ·rcases chain_steps (rest:=rest) (b:=b) (k:=k) (cs:=cs) hQ ss a _ (h T) with ⟨a',w',q,st⟩|⟨a',w',todo,q,st⟩
  ·obtain ⟨n,hn⟩:=st
   exact ⟨n,_,cs,w',hn,.inl ⟨a',w'.tape,w'.drawn,q,rfl⟩⟩
  ·obtain ⟨n,hn⟩:=st
   exact ⟨n,_,cs,w',hn,.inr ⟨a',todo,w'.tape,w'.drawn,q,rfl⟩⟩
 ·rcases hs with ⟨a',T,d,q,rfl⟩|⟨a',todo,T,d,q,rfl⟩
  ·exact runs_re (hn a' _ q)
  ·exact runs_re (hr a' _ todo q)
end Go.Proofs.YtgnbibinclepcaaGreatDoor.Lf
