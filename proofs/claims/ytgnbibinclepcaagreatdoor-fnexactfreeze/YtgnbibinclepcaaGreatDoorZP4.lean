
import Derived.Conc.AppendWalk
import Derived.Test.YtgnbibinclepcaaGreatDoorZP3
import Derived.Conc.Own4
import Derived.Laws.NewBlocks
import Derived.Below
import Derived.OwnWalk
import Derived.KernelRfl
import Derived.Test.YtgnbibinclepcaaGreatDoorZP2
import GoSem.Extern.Table
set_option linter.unusedVariables false
set_option linter.unusedSimpArgs false
namespace Go.Proofs.YtgnbibinclepcaaGreatDoor.Lf
open Go.Conc
variable {P : Program}
def LocIn (S:Nat->Prop) (e:Event):Prop:=∃ ad,e.loc=.cell ad/\S ad.block
theorem add_block' (a:Addr) (n:Nat):(a.add n).block=a.block:=by unfold Addr.add;split <;> rfl
theorem events_cells_loc (a:Addr):∀ (n i:Nat) (acc:Array Value) (w:World) (es:Array Event),(∀ j,i<=j->j<i+n->∃ u,w.cell? (a.add j)=some u)->∀ ev ∈ (loadCellsFrom a i n acc).events P w es,ev ∈ es ∨ LocIn (· = a.block) ev
 | 0,_,_,_,_,_=>fun ev h=>.inl (by simpa [loadCellsFrom] using h)
 | n+1,i,acc,w,es,hc=>fun ev h=>by
  obtain ⟨u,hu⟩:=hc i (Nat.le_refl _) (by omega)
  simp only [loadCellsFrom,Sem.events_bind] at h
  have hr:(load (a.add i)).run P w=.ok u w:=by rw [run_load];simp [hu]
  have he:(load (a.add i)).events P w es=es.push ⟨.cell (a.add i),false,false⟩:=by rw [events_load];simp [hu];rfl
  rw [hr] at h
  simp only [Result.evThen_ok,he] at h
  rcases events_cells_loc a n (i+1) (acc.push u) w _ (fun j h1 h2=>hc j (by omega) (by omega)) ev h with h|h
  ·rcases Array.mem_push.1 h with h|rfl
   ·exact .inl h
   ·exact .inr ⟨_,rfl,add_block' a i⟩
  ·exact .inr h
theorem events_first_loc (size n:Nat) (a:Addr) (m c:Nat) (w:World) (es:Array Event) (hc:∀ j,j<n * size->∃ u,w.cell? (a.add j)=some u):∀ ev ∈ (Builtin.firstCells size n (.slice (some a) m c)).events P w es,ev ∈ es ∨ LocIn (· = a.block) ev:=by
 intro ev h
 unfold Builtin.firstCells at h
 exact events_cells_loc a _ 0 _ w es (fun j _ h2=>hc j (by simpa [Nat.mul_comm] using h2)) ev h
theorem events_first_none (size n m c:Nat) (w:World) (es:Array Event):(Builtin.firstCells size n (.slice none m c)).events P w es=es:=by
 unfold Builtin.firstCells;rfl
theorem events_append_loc (w:World) (base:Nat) (t ty e:TypeId) (i:TypeInfo) (z:Value) (size bytes:Nat) (ht:P.underlying t=some (.slice e)) (hi:P.info? e=some i) (hz:i.zero=some z)
  (hsize:i.size=size) (hby:i.bytes=bytes)
  (v:Value) (n:Nat) (xs:List Value) (hown:w.ownsRow base e size v n xs)
  (a:Addr) (m c:Nat) (news:List Value) (hl:news.length=m * size) (hnews:∀ j u,news[j]?=some u->w.cell? (a.add j)=some u) (h1:∀ u ∈ news,u.oneCell' = true)
  (h63:n+m<=maxLen) (hbytes:(n+m) * bytes<=140737488355328) :
  ∀ ev ∈ (Builtin.append_ #[t,t] ty #[v,.slice (some a) m c]).events P w #[],LocIn (fun b=>b=a.block ∨ some b=v.ownBlock) ev ∨ ∃ m,ev=⟨.mark m,false,true⟩/\Conc.Neutral m:=by
 subst hsize
 subst hby
 have hsmall:n+m<=9223372036854775807:=by simp only [maxLen] at h63;omega
 let Q:Event->Prop:=fun ev=>LocIn (fun b=>b=a.block ∨ some b=v.ownBlock) ev ∨ ∃ m,ev=⟨.mark m,false,true⟩/\Conc.Neutral m
 have none0:∀ e ∈ (#[]:Array Event),Q e:=by intro e he;simp at he
 have newc:∀ j,j<m * i.size->∃ u,w.cell? (a.add j)=some u:=fun j hj=>⟨news[j]'(by omega),hnews j _ (List.getElem?_eq_getElem _)⟩
 have readsA:∀ (w' : World) (es:Array Event),(∀ ad,w'.cell? ad=w.cell? ad)->(∀ e ∈ es,Q e)->∀ ev ∈ (Builtin.firstCells i.size m (.slice (some a) m c)).events P w' es,Q ev:=fun w' es hw hes ev h =>
  (events_first_loc i.size m a m c w' es (fun j hj=>by rw [hw];exact newc j hj) ev h).elim (hes ev) fun ⟨ad,h1,h2⟩=>.inl ⟨ad,h1,.inl h2⟩
 intro ev hev
 rcases hown.2 with ⟨rfl,rfl⟩|⟨g,cap,cur,rfl,hbg,hg,hnc,hcm,hcs,htake⟩
 ·by_cases hm:m=0
  ·subst hm
   simp [Builtin.append_,run_underlying ht,sizeOf,typeInfo,hi,Builtin.lenOf] at hev
   exact readsA _ _ (fun _=>rfl) none0 ev hev
  ·have h63' : ¬ (9223372036854775807<(m:Int)):=by omega
   have h48' : ¬ (281474976710656<Builtin.nextslicecap m 0 * i.bytes):=by rw [nextslicecap_zero (by omega)];simp only [Nat.zero_add] at hbytes;omega
   have hf:=run_firstCells_some (P:=P) w.drew i.size m a m c news hl (by simpa using hnews)
   simp [Builtin.append_,run_underlying ht,sizeOf,typeInfo,zeroValue,hi,hz,Builtin.lenOf,hm,h63',h48',Question.forced,run_firstCells_none,hf,newRow,events_first_none] at hev
   exact readsA _ _ (fun _=>by simp) (fun e he=>(Conc.events_askRoom _ _ _ e he).elim (none0 e) .inr) ev hev
 ·by_cases hroom:n+m<=cap
  ·have hfit:n * i.size+news.length<=cur.size:=by rw [hl,hcs,← Nat.add_mul];exact Nat.mul_le_mul_right _ hroom
   have hf:=run_firstCells_some (P:=P) w i.size m a m c news hl hnews
   simp [Builtin.append_,run_underlying ht,sizeOf,typeInfo,hi,Builtin.lenOf,hroom,hf,Addr.add_lit] at hev
   rcases events_storeCells_at (P:=P) g (n * i.size) e news 0 cur w _ hg (by simpa using hfit) h1 ev hev with h|⟨ad,h2,h3⟩
   ·exact readsA _ _ (fun _=>rfl) none0 ev h
   ·exact .inl ⟨ad,h2,.inr (by simp [Value.ownBlock,h3])⟩
  ·have holds:∀ j u,xs[j]?=some u->w.cell? ((⟨g,0,none⟩:Addr).add j)=some u:=hown.cells (g:=g) rfl
   have hn:¬ (n+m<=cap):=hroom
   have h63' : ¬ (9223372036854775807<((n:Int)+(m:Int))):=by omega
   have h48' : ¬ (281474976710656<Builtin.nextslicecap (n+m) cap * i.bytes):=by have:=growslice_fits (need:=n+m) (old:=cap) (bytes:=i.bytes) (by omega) hbytes;omega
   have hf:=run_firstCells_some (P:=P) w.drew i.size m a m c news hl (by simpa using hnews)
   have hfo:=run_firstCells_some (P:=P) w.drew i.size n ⟨g,0,none⟩ n cap xs hown.1 (by simpa using holds)
   simp [Builtin.append_,run_underlying ht,sizeOf,typeInfo,zeroValue,hi,hz,Builtin.lenOf,hn,h63',h48',Question.forced,hf,hfo,newRow] at hev
   refine readsA _ _ (fun _=>by simp) (fun e he=>?_) ev hev
   rcases events_first_loc i.size n ⟨g,0,none⟩ n cap w.drew _ (fun j hj=>⟨xs[j]'(by rw [hown.1];exact hj),by simpa using holds j _ (List.getElem?_eq_getElem _)⟩) e he with h|⟨ad,h1,h2⟩
   ·exact (Conc.events_askRoom _ _ _ e h).elim (none0 e) .inr
   ·exact .inl ⟨ad,h1,.inr (by rw [h2];rfl)⟩
end Go.Proofs.YtgnbibinclepcaaGreatDoor.Lf
set_option linter.unusedVariables false
set_option linter.unusedSimpArgs false
namespace Go.Proofs.YtgnbibinclepcaaGreatDoor
open Go.Conc Go.Proofs.YtgnbibinclepcaaGreatDoor.Lf Go.RowKit
def MEv (Ct Cp:Nat) (e:Event):Prop:=(∃ ad,e.loc=.cell ad/\ad.block ≠ Ct/\(ad.block=Cp->e.write=false)) ∨ ∃ m,e.loc=.mark m/\Neutral m
theorem MEv.evM {c Ct Cp:Nat} {e:Event} (h:MEv Ct Cp e):EvM c Ct Cp e:=by
 intro x hx
 obtain ⟨loc,wr,sy⟩:=e
 have hn:∀ m,loc=.mark m->Neutral m:=by
  intro m hm
  rcases h with ⟨ad,h1,_⟩|⟨m',h1,h2⟩
  ·cases (show loc=.cell ad from h1).symm.trans hm
  ·cases (show loc=.mark m' from h1).symm.trans hm;exact h2
 obtain ⟨e1,e2⟩:=ofEvent_touch (e:=⟨loc,wr,sy⟩) hn hx
 rw [e1,e2]
 rcases h with ⟨ad,h1,h2,h3⟩|⟨m',h1,h2⟩
 ·simp only at h1 h3
  subst h1
  refine ⟨h2,fun hs=>?_⟩
  rcases hs with hs|hs
  ·exact h3 hs
  ·cases hs
 ·simp only at h1
  subst h1
  exact ⟨fun h=>h,fun hs=>by rcases hs with hs|hs <;> cases hs⟩
theorem MEv.quiet {Ct Cp:Nat} {es:Array Event} (h:∀ e ∈ es,MEv Ct Cp e):Quiet es:=by
 refine deafBehind_still fun e he=>?_
 rcases h e he with ⟨ad,h1,_⟩|⟨m,h1,h2⟩
 ·rw [h1];simp
 ·rw [h1]
  exact ⟨fun x=>h2.ne_disable (Loc.mark.inj x),fun x=>h2.ne_enable (Loc.mark.inj x)⟩
structure AFm (N0:Nat) (W0:World) (c Ct Cp Bm:Nat) (out:Value) (xs:List Value) (w:World):Prop where
 own:w.ownsRow Bm 9 1 out xs.length xs
 below:Below N0 (W0.re w.tape 0) w
 size:Bm<=w.heap.size
 ch:w.cell? ⟨Cp,0,none⟩=some (.chan (some c))
 lt:c<Bm/\Ct<Bm/\Cp<Bm
 ge:N0<=c/\N0<=Ct/\N0<=Cp
 ne:Cp ≠ c/\Cp ≠ Ct
section
variable {N0 : Nat} {W0 : World} {c Ct Cp Bm : Nat} {out : Value} {xs : List Value} {w w₁ : World}
theorem AFm.aside (h:AFm N0 W0 c Ct Cp Bm out xs w) (ha:RelM c Ct w w₁):AFm N0 W0 c Ct Cp Bm out xs w₁:=by
 refine ⟨⟨h.own.1,?_⟩,⟨ha.os.trans h.below.os,rfl,ha.output.trans h.below.output,by rw [ha.size];exact h.below.size,fun k hk=>(ha.block k (by have:=h.ge;omega) (by have:=h.ge;omega)).trans (h.below.block k hk)⟩,by rw [ha.size];exact h.size,?_,h.lt,h.ge,h.ne⟩
 ·rcases h.own.2 with h0|⟨g,cp,cur,e,hg,hh,r⟩
  ·exact .inl h0
  ·exact .inr ⟨g,cp,cur,e,hg,(ha.block g (by have:=h.lt;omega) (by have:=h.lt;omega)).trans hh,r⟩
 ·exact (World.cell?_of_block (ha.block Cp h.ne.1 h.ne.2)).trans h.ch
theorem dmOf {c Ct Cp Bm:Nat} (hlt:c<Bm/\Ct<Bm/\Cp<Bm) {w w' : World} {es:Array Event} (h:Below Bm w w') (he:∀ e ∈ es,MEv Ct Cp e):DM c Ct Cp w w' es :=
 ⟨h.tape,h.block c (by omega),h.block Ct (by omega),h.block Cp (by omega),MEv.quiet he,fun e hm=>(he e hm).evM⟩
theorem dmCtl (w:World):DM c Ct Cp w w #[]:=⟨rfl,rfl,rfl,rfl,quiet_nil,by simp⟩
theorem AFm.alloc (h:AFm N0 W0 c Ct Cp Bm out xs w) (o:Obj):AFm N0 W0 c Ct Cp Bm out xs (w.alloc o) :=
 ⟨h.own.alloc o,h.below.alloc (by have:=h.size;have:=h.ge;have:=h.lt;omega) o,by have:=h.size;simp;omega,by rw [World.cell?_alloc_past _ _ _ (by have:=h.size;have:=h.lt;omega)];exact h.ch,h.lt,h.ge,h.ne⟩
theorem AFm.grown {out' : Value} {xs' : List Value} {w' : World} (h:AFm N0 W0 c Ct Cp Bm out xs w) (hg:w.grownBy w' out.ownBlock) (ho:w'.ownsRow Bm 9 1 out' xs'.length xs'):AFm N0 W0 c Ct Cp Bm out' xs' w' :=
 ⟨ho,(by rw [hg.tape];exact h.below.grown hg (by have:=h.size;have:=h.ge;have:=h.lt;omega) (fun k hk=>by have:=(h.own.lt k hk).1;have:=h.ge;have:=h.lt;omega)),Nat.le_trans h.size hg.size,hg.cell h.ch (fun e=>by have h1:=(h.own.lt _ e.symm).1;have h2:=h.lt;simp at h1;omega),h.lt,h.ge,h.ne⟩
end
noncomputable def body8:Code:=Tryz.f8.body.getD .skip
noncomputable def body35:Code:=Tryz.f35.body.getD .skip
def b8:Frame:=Conc.base 8
def b35:Frame:=Conc.base 35
noncomputable def R8:Code:=match body8 with | .seq _ (.seq _ (.seq _ r))=>r|_=>.skip
noncomputable def ops4_8:Array Oper:=match R8 with | .seq (.seq (.region _ ops _) _) _=>ops|_=>#[]
noncomputable def loop8:Code:=match R8 with | .seq (.seq _ l) _=>l|_=>.skip
noncomputable def rest8:Code:=match R8 with | .seq _ r=>r|_=>.skip
noncomputable def L8:Code:=match loop8 with | .block _ (.loop c)=>c|_=>.skip
noncomputable def ops5_8:Array Oper:=match L8 with | .seq (.region _ ops _) _=>ops|_=>#[]
noncomputable def L8b:Code:=match L8 with | .seq _ r=>r|_=>.skip
noncomputable def ops2_35:Array Oper:=match body35 with | .seq _ (.seq _ (.seq (.region _ ops _) _))=>ops|_=>#[]
noncomputable def tail35:Code:=match body35 with | .seq _ (.seq _ (.seq _ r))=>r|_=>.skip
section
variable (N0 : Nat) (W0 : World) (c Ct Cp Bm : Nat) (cs : List Frame)
noncomputable def atRecv8 (v0 v1 v2 v3 out v5 v6 v7 v8 v9 v10 v12 v13 v14 v15 v16 v17 v18 v19 v20 v21 v22:Value) (rest:List Nat):Goroutine :=
 G (b8.at ⟨#[v0,v1,v2,v3,out,v5,v6,v7,v8,v9,v10,.chan (some c),v12,v13,v14,v15,v16,v17,v18,v19,v20,v21,v22],[]⟩ [.inRegion ops5_8 rest,.code L8b,.inLoop L8,.inBlock 0,.code rest8]) cs
noncomputable def behindGo (v0 v1 v2 v3 v4 v5 v6 v7 v8 v9 v10 v11 v12 v13 v14 v15 v16 v17 v18 v19 v20 v21 v22 u0 u2 u4 u5 u6:Value):Goroutine :=
 G (b35.at ⟨#[u0,.pointer (some ⟨Ct,0,none⟩),u2,.pointer (some ⟨Cp,0,none⟩),u4,u5,u6],[]⟩ [.inRegion ops2_35 [],.code tail35])
  (b8.at ⟨#[v0,v1,v2,v3,v4,v5,v6,v7,v8,v9,v10,v11,v12,v13,v14,v15,v16,v17,v18,v19,v20,v21,v22],[]⟩ [.inRegion ops4_8 [2],.code loop8,.code rest8]::cs)
set_option maxRecDepth 100000 in
theorem segM1 (Stop:Goroutine->World->Prop) (n₀:Nat) (v0 v1 v2 v3 v5 v6 v7 v8 v9 v10 v11 v12 v13 v14 v15 v16 v17 v18 v19 v20 v21 v22 u0 u2 u4 u5 u6:Value) (w:World) (hF:AFm N0 W0 c Ct Cp Bm (.slice none 0 0) [] w)
  (next:∀ (v0 v1 v2 v3 v5 v6 v7 v8 v9 v10 v12 v13 v14 v15 v16 v17 v18 v19 v20 v21 v22:Value) w',AFm N0 W0 c Ct Cp Bm (.slice none 0 0) [] w' -> (Goes Tryz.prog true (RelM c Ct) (DM c Ct Cp)) Stop n₀ (atRecv8 c cs v0 v1 v2 v3 (.slice none 0 0) v5 v6 v7 v8 v9 v10 v12 v13 v14 v15 v16 v17 v18 v19 v20 v21 v22 [0,1]) w') :
  (Goes Tryz.prog true (RelM c Ct) (DM c Ct Cp)) Stop (n₀+13) (behindGo Ct Cp cs v0 v1 v2 v3 (.slice none 0 0) v5 v6 v7 v8 v9 v10 v11 v12 v13 v14 v15 v16 v17 v18 v19 v20 v21 v22 u0 u2 u4 u5 u6) w:=by
 simp only [behindGo,atRecv8,ops5_8,L8b,L8,loop8,rest8,ops4_8,R8,body8,ops2_35,tail35,body35,Tryz.f8,Tryz.f35,Option.getD_some] at next ⊢
 repeat (first
  | (
    a_ctl hF AFm.aside (dmCtl _))
  | (
    refine Goes.step rfl (fun _ h₁=>?_)
    replace hF:=AFm.aside hF h₁
    clear h₁
    refine goes_oper_k rfl rfl (by decide) (fun K hK=>?_)
    have hch:=AFm.ch hF
    go_simp
    refine hK _ _ ⟨dmOf hF.lt (Below.refl _ _) (fun e he=>?_),?_⟩
    ·have hm:=mem_listed he
     simp [go_sem, *] at hm
     try (subst hm;exact .inl ⟨_,rfl,Ne.symm (by exact (fun h=>hF.ne.2 h.symm)),fun _=>rfl⟩)
    clear hK K hch))
 refine Goes.step rfl (fun w₁ h₁=>?_)
 rw [stepG_ret']
 simp only [goes_go]
 refine ⟨dmCtl _,?_⟩
 replace hF:=hF.aside h₁
 clear h₁
 refine Goes.step rfl (fun w₂ h₁=>?_)
 rw [stepG_leave (fn:=Tryz.f35) (v:=.chan (some c)) rfl rfl Tryz.func35 (by simp [results,Tryz.f35]) (by simp [results,Tryz.f35])]
 simp only [goes_go]
 refine ⟨dmCtl _,?_⟩
 replace hF:=hF.aside h₁
 clear h₁
 rw [Frame.finish_at]
 repeat (first
  | (
    a_ctl hF AFm.aside (dmCtl _))
  | (
    refine Goes.step rfl (fun _ h₁=>?_)
    replace hF:=AFm.aside hF h₁
    clear h₁
    refine goes_oper_k rfl rfl (by decide) (fun K hK=>?_)
    have hch:=AFm.ch hF
    go_simp
    refine hK _ _ ⟨dmOf hF.lt (Below.refl _ _) (fun e he=>?_),?_⟩
    ·have hm:=mem_listed he
     simp [go_sem, *] at hm
     try (subst hm;exact .inl ⟨_,rfl,Ne.symm (by exact (fun h=>hF.ne.2 h.symm)),fun _=>rfl⟩)
    clear hK K hch))
 exact next _ _ _ _ _ _ _ _ _ _ _ _ _ _ _ _ _ _ _ _ _ _ hF
theorem info9:(Tryz.prog.info? 9).map (fun i=>(i.zero,i.size,i.bytes))=some (some (.string ⟨#[]⟩),1,16):=by kernel_rfl
set_option maxRecDepth 100000 in
theorem segM2 (Stop:Goroutine->World->Prop) (n₀:Nat) (out:Value) (xs:List Value) (x:ByteArray) (v0 v1 v2 v3 v5 v6 v7 v8 v9 v10 v13 v14 v15 v16 v17 v18 v19 v20 v21 v22:Value) (w:World) (hF:AFm N0 W0 c Ct Cp Bm out xs w)
  (hlen:(xs.length+1) * 16<=140737488355328)
  (next:∀ (out' v0 v1 v2 v3 v5 v6 v7 v8 v9 v10 v12 v13 v14 v15 v16 v17 v18 v19 v20 v21 v22:Value) w',AFm N0 W0 c Ct Cp Bm out' (xs ++ [.string x]) w' -> (Goes Tryz.prog true (RelM c Ct) (DM c Ct Cp)) Stop n₀ (atRecv8 c cs v0 v1 v2 v3 out' v5 v6 v7 v8 v9 v10 v12 v13 v14 v15 v16 v17 v18 v19 v20 v21 v22 [0,1]) w') :
  (Goes Tryz.prog true (RelM c Ct) (DM c Ct Cp)) Stop (n₀+22) (atRecv8 c cs v0 v1 v2 v3 out v5 v6 v7 v8 v9 v10 (.tuple #[.string x,.bool true]) v13 v14 v15 v16 v17 v18 v19 v20 v21 v22 [1]) w:=by
 simp only [atRecv8,ops5_8,L8b,L8,loop8,rest8,R8,body8,Tryz.f8,Option.getD_some] at next ⊢
 repeat (first
  | (
    a_ctl hF AFm.aside (dmCtl _))
  | (
    refine Goes.step rfl (fun _ h₁=>?_)
    replace hF:=AFm.aside hF h₁
    clear h₁
    refine goes_oper_k rfl rfl (by decide) (fun K hK=>?_)
    have hch:=AFm.ch hF
    go_simp
    refine hK _ _ ⟨dmOf hF.lt (Below.refl _ _) (fun e he=>?_),?_⟩
    ·have hm:=mem_listed he
     simp [go_sem, *] at hm
     try (subst hm;exact .inl ⟨_,rfl,Ne.symm (by exact (fun h=>hF.ne.2 h.symm)),fun _=>rfl⟩)
    clear hK K hch))
 a_cond true hF AFm.aside (dmCtl _)
 repeat (first
  | (
    a_ctl hF AFm.aside (dmCtl _))
  | (
    refine Goes.step rfl (fun _ h₁=>?_)
    replace hF:=AFm.aside hF h₁
    clear h₁
    refine goes_oper_k rfl rfl (by decide) (fun K hK=>?_)
    have hch:=AFm.ch hF
    go_simp
    refine hK _ _ ⟨dmOf hF.lt (Below.refl _ _) (fun e he=>?_),?_⟩
    ·have hm:=mem_listed he
     simp [go_sem, *] at hm
     try (subst hm;exact .inl ⟨_,rfl,Ne.symm (by exact (fun h=>hF.ne.2 h.symm)),fun _=>rfl⟩)
    clear hK K hch))
 -- buildSlice: a new block of one cell
 refine Goes.step rfl (fun w₁ h₁=>?_)
 replace hF:=AFm.aside hF h₁
 clear h₁
 refine goes_oper_k rfl rfl (by decide) (fun K hK=>?_)
 go_simp
 refine hK _ _ ⟨dmOf hF.lt ((Below.refl _ _).alloc hF.size _) (fun e he=>?_),?_⟩
 ·have hm:=mem_listed he
  simp [go_sem] at hm
 clear hK K
 have hsz:=hF.size
 have hnew:(w₁.alloc (.cells #[.string x] 9)).cell? ⟨w₁.heap.size,0,none⟩=some (.string x):=by
  rw [World.cell?_alloc_at _ _ _ _ rfl];rfl
 replace hF:=hF.alloc (.cells #[.string x] 9)
 -- append
 refine Goes.step rfl (fun w₂ h₂=>?_)
 have hltc:=hF.lt
 replace hF:=AFm.aside hF h₂
 replace hnew:w₂.cell? ⟨w₁.heap.size,0,none⟩=some (.string x):=(World.cell?_of_block (h₂.block _ (by simp;omega) (by simp;omega))).trans hnew
 clear h₂
 obtain ⟨i0,hi,hz0,hz1,hz2⟩:=info_parts info9
 have hnews:∀ j u,[Value.string x][j]?=some u->w₂.cell? ((⟨w₁.heap.size,0,none⟩:Addr).add j)=some u:=by
  intro j u hj
  match j,hj with
  | 0,hj=>simp at hj;subst hj;simpa [Addr.add] using hnew
 have h1:∀ u ∈ [Value.string x],u.oneCell' = true:=by intro u hu;simp at hu;subst hu;rfl
 have h63:xs.length+1<=maxLen:=by simp only [maxLen];omega
 obtain ⟨out',w₃,hr,hown',hgrow,_⟩:=run_append_own (P:=Tryz.prog) w₂ Bm 31 31 9 i0 (.string ⟨#[]⟩) 1 16 Tryz.underlying31 hi hz0 hz1 hz2 rfl (by decide) out xs.length xs hF.own ⟨w₁.heap.size,0,none⟩ 1 1 [.string x] rfl hnews h1 h63 hlen hF.size
 have hevs:=events_append_loc (P:=Tryz.prog) w₂ Bm 31 31 9 i0 (.string ⟨#[]⟩) 1 16 Tryz.underlying31 hi hz0 hz1 hz2 out xs.length xs hF.own ⟨w₁.heap.size,0,none⟩ 1 1 [.string x] rfl hnews h1 h63 hlen
 refine goes_oper_k rfl rfl (by decide) (fun K hK=>?_)
 refine uponK_append (.tmp 15) (.tmp 17) 31 rfl rfl rfl hr (hK _ _ ⟨dmOf hF.lt ((Below.refl _ _).grown hgrow hF.size (fun k hk=>(hF.own.lt k hk).1)) (fun e he=>?_),?_⟩)
 ·have hm:=mem_listed he
  rw [events_append_op (.tmp 15) (.tmp 17) 31 rfl rfl rfl] at hm
  rcases hevs e hm with ⟨ad,h2,h3|h3⟩|⟨m,rfl,hn⟩
  ·exact .inl ⟨ad,h2,by rw [h3];simp only;omega,fun h=>by rw [h3] at h;simp only at h;omega⟩
  ·have:=(hF.own.lt _ h3.symm).1
   exact .inl ⟨ad,h2,by omega,fun h=>by omega⟩
  ·exact .inr ⟨m,rfl,hn⟩
 clear hK K
 replace hF:AFm N0 W0 c Ct Cp Bm out' (xs ++ [.string x]) w₃:=hF.grown hgrow (by simpa using hown')
 clear hr hown' hgrow hevs hnews hnew
 repeat (first
  | (
    a_ctl hF AFm.aside (dmCtl _))
  | (
    refine Goes.step rfl (fun _ h₁=>?_)
    replace hF:=AFm.aside hF h₁
    clear h₁
    refine goes_oper_k rfl rfl (by decide) (fun K hK=>?_)
    have hch:=AFm.ch hF
    go_simp
    refine hK _ _ ⟨dmOf hF.lt (Below.refl _ _) (fun e he=>?_),?_⟩
    ·have hm:=mem_listed he
     simp [go_sem, *] at hm
     try (subst hm;exact .inl ⟨_,rfl,Ne.symm (by exact (fun h=>hF.ne.2 h.symm)),fun _=>rfl⟩)
    clear hK K hch))
 exact next _ _ _ _ _ _ _ _ _ _ _ _ _ _ _ _ _ _ _ _ _ _ _ hF
def Fin8 (xs:List Value) (g:Goroutine) (w:World):Prop :=
 ∃ out v0 v1 v2 v3 v5 v6 v7 v8 v9 v10 v13 v14 v15 v16 v17 v18 v19 v20 v21 v22,g=atRecv8 c cs v0 v1 v2 v3 out v5 v6 v7 v8 v9 v10 (.tuple #[.string ⟨#[]⟩,.bool false]) v13 v14 v15 v16 v17 v18 v19 v20 v21 v22 [1]/\AFm N0 W0 c Ct Cp Bm out xs w
theorem atRecv8_comm (v0 v1 v2 v3 out v5 v6 v7 v8 v9 v10 v12 v13 v14 v15 v16 v17 v18 v19 v20 v21 v22:Value) (w:World):stepG Tryz.prog true (atRecv8 c cs v0 v1 v2 v3 out v5 v6 v7 v8 v9 v10 v12 v13 v14 v15 v16 v17 v18 v19 v20 v21 v22 [0,1]) w =
  .comm (core (atRecv8 c cs v0 v1 v2 v3 out v5 v6 v7 v8 v9 v10 v12 v13 v14 v15 v16 v17 v18 v19 v20 v21 v22 [0,1])) #[rcase c (.string ⟨#[]⟩)] true (.recv true) w #[]:=by
 simp only [atRecv8,ops5_8,L8,loop8,R8,body8,Tryz.f8,Option.getD_some,core_G]
 rw [stepG_comm (cases:=#[rcase c (.string ⟨#[]⟩)]) (blocking:=true) (shape:=.recv true) (w':=w) rfl rfl (by decide) (by simp [go_sem,rcase])]
 simp [listed,go_sem,seen]
theorem served8 (v0 v1 v2 v3 out v5 v6 v7 v8 v9 v10 v12 v13 v14 v15 v16 v17 v18 v19 v20 v21 v22 v:Value):Conc.served (core (atRecv8 c cs v0 v1 v2 v3 out v5 v6 v7 v8 v9 v10 v12 v13 v14 v15 v16 v17 v18 v19 v20 v21 v22 [0,1])) v=atRecv8 c cs v0 v1 v2 v3 out v5 v6 v7 v8 v9 v10 v v13 v14 v15 v16 v17 v18 v19 v20 v21 v22 [1]:=by
 simp only [atRecv8,ops5_8,L8,loop8,R8,body8,Tryz.f8,Option.getD_some,core_G,served_G]
 rfl
theorem stopM8:∀ (vs:List ByteArray) (xs:List Value) (out v0 v1 v2 v3 v5 v6 v7 v8 v9 v10 v12 v13 v14 v15 v16 v17 v18 v19 v20 v21 v22:Value) (w:World),(xs.length+vs.length) * 16<=140737488355328->AFm N0 W0 c Ct Cp Bm out xs w →
  StopM Tryz.prog c Ct Cp (.string ⟨#[]⟩) (Fin8 N0 W0 c Ct Cp Bm cs (xs ++ vs.map .string)) (vs.map .string) (atRecv8 c cs v0 v1 v2 v3 out v5 v6 v7 v8 v9 v10 v12 v13 v14 v15 v16 v17 v18 v19 v20 v21 v22 [0,1]) w:=by
 intro vs
 induction vs with
 | nil =>
  intro xs out v0 v1 v2 v3 v5 v6 v7 v8 v9 v10 v12 v13 v14 v15 v16 v17 v18 v19 v20 v21 v22 w hl hF
  refine ⟨rfl,#[],atRecv8_comm ..,quiet_nil,by simp,fun w₂ h₂=>?_⟩
  show Fin8 N0 W0 c Ct Cp Bm cs _ (Conc.served (core _) _) w₂
  rw [served8]
  exact ⟨out,v0,v1,v2,v3,v5,v6,v7,v8,v9,v10,v13,v14,v15,v16,v17,v18,v19,v20,v21,v22,rfl,by simpa using hF.aside h₂⟩
 | cons x vs ih =>
  intro xs out v0 v1 v2 v3 v5 v6 v7 v8 v9 v10 v12 v13 v14 v15 v16 v17 v18 v19 v20 v21 v22 w hl hF
  refine ⟨rfl,#[],atRecv8_comm ..,quiet_nil,by simp,fun w₂ h₂=>?_⟩
  show RecvsM Tryz.prog c Ct Cp _ _ _ (Conc.served (core _) _) w₂
  rw [served8]
  refine (recvsM_iff ..).2 ⟨0+22,segM2 N0 W0 c Ct Cp Bm cs _ 0 out xs x v0 v1 v2 v3 v5 v6 v7 v8 v9 v10 v13 v14 v15 v16 v17 v18 v19 v20 v21 v22 w₂ (hF.aside h₂) (by simp at hl;omega) fun out' v0 v1 v2 v3 v5 v6 v7 v8 v9 v10 v12 v13 v14 v15 v16 v17 v18 v19 v20 v21 v22 w' hF=>Goes.stop fun w₁ h₁=>?_⟩
  have:=ih (xs ++ [.string x]) out' v0 v1 v2 v3 v5 v6 v7 v8 v9 v10 v12 v13 v14 v15 v16 v17 v18 v19 v20 v21 v22 w₁ (by simp at hl ⊢;omega) (hF.aside h₁)
  simpa using this
theorem recvs8 (vs:List ByteArray) (hl:vs.length * 16<=140737488355328) (v0 v1 v2 v3 v5 v6 v7 v8 v9 v10 v11 v12 v13 v14 v15 v16 v17 v18 v19 v20 v21 v22 u0 u2 u4 u5 u6:Value) (w:World) (hF:AFm N0 W0 c Ct Cp Bm (.slice none 0 0) [] w) :
  RecvsM Tryz.prog c Ct Cp (.string ⟨#[]⟩) (Fin8 N0 W0 c Ct Cp Bm cs (vs.map .string)) (vs.map .string) (behindGo Ct Cp cs v0 v1 v2 v3 (.slice none 0 0) v5 v6 v7 v8 v9 v10 v11 v12 v13 v14 v15 v16 v17 v18 v19 v20 v21 v22 u0 u2 u4 u5 u6) w:=by
 refine (recvsM_iff ..).2 ⟨0+13,segM1 N0 W0 c Ct Cp Bm cs _ 0 v0 v1 v2 v3 v5 v6 v7 v8 v9 v10 v11 v12 v13 v14 v15 v16 v17 v18 v19 v20 v21 v22 u0 u2 u4 u5 u6 w hF fun v0 v1 v2 v3 v5 v6 v7 v8 v9 v10 v12 v13 v14 v15 v16 v17 v18 v19 v20 v21 v22 w' hF=>Goes.stop fun w₁ h₁=>?_⟩
 have:=stopM8 N0 W0 c Ct Cp Bm cs vs [] (.slice none 0 0) v0 v1 v2 v3 v5 v6 v7 v8 v9 v10 v12 v13 v14 v15 v16 v17 v18 v19 v20 v21 v22 w₁ (by simpa using hl) (hF.aside h₁)
 simpa using this
end
end Go.Proofs.YtgnbibinclepcaaGreatDoor
set_option linter.unusedVariables false
set_option linter.unusedSimpArgs false
namespace Go.Proofs.YtgnbibinclepcaaGreatDoor.Lf
variable {P : Program}
theorem t_xLoadBytes (a:Addr):∀ n acc,T P (Extern.Bytes.loadBytes a n acc):=by
 intro n
 induction n generalizing a with
 | zero=>intro acc;trivial
 | succ n ih =>
  intro acc
  unfold Extern.Bytes.loadBytes
  refine Tame.bind (t_load _ _) fun v=>?_
  split
  ·exact ih _ _
  ·trivial
theorem t_bytesOf:∀ v,T P (Extern.Bytes.bytesOf v):=by
 intro v;unfold Extern.Bytes.bytesOf;split <;> first|trivial|exact t_xLoadBytes _ _ _
theorem t_asByte:∀ v,T P (Extern.Bytes.asByte v):=by
 intro v;unfold Extern.Bytes.asByte;(repeat' (first|with_reducible exact Tame.pureT|exact t_stuck _|exact t_unsupported _|with_reducible apply t_runtimePanic|with_reducible apply t_load|with_reducible apply t_choose|with_reducible apply t_program|with_reducible apply t_typeInfo|with_reducible apply t_typeStr|with_reducible apply t_underlying|with_reducible apply t_globalAddr|with_reducible apply t_newRow|with_reducible apply t_askRoom|with_reducible apply t_asInt|with_reducible apply t_asString|with_reducible apply t_asAgg|with_reducible apply t_asAddr|with_reducible apply t_loadBytes|with_reducible apply Tame.bind|with_reducible apply Tame.map|intro _|split|trivial))
theorem t_same:∀ a,T P (Extern.AbiNoEscape.same a):=by
 intro a;rcases a with ⟨_|⟨x,_|⟨y,l⟩⟩⟩ <;> trivial
theorem t_described (v:Value):T P (Extern.RuntimeError.described v):=by
 unfold Extern.RuntimeError.described;refine Tame.bind t_program fun _=>?_
 split <;> (repeat' (first|with_reducible exact Tame.pureT|exact t_stuck _|exact t_unsupported _|with_reducible apply t_runtimePanic|with_reducible apply t_load|with_reducible apply t_choose|with_reducible apply t_program|with_reducible apply t_typeInfo|with_reducible apply t_typeStr|with_reducible apply t_underlying|with_reducible apply t_globalAddr|with_reducible apply t_newRow|with_reducible apply t_askRoom|with_reducible apply t_asInt|with_reducible apply t_asString|with_reducible apply t_asAgg|with_reducible apply t_asAddr|with_reducible apply t_loadBytes|with_reducible apply Tame.bind|with_reducible apply Tame.map|intro _|split|trivial))
theorem t_pkgpathOf (i:TypeInfo):T P (Extern.RuntimeError.pkgpathOf i):=by
 unfold Extern.RuntimeError.pkgpathOf;split <;> try trivial
 refine Tame.bind (t_typeInfo _) fun _=>?_
 split <;> trivial
theorem t_typeAssertionError:∀ a,T P (Extern.RuntimeError.typeAssertionError a):=by
 intro a;unfold Extern.RuntimeError.typeAssertionError Extern.RuntimeError.text
 refine Tame.bind (t_asAddr _) fun _=>Tame.bind (t_load _ _) fun _=>Tame.bind (t_described _) fun _=>?_
 refine Tame.bind (t_load _ _) fun _=>Tame.bind (t_described _) fun _=>Tame.bind (t_load _ _) fun _=>Tame.bind (t_described _) fun r=>?_
 cases r with
 | none=>exact t_runtimePanic _
 | some r =>
  refine Tame.bind (t_load _ _) fun _=>Tame.bind (t_asString _) fun _=>?_
  split
  ·trivial
  ·split
   ·trivial
   ·dsimp only
    split
    ·trivial
    ·refine Tame.bind (t_pkgpathOf _) fun _=>Tame.bind (t_pkgpathOf _) fun _=>?_
     split <;> trivial
theorem t_boundsError:∀ a,T P (Extern.RuntimeError.boundsError a):=by
 intro a
 rcases a with ⟨_|⟨x,_|⟨y,l⟩⟩⟩
 ·trivial
 ·cases x <;> try trivial
  rename_i c
  rcases c with ⟨_|⟨p,_|⟨q,_|⟨r,_|⟨s,_|⟨t,l⟩⟩⟩⟩⟩⟩ <;> try trivial
  ·cases p <;> try trivial
   cases q <;> try trivial
   cases r <;> try trivial
   cases s <;> try trivial
   unfold Extern.RuntimeError.boundsError
   dsimp only
   rename_i k1 x k2 y sg k3 code
   show T P (match (if (sg && decide (x<0))=true then Extern.RuntimeError.boundsNegErrorFmts else Extern.RuntimeError.boundsErrorFmts)[code.toNat]? with
    | some fmt=>Extern.RuntimeError.text _
    | none=>stuck "boundsError: no such code")
   split <;> trivial
  all_goals (cases p <;> try trivial)
 ·trivial
theorem t_unhashable:∀ a,T P (Extern.RuntimeError.unhashableTypeError a):=by
 intro a
 rcases a with ⟨_|⟨x,_|⟨y,l⟩⟩⟩
 ·trivial
 ·cases x <;> try trivial
  rename_i c
  rcases c with ⟨_|⟨p,_|⟨q,l⟩⟩⟩ <;> try trivial
  refine Tame.bind (t_described p) fun r=>?_
  cases r <;> trivial
 ·trivial
theorem t_maxLen:T P Extern.BytealgIndex.maxLen:=Tame.bind (t_globalAddr _) fun _=>Tame.bind (t_load _ _) fun _=>t_asInt _
theorem t_index:∀ a,T P (Extern.BytealgIndex.index a):=by
 intro a
 rcases a with ⟨_|⟨x,_|⟨y,_|⟨z,l⟩⟩⟩⟩
 ·trivial
 ·trivial
 ·refine Tame.bind (t_bytesOf x) fun a=>Tame.bind (t_bytesOf y) fun b=>?_
  refine Tame.bind t_maxLen fun m=>?_
  dsimp only
  have tail:∀ (a b:ByteArray),T P (match List.find? (fun i=>a.extract i (i+b.size) == b) (List.range (a.size+1 - b.size)) with
     | some i=>pure (goInt ↑i)
     | none=>pure (goInt (-1)):Sem Value):=by intro a b;split <;> trivial
  split
  ·exact Tame.bind (t_unsupported _) fun _=>by
    split
    ·exact Tame.bind (t_unsupported _) fun _=>tail _ _
    ·exact tail _ _
  ·split
   ·exact Tame.bind (t_unsupported _) fun _=>tail _ _
   ·exact tail _ _
 ·trivial
theorem t_indexByte:∀ a,T P (Extern.BytealgIndexByte.indexByte a):=by
 intro a
 rcases a with ⟨_|⟨x,_|⟨y,_|⟨z,l⟩⟩⟩⟩
 ·trivial
 ·trivial
 ·refine Tame.bind (t_bytesOf x) fun b=>Tame.bind (t_asByte y) fun c=>?_
  split <;> trivial
 ·trivial
theorem t_makeNoZero (p r:Array TypeId):∀ a,T P (Extern.BytealgMakeNoZero.makeNoZero p r a):=by
 intro a
 rcases a with ⟨_|⟨x,_|⟨y,l⟩⟩⟩
 ·trivial
 ·cases x <;> try trivial
  rename_i k n
  cases k <;> try trivial
  show T P (match r[0]? with|some t=>_|_=>stuck "bytealg.MakeNoZero: no result type")
  split
  ·refine Tame.bind (t_underlying _) fun u=>?_
   split
   ·dsimp only
    have tail:∀ (t elem:TypeId),T P (do
     let cap ← choose (.appendCap n.toNat 0 elem)
     askRoom cap
     let bytes ← choose (.extern "internal/bytealg.MakeNoZero.bytes" 0)
     let a ← newRow elem (Extern.BytealgMakeNoZero.digits cap bytes #[])
     pure (.slice (some a) n.toNat cap):Sem Value):=fun _ _=>Tame.bind (t_choose _) fun _=>Tame.bind (t_askRoom _) fun _=>Tame.bind (t_choose _) fun _=>Tame.bind (t_newRow _ _) fun _=>trivial
    split
    ·exact Tame.bind (t_runtimePanic _) fun _=>tail 0 _
    ·exact tail 0 _
   ·trivial
  ·trivial
 ·trivial
/-! ### the table -/
open Extern
theorem find_row {fn:Func} {n:String} {f:Array Value->Sem Value} (hn:fn.name=n) (h1:allGenericRows.lookup n=none) (h2:allTypedRows.lookup n=none) (h3:allRows.lookup n=some f):find fn=some f:=by
 unfold find;simp [hn,h1,h2,h3]
theorem find_typed {fn:Func} {n:String} {f:Typed} (hn:fn.name=n) (h1:allGenericRows.lookup n=none) (h2:allTypedRows.lookup n=some f):find fn=some (f fn.params fn.resultTypes):=by
 unfold find;simp [hn,h1,h2]
def rowNames:List String:=["internal/abi.NoEscape", "internal/bytealg.MakeNoZero", "internal/bytealg.IndexByteString", "internal/bytealg.IndexString",
 "(runtime.boundsError).Error", "(runtime.boundsError).RuntimeError", "(runtime.errorString).Error", "(runtime.errorString).RuntimeError", "(runtime.plainError).Error", "(runtime.plainError).RuntimeError",
 "(runtime.errorAddressString).Error", "(runtime.errorAddressString).RuntimeError", "(*runtime.TypeAssertionError).Error", "(*runtime.TypeAssertionError).RuntimeError", "(*runtime.PanicNilError).Error", "(*runtime.PanicNilError).RuntimeError",
 "(internal/runtime/maps.unhashableTypeError).Error", "(internal/runtime/maps.unhashableTypeError).RuntimeError", "(internal/abi.Kind).String"]
theorem tame_row {fn:Func} (h:fn.name ∈ rowNames):∃ e,find fn=some e/\∀ args,T P (e args):=by
 simp only [rowNames,List.mem_cons,List.not_mem_nil,or_false] at h
 rcases h with h|h|h|h|h|h|h|h|h|h|h|h|h|h|h|h|h|h|h
 ·exact ⟨_,find_row h (by kernel_rfl) (by kernel_rfl) ((by kernel_rfl:allRows.lookup "internal/abi.NoEscape" = Extern.AbiNoEscape.rows.lookup "internal/abi.NoEscape").trans rfl),t_same⟩
 ·exact ⟨_,find_typed h (by kernel_rfl) (f:=Extern.BytealgMakeNoZero.makeNoZero) (by kernel_rfl),t_makeNoZero _ _⟩
 ·exact ⟨_,find_row h (by kernel_rfl) (by kernel_rfl) ((by kernel_rfl:allRows.lookup "internal/bytealg.IndexByteString" = Extern.BytealgIndexByte.rows.lookup "internal/bytealg.IndexByteString").trans rfl),t_indexByte⟩
 ·exact ⟨_,find_row h (by kernel_rfl) (by kernel_rfl) ((by kernel_rfl:allRows.lookup "internal/bytealg.IndexString" = Extern.BytealgIndex.rows.lookup "internal/bytealg.IndexString").trans rfl),t_index⟩
 ·exact ⟨_,find_row h (by kernel_rfl) (by kernel_rfl) ((by kernel_rfl:allRows.lookup "(runtime.boundsError).Error" = Extern.RuntimeError.rows.lookup "(runtime.boundsError).Error").trans rfl),t_boundsError⟩
 ·exact ⟨_,find_row h (by kernel_rfl) (by kernel_rfl) ((by kernel_rfl:allRows.lookup "(runtime.boundsError).RuntimeError" = Extern.RuntimeError.rows.lookup "(runtime.boundsError).RuntimeError").trans rfl),fun _=>trivial⟩
 ·exact ⟨_,find_row h (by kernel_rfl) (by kernel_rfl) ((by kernel_rfl:allRows.lookup "(runtime.errorString).Error" = Extern.RuntimeError.rows.lookup "(runtime.errorString).Error").trans rfl),fun _=>Tame.bind (t_asString _) fun _=>trivial⟩
 ·exact ⟨_,find_row h (by kernel_rfl) (by kernel_rfl) ((by kernel_rfl:allRows.lookup "(runtime.errorString).RuntimeError" = Extern.RuntimeError.rows.lookup "(runtime.errorString).RuntimeError").trans rfl),fun _=>trivial⟩
 ·exact ⟨_,find_row h (by kernel_rfl) (by kernel_rfl) ((by kernel_rfl:allRows.lookup "(runtime.plainError).Error" = Extern.RuntimeError.rows.lookup "(runtime.plainError).Error").trans rfl),fun _=>Tame.bind (t_asString _) fun _=>trivial⟩
 ·exact ⟨_,find_row h (by kernel_rfl) (by kernel_rfl) ((by kernel_rfl:allRows.lookup "(runtime.plainError).RuntimeError" = Extern.RuntimeError.rows.lookup "(runtime.plainError).RuntimeError").trans rfl),fun _=>trivial⟩
 ·exact ⟨_,find_row h (by kernel_rfl) (by kernel_rfl) ((by kernel_rfl:allRows.lookup "(runtime.errorAddressString).Error" = Extern.RuntimeError.rows.lookup "(runtime.errorAddressString).Error").trans rfl),fun _=>Tame.bind (t_asAgg _) fun _=>Tame.bind (t_asString _) fun _=>trivial⟩
 ·exact ⟨_,find_row h (by kernel_rfl) (by kernel_rfl) ((by kernel_rfl:allRows.lookup "(runtime.errorAddressString).RuntimeError" = Extern.RuntimeError.rows.lookup "(runtime.errorAddressString).RuntimeError").trans rfl),fun _=>trivial⟩
 ·exact ⟨_,find_row h (by kernel_rfl) (by kernel_rfl) ((by kernel_rfl:allRows.lookup "(*runtime.TypeAssertionError).Error" = Extern.RuntimeError.rows.lookup "(*runtime.TypeAssertionError).Error").trans rfl),t_typeAssertionError⟩
 ·exact ⟨_,find_row h (by kernel_rfl) (by kernel_rfl) ((by kernel_rfl:allRows.lookup "(*runtime.TypeAssertionError).RuntimeError" = Extern.RuntimeError.rows.lookup "(*runtime.TypeAssertionError).RuntimeError").trans rfl),fun _=>trivial⟩
 ·exact ⟨_,find_row h (by kernel_rfl) (by kernel_rfl) ((by kernel_rfl:allRows.lookup "(*runtime.PanicNilError).Error" = Extern.RuntimeError.rows.lookup "(*runtime.PanicNilError).Error").trans rfl),fun _=>trivial⟩
 ·exact ⟨_,find_row h (by kernel_rfl) (by kernel_rfl) ((by kernel_rfl:allRows.lookup "(*runtime.PanicNilError).RuntimeError" = Extern.RuntimeError.rows.lookup "(*runtime.PanicNilError).RuntimeError").trans rfl),fun _=>trivial⟩
 ·exact ⟨_,find_row h (by kernel_rfl) (by kernel_rfl) ((by kernel_rfl:allRows.lookup "(internal/runtime/maps.unhashableTypeError).Error" = Extern.RuntimeError.rows.lookup "(internal/runtime/maps.unhashableTypeError).Error").trans rfl),t_unhashable⟩
 ·exact ⟨_,find_row h (by kernel_rfl) (by kernel_rfl) ((by kernel_rfl:allRows.lookup "(internal/runtime/maps.unhashableTypeError).RuntimeError" = Extern.RuntimeError.rows.lookup "(internal/runtime/maps.unhashableTypeError).RuntimeError").trans rfl),fun _=>trivial⟩
 ·exact ⟨_,find_row h (by kernel_rfl) (by kernel_rfl) ((by kernel_rfl:allRows.lookup "(internal/abi.Kind).String" = Extern.ReflectliteType.rows.lookup "(internal/abi.Kind).String").trans rfl),fun _=>Tame.bind (t_asInt _) fun _=>trivial⟩
def bareOk (fn:Func):Bool:=!(fn.name == "runtime.NumGoroutine") && (fn.body.isSome || ((allNextRows.lookup fn.name).isNone && (allNextRows.lookup fn.origin).isNone && (rowNames.contains fn.name || (find fn).isNone)))
theorem cf_of (h:P.funcs.toList.all bareOk=true):CF P:=by
 intro f args
 unfold callFunc
 refine Tame.bindOk (ok:=fun p=>p=P) (show Tame P _ program 0 from (rfl:P=P)) fun p hp=>?_
 subst hp
 cases hf:p.funcs[f]? with
 | none=>trivial
 | some fn =>
  have hm:fn ∈ p.funcs.toList:=Array.mem_toList_iff.2 (Array.mem_of_getElem? hf)
  have hb:=List.all_eq_true.1 h fn hm
  unfold bareOk at hb
  simp only [Bool.and_eq_true,Bool.or_eq_true,Bool.not_eq_true'] at hb
  obtain ⟨h1,h2⟩:=hb
  dsimp only
  rw [if_neg (by rw [h1];simp)]
  split
  ·rename_i hno
   rcases h2 with h2|⟨⟨h3,h4⟩,h5⟩
   ·rw [Option.isNone_iff_eq_none] at hno;rw [hno] at h2;cases h2
   refine Tame.bind (t_extern f) fun _=>?_
   have e1:findNext fn=none:=by
    unfold findNext
    rw [Option.isNone_iff_eq_none] at h3 h4
    simp [h3,h4]
   rw [e1]
   dsimp only
   rcases h5 with h5|h5
   ·obtain ⟨e,he,ht⟩:=tame_row (P:=p) (fn:=fn) (by simpa using h5)
    rw [he]
    exact t_v (ht _)
   ·rw [Option.isNone_iff_eq_none] at h5
    rw [h5]
    dsimp only
    split <;> trivial
  ·trivial
end Go.Proofs.YtgnbibinclepcaaGreatDoor.Lf
