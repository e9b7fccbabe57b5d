
import Derived.Test.YtgnbibinclepcaaGreatDoorZP2
import Derived.Test.YtgnbibinclepcaaGreatDoorProg
import Derived.Conc.PipeWords
import Derived.Conc.EventLaws2
import Derived.Laws.Slices
import Derived.Laws.DeepStrings4
import Derived.Laws.Cover1
set_option linter.unusedVariables false
set_option linter.unusedSimpArgs false
namespace Go.Proofs.YtgnbibinclepcaaGreatDoor
open Go.Conc Go.Proofs.YtgnbibinclepcaaGreatDoor.Lf
section
variable {P : Program} {w : World} {es : Array Event}
@[go_sem] theorem _root_.Go.events_len_string' (t ty:TypeId) (s:ByteArray) (h:P.underlying t=some .string):(Builtin.len_ #[t] ty #[.string s]).events P w es=es:=by
 simp [Builtin.len_,run_underlying h]
@[go_sem] theorem _root_.Go.events_min_int2' (ts:Array TypeId) (t:TypeId) (k k' : IntKind) (x y:Int):(Builtin.min_ ts t #[.int k x,.int k' y]).events P w es=es:=rfl
@[go_sem] theorem _root_.Go.events_slice_high' (t:TypeId) (s:ByteArray) (k:IntKind) (j:Int) (h:P.underlying t=some .string) (h0:0<=j) (h1:j<=s.size):(Instr.slice t (.string s) none (some (.int k j)) none).events P w es=es:=by
 simp [Instr.slice,run_underlying h,Instr.sliceBounds,Instr.sliceBound,asIntOf,h0,h1]
@[go_sem] theorem _root_.Go.events_slice_low' (t:TypeId) (s:ByteArray) (k:IntKind) (j:Int) (h:P.underlying t=some .string) (h0:0<=j) (h1:j<=s.size):(Instr.slice t (.string s) (some (.int k j)) none none).events P w es=es:=by
 simp [Instr.slice,run_underlying h,Instr.sliceBounds,Instr.sliceBound,asIntOf,h0,h1]
@[go_sem] theorem _root_.Go.events_sliceAt_string' (t:TypeId) (x:Value) (lo hi mx:Option Value) (h:P.underlying t=some .string):(Instr.sliceAt t x lo hi mx).events P w es=(Instr.slice t x lo hi mx).events P w es:=by
 simp [Instr.sliceAt,run_underlying h]
@[go_sem] theorem _root_.Go.events_store_string' (a:Addr) (m:Mode) (v:ByteArray):(store a (.string v) m).events P w es=storedEv P w es a (.string v) m:=events_store P w es a _ m rfl
end
/-! ### what the steps may list -/
def SEv (c Ct Cp:Nat) (e:Event):Prop:=(∃ a wr s,e=⟨.cell a,wr,s⟩/\a.block=Ct) ∨ (∃ a s,e=⟨.cell a,false,s⟩/\a.block=Cp) ∨ (∃ s,e=⟨.obj c,false,s⟩)
theorem SEv.evS {c Ct Cp:Nat} {e:Event} (h:SEv c Ct Cp e):EvS c Ct Cp e:=by
 intro x hx
 rcases h with ⟨a,wr,s,rfl,ha⟩|⟨a,s,rfl,ha⟩|⟨s,rfl⟩
 ·have:x.loc=.cell a:=by cases wr <;> cases s <;> simp [MemAct.ofEvent,MemAct.touch?] at hx <;> subst hx <;> rfl
  exact .inl (by rw [this];exact ha)
 ·have:x.loc=.cell a/\x.write=false:=by cases s <;> simp [MemAct.ofEvent,MemAct.touch?] at hx <;> subst hx <;> exact ⟨rfl,rfl⟩
  exact .inr ⟨this.2,.inl (by rw [this.1];exact ha)⟩
 ·have:x.loc=.obj c/\x.write=false:=by cases s <;> simp [MemAct.ofEvent,MemAct.touch?] at hx <;> subst hx <;> exact ⟨rfl,rfl⟩
  exact .inr ⟨this.2,.inr this.1⟩
theorem SEv.quiet {c Ct Cp:Nat} {es:Array Event} (h:∀ e ∈ es,SEv c Ct Cp e):Quiet es:=by
 refine deafBehind_still fun e he=>?_
 rcases h e he with ⟨a,wr,s,rfl,_⟩|⟨a,s,rfl,_⟩|⟨s,rfl⟩ <;> simp
theorem dsOf {c Ct Cp:Nat} {w w' : World} {es:Array Event} (ha:Aside Ct w w') (h:∀ e ∈ es,SEv c Ct Cp e):DS c Ct Cp w w' es:=⟨ha,SEv.quiet h,fun e he=>(h e he).evS⟩
theorem dsCtl {c Ct Cp:Nat} (w:World):DS c Ct Cp w w #[]:=dsOf (Aside.refl _ _) (by simp)
noncomputable def b76:Frame:={ (default:Frame) with fn:=76,kind:=.deferred }
noncomputable def body76:Code:=Tryz.f76.body.getD .skip
noncomputable def L76:Code:=match body76 with | .seq (.block _ (.loop c)) _=>c|_=>.skip
noncomputable def R76:Code:=match body76 with | .seq _ r=>r|_=>.skip
noncomputable def ops76:Array Oper:=match L76 with | .seq _ (.block _ (.seq _ (.seq (.region _ ops _) _)))=>ops|_=>#[]
noncomputable def N76:Code:=match L76 with | .seq _ (.block _ (.seq _ (.seq _ r)))=>r|_=>.skip
noncomputable def ops4_76:Array Oper:=match R76 with | .region _ ops _=>ops|_=>#[]
noncomputable def bot76:Frame:={ (default:Frame) with fn:=Tryz.prog.funcs.size,defers:=[],mode:=.panicking [goexitEntry] }
structure Shx (c Ct Cp:Nat) (s:ByteArray) (w:World):Prop where
 tx:w.heap[Ct]?=some (.cells #[.string s] 9 (0,0))
 ch:w.heap[Cp]?=some (.cells #[.chan (some c)] 113 (0,0))
theorem Shx.rely {c Ct Cp:Nat} {s:ByteArray} {w w₁:World} (h:Shx c Ct Cp s w) (r:RelS Ct Cp w w₁):Shx c Ct Cp s w₁:=⟨r.ct.trans h.tx,r.cp.trans h.ch⟩
theorem Shx.c0 {c Ct Cp:Nat} {s:ByteArray} {w:World} (h:Shx c Ct Cp s w):w.cell? ⟨Ct,0,none⟩=some (.string s):=by simp [World.cell?,h.tx]
theorem Shx.c1 {c Ct Cp:Nat} {s:ByteArray} {w:World} (h:Shx c Ct Cp s w):w.cell? ⟨Cp,0,none⟩=some (.chan (some c)):=by simp [World.cell?,h.ch]
theorem Shx.fr {c Ct Cp:Nat} {s:ByteArray} {w:World} (h:Shx c Ct Cp s w):w.frozen? ⟨Ct,0,none⟩=false:=by simp [World.frozen?,h.tx]
theorem Shx.set {c Ct Cp:Nat} {s:ByteArray} {w:World} (hne:Ct ≠ Cp) (h:Shx c Ct Cp s w) (u:ByteArray):Shx c Ct Cp u (w.setCell ⟨Ct,0,none⟩ (.string u)):=by
 have hlt:Ct<w.heap.size:=by
  rcases Nat.lt_or_ge Ct w.heap.size with x|x
  ·exact x
  ·have:=h.tx;rw [Array.getElem?_eq_none x] at this;cases this
 refine ⟨?_,?_⟩
 ·simp [World.setCell,Array.getElem?_modify,h.tx]
 ·simp [World.setCell,Array.getElem?_modify,hne,h.ch]
theorem asideSet (Ct:Nat) (w:World) (v:Value):Aside Ct w (w.setCell ⟨Ct,0,none⟩ v):=⟨rfl,rfl,rfl,by simp [World.setCell],fun k hk=>by simp [World.setCell,Array.getElem?_modify,Ne.symm hk]⟩
section
variable (c Ct Cp : Nat) (s : ByteArray)
noncomputable def head76 (u2 u3 u4 u5 u6 u7 u8 u9 Bd Bf Bb Bc Ba Be:Value):Goroutine :=
 G (b76.at ⟨#[.pointer (some ⟨Ct,0,none⟩),.pointer (some ⟨Cp,0,none⟩),u2,u3,u4,u5,u6,u7,u8,u9,Bd,Bf,Bb,Bc,Ba,Be],[]⟩ [.code L76,.inLoop L76,.inBlock 0,.code R76]) [bot76]
noncomputable def atSend76 (c:Nat) (v:Value) (u2 u3 u4 u5 u6 u7 u9 Bd Bb Bc Ba Be:Value) (rest:List Nat):Goroutine :=
 G (b76.at ⟨#[.pointer (some ⟨Ct,0,none⟩),.pointer (some ⟨Cp,0,none⟩),u2,u3,u4,u5,u6,u7,.chan (some c),u9,Bd,v,Bb,Bc,Ba,Be],[]⟩ [.inRegion ops76 rest,.code N76,.inBlock 1,.inLoop L76,.inBlock 0,.code R76]) [bot76]
noncomputable def mid76 (m:Int) (u3 u4 u5 u6 u7 u8 u9 Bd Bf Bb Bc Ba Be:Value):Goroutine :=
 G (b76.at ⟨#[.pointer (some ⟨Ct,0,none⟩),.pointer (some ⟨Cp,0,none⟩),.int .i64 m,u3,u4,u5,u6,u7,u8,u9,Bd,Bf,Bb,Bc,Ba,Be],[]⟩ [.code (.region 2 ops76 true),.code N76,.inBlock 1,.inLoop L76,.inBlock 0,.code R76]) [bot76]
set_option maxRecDepth 100000 in
theorem seg76_a (Stop:Goroutine->World->Prop) (n₀:Nat) (u2 u3 u4 u5 u6 u7 u8 u9 Bd Bf Bb Bc Ba Be:Value) (w:World) (hF:Shx c Ct Cp s w) (hs:s.toList.isEmpty=false)
  (next:∀ (u3 u4 u5 u6 u7 u8 u9 Bd Bf Bb Bc Ba Be:Value) (w:World),Shx c Ct Cp s w->(Goes Tryz.prog false (RelS Ct Cp) (DS c Ct Cp)) Stop n₀ (mid76 Ct Cp (if (s.size:Int)<200 then (s.size:Int) else 200) u3 u4 u5 u6 u7 u8 u9 Bd Bf Bb Bc Ba Be) w):(Goes Tryz.prog false (RelS Ct Cp) (DS c Ct Cp)) Stop (n₀+17) (head76 Ct Cp u2 u3 u4 u5 u6 u7 u8 u9 Bd Bf Bb Bc Ba Be) w:=by
 simp only [mid76,ops76,N76,head76,L76,R76,body76,Tryz.f76,Option.getD_some] at next ⊢
 repeat (first
  | (
    a_ctl hF Shx.rely (dsCtl _))
  | (
    refine Goes.step rfl (fun w₁ h₁=>?_)
    replace hF:=Shx.rely hF h₁
    refine goes_oper_k rfl rfl (by decide) (fun K hK=>?_)
    have hf0:=Shx.c0 hF
    have hf1:=Shx.c1 hF
    go_simp
    refine hK _ _ ⟨dsOf (Aside.refl _ _) (fun e he=>?_),?_⟩
    ·have hm:=mem_listed he
     clear hK
     simp [go_sem, *] at hm
     try (subst hm;first|exact .inl ⟨_,_,_,rfl,rfl⟩|exact .inr (.inl ⟨_,_,rfl,rfl⟩))
    clear hK K hf0 hf1 h₁))
 a_cond true hF Shx.rely (dsCtl _)
 repeat (first
  | (
    a_ctl hF Shx.rely (dsCtl _))
  | (
    refine Goes.step rfl (fun w₁ h₁=>?_)
    replace hF:=Shx.rely hF h₁
    refine goes_oper_k rfl rfl (by decide) (fun K hK=>?_)
    have hf0:=Shx.c0 hF
    have hf1:=Shx.c1 hF
    go_simp
    refine hK _ _ ⟨dsOf (Aside.refl _ _) (fun e he=>?_),?_⟩
    ·have hm:=mem_listed he
     clear hK
     simp [go_sem, *] at hm
     try (subst hm;first|exact .inl ⟨_,_,_,rfl,rfl⟩|exact .inr (.inl ⟨_,_,rfl,rfl⟩))
    clear hK K hf0 hf1 h₁))
 exact next _ _ _ _ _ _ _ _ _ _ _ _ _ _ hF
theorem orders76 (t:Nat):Region.schedule (Tryz.prog.follows .mixedOrders) ops76 t ∈ [[0,1,2,3,4],[0,2,1,3,4],[1,0,2,3,4],[1,2,0,3,4],[1,2,3,0,4],[2,0,1,3,4],[2,1,0,3,4],[2,1,3,0,4]]:=by
 have h:=schedule_mem ops76 t
 have e:Tryz.prog.follows .mixedOrders=true:=by kernel_rfl
 rw [e]
 have e2:allOrd .any ops76 ops76.size (Array.replicate ops76.size false) []=[[0,1,2,3,4],[0,2,1,3,4],[1,0,2,3,4],[1,2,0,3,4],[1,2,3,0,4],[2,0,1,3,4],[2,1,0,3,4],[2,1,3,0,4]]:=by kernel_rfl
 rw [e2] at h
 exact h
set_option maxRecDepth 100000 in
theorem seg76_b (Stop:Goroutine->World->Prop) (n₀:Nat) (m:Int) (hm0:0<=m) (hm1:m<=s.size) (u3 u4 u5 u6 u7 u8 u9 Bd Bf Bb Bc Ba Be:Value) (w:World) (hF:Shx c Ct Cp s w)
  (next:∀ (u9 Bd:Value) (w:World),Shx c Ct Cp s w->(Goes Tryz.prog false (RelS Ct Cp) (DS c Ct Cp)) Stop n₀ (atSend76 Ct Cp c (.string (s.extract 0 m.toNat)) (.int .i64 m) u3 u4 u5 u6 u7 u9 Bd Bb Bc Ba Be [4]) w):(Goes Tryz.prog false (RelS Ct Cp) (DS c Ct Cp)) Stop (n₀+5) (mid76 Ct Cp m u3 u4 u5 u6 u7 u8 u9 Bd Bf Bb Bc Ba Be) w:=by
 unfold mid76
 refine Goes.step rfl fun w₁ h₁=>?_
 rw [stepG_region_draw]
 refine ⟨dsOf ⟨rfl,rfl,rfl,rfl,fun _ _=>rfl⟩ (by simp),?_⟩
 have ho:=orders76 (w₁.tape w₁.drawn (Question.order b76.fn 2))
 generalize Region.schedule (Tryz.prog.follows .mixedOrders) ops76 (w₁.tape w₁.drawn (Question.order b76.fn 2))=od at ho ⊢
 replace hF:Shx c Ct Cp s { w₁ with drawn:=w₁.drawn+1 }:=hF.rely (RelS.trans _ _ _ h₁ ⟨rfl,rfl⟩)
 generalize ({ w₁ with drawn:=w₁.drawn+1 }:World)=w₂ at hF ⊢
 clear h₁
 simp only [atSend76,ops76,N76,L76,R76,body76,Tryz.f76,Option.getD_some] at next ⊢
 simp only [List.mem_cons,List.not_mem_nil,or_false] at ho
 rcases ho with rfl|rfl|rfl|rfl|rfl|rfl|rfl|rfl
 all_goals
  refine Goes.step rfl (fun w₁ h₁=>?_)
  replace hF:=Shx.rely hF h₁
  refine goes_oper_k rfl rfl (by decide) (fun K hK=>?_)
  have hf0:=Shx.c0 hF
  have hf1:=Shx.c1 hF
  go_simp
  refine hK _ _ ⟨dsOf (Aside.refl _ _) (fun e he=>?_),?_⟩
  ·have hm:=mem_listed he
   clear hK
   simp [go_sem, *] at hm
   try (subst hm;first|exact .inl ⟨_,_,_,rfl,rfl⟩|exact .inr (.inl ⟨_,_,rfl,rfl⟩))
  clear hK K hf0 hf1 h₁
  refine Goes.step rfl (fun w₁ h₁=>?_)
  replace hF:=Shx.rely hF h₁
  refine goes_oper_k rfl rfl (by decide) (fun K hK=>?_)
  have hf0:=Shx.c0 hF
  have hf1:=Shx.c1 hF
  go_simp
  refine hK _ _ ⟨dsOf (Aside.refl _ _) (fun e he=>?_),?_⟩
  ·have hm:=mem_listed he
   clear hK
   simp [go_sem, *] at hm
   try (subst hm;first|exact .inl ⟨_,_,_,rfl,rfl⟩|exact .inr (.inl ⟨_,_,rfl,rfl⟩))
  clear hK K hf0 hf1 h₁
  refine Goes.step rfl (fun w₁ h₁=>?_)
  replace hF:=Shx.rely hF h₁
  refine goes_oper_k rfl rfl (by decide) (fun K hK=>?_)
  have hf0:=Shx.c0 hF
  have hf1:=Shx.c1 hF
  go_simp
  refine hK _ _ ⟨dsOf (Aside.refl _ _) (fun e he=>?_),?_⟩
  ·have hm:=mem_listed he
   clear hK
   simp [go_sem, *] at hm
   try (subst hm;first|exact .inl ⟨_,_,_,rfl,rfl⟩|exact .inr (.inl ⟨_,_,rfl,rfl⟩))
  clear hK K hf0 hf1 h₁
  refine Goes.step rfl (fun w₁ h₁=>?_)
  replace hF:=Shx.rely hF h₁
  refine goes_oper_k rfl rfl (by decide) (fun K hK=>?_)
  have hf0:=Shx.c0 hF
  have hf1:=Shx.c1 hF
  go_simp
  refine hK _ _ ⟨dsOf (Aside.refl _ _) (fun e he=>?_),?_⟩
  ·have hm:=mem_listed he
   clear hK
   simp [go_sem, *] at hm
   try (subst hm;first|exact .inl ⟨_,_,_,rfl,rfl⟩|exact .inr (.inl ⟨_,_,rfl,rfl⟩))
  clear hK K hf0 hf1 h₁
  exact next _ _ _ hF
set_option maxRecDepth 100000 in
theorem seg76_c (Stop:Goroutine->World->Prop) (n₀:Nat) (hne:Ct ≠ Cp) (m:Int) (hm0:0<=m) (hm1:m<=s.size) (v u3 u4 u5 u6 u7 u9 Bd Bb Bc Ba Be:Value) (w:World) (hF:Shx c Ct Cp s w)
  (next:∀ (u2 u3 u4 u5 u6 u7 u8 u9 Bd Bf Bb Bc Ba Be:Value) (w:World),Shx c Ct Cp (s.extract m.toNat s.size) w->(Goes Tryz.prog false (RelS Ct Cp) (DS c Ct Cp)) Stop n₀ (head76 Ct Cp u2 u3 u4 u5 u6 u7 u8 u9 Bd Bf Bb Bc Ba Be) w):(Goes Tryz.prog false (RelS Ct Cp) (DS c Ct Cp)) Stop (n₀+9) (atSend76 Ct Cp c v (.int .i64 m) u3 u4 u5 u6 u7 u9 Bd Bb Bc Ba Be []) w:=by
 simp only [atSend76,ops76,N76,head76,L76,R76,body76,Tryz.f76,Option.getD_some] at next ⊢
 a_ctl hF Shx.rely (dsCtl _)
 a_ctl hF Shx.rely (dsCtl _)
 refine Goes.step rfl (fun w₁ h₁=>?_)
 replace hF:=Shx.rely hF h₁
 refine goes_oper_k rfl rfl (by decide) (fun K hK=>?_)
 have hf0:=Shx.c0 hF
 have hf1:=Shx.c1 hF
 go_simp
 refine hK _ _ ⟨dsOf (Aside.refl _ _) (fun e he=>?_),?_⟩
 ·have hm:=mem_listed he
  clear hK
  simp [go_sem, *] at hm
  try (subst hm;first|exact .inl ⟨_,_,_,rfl,rfl⟩|exact .inr (.inl ⟨_,_,rfl,rfl⟩))
 clear hK K hf0 hf1 h₁
 refine Goes.step rfl (fun w₁ h₁=>?_)
 replace hF:=Shx.rely hF h₁
 refine goes_oper_k rfl rfl (by decide) (fun K hK=>?_)
 have hf0:=Shx.c0 hF
 have hf1:=Shx.c1 hF
 go_simp
 refine hK _ _ ⟨dsOf (Aside.refl _ _) (fun e he=>?_),?_⟩
 ·have hm:=mem_listed he
  clear hK
  simp [go_sem, *] at hm
  try (subst hm;first|exact .inl ⟨_,_,_,rfl,rfl⟩|exact .inr (.inl ⟨_,_,rfl,rfl⟩))
 clear hK K hf0 hf1 h₁
 refine Goes.step rfl (fun w₁ h₁=>?_)
 replace hF:=Shx.rely hF h₁
 refine goes_oper_k rfl rfl (by decide) (fun K hK=>?_)
 have hf0:=Shx.c0 hF
 have hf1:=Shx.c1 hF
 go_simp
 refine hK _ _ ⟨dsOf (Aside.refl _ _) (fun e he=>?_),?_⟩
 ·have hm:=mem_listed he
  clear hK
  simp [go_sem, *] at hm
  try (subst hm;first|exact .inl ⟨_,_,_,rfl,rfl⟩|exact .inr (.inl ⟨_,_,rfl,rfl⟩))
 clear hK K hf0 hf1 h₁
 refine Goes.step rfl (fun w₁ h₁=>?_)
 replace hF:=Shx.rely hF h₁
 refine goes_oper_k rfl rfl (by decide) (fun K hK=>?_)
 have hf0:=Shx.c0 hF
 have hf1:=Shx.c1 hF
 have hf2:=Shx.fr hF
 go_simp
 refine hK _ _ ⟨dsOf (asideSet Ct _ _) (fun e he=>?_),?_⟩
 ·have hm:=mem_listed he
  clear hK
  simp [go_sem, *] at hm
  subst hm;exact .inl ⟨_,_,_,rfl,rfl⟩
 replace hF:=Shx.set hne hF (s.extract m.toNat s.size)
 clear hK K hf0 hf1 hf2 h₁
 a_ctl hF Shx.rely (dsCtl _)
 a_ctl hF Shx.rely (dsCtl _)
 a_ctl hF Shx.rely (dsCtl _)
 exact next _ _ _ _ _ _ _ _ _ _ _ _ _ _ _ hF
noncomputable def atClose76 (c:Nat) (u2 u3 u4 u5 u6 u7 u8 u9 Bd Bf Bb Bc Ba:Value) (rest:List Nat):Goroutine :=
 G (b76.at ⟨#[.pointer (some ⟨Ct,0,none⟩),.pointer (some ⟨Cp,0,none⟩),u2,u3,u4,u5,u6,u7,u8,u9,Bd,Bf,Bb,Bc,Ba,.chan (some c)],[]⟩ [.inRegion ops4_76 rest]) [bot76]
set_option maxRecDepth 100000 in
theorem seg76_d (Stop:Goroutine->World->Prop) (n₀:Nat) (u2 u3 u4 u5 u6 u7 u8 u9 Bd Bf Bb Bc Ba Be:Value) (w:World) (hF:Shx c Ct Cp s w) (hs:s.toList.isEmpty=true)
  (next:∀ (u2 u3 u4 u5 u6 u7 u8 u9 Bd Bf Bb Bc Ba:Value) (w:World),Shx c Ct Cp s w->(Goes Tryz.prog false (RelS Ct Cp) (DS c Ct Cp)) Stop n₀ (atClose76 Ct Cp c u2 u3 u4 u5 u6 u7 u8 u9 Bd Bf Bb Bc Ba [1]) w):(Goes Tryz.prog false (RelS Ct Cp) (DS c Ct Cp)) Stop (n₀+10) (head76 Ct Cp u2 u3 u4 u5 u6 u7 u8 u9 Bd Bf Bb Bc Ba Be) w:=by
 simp only [atClose76,ops4_76,head76,L76,R76,body76,Tryz.f76,Option.getD_some] at next ⊢
 repeat (first
  | (
    a_ctl hF Shx.rely (dsCtl _))
  | (
    refine Goes.step rfl (fun w₁ h₁=>?_)
    replace hF:=Shx.rely hF h₁
    refine goes_oper_k rfl rfl (by decide) (fun K hK=>?_)
    have hf0:=Shx.c0 hF
    have hf1:=Shx.c1 hF
    go_simp
    refine hK _ _ ⟨dsOf (Aside.refl _ _) (fun e he=>?_),?_⟩
    ·have hm:=mem_listed he
     clear hK
     simp [go_sem, *] at hm
     try (subst hm;first|exact .inl ⟨_,_,_,rfl,rfl⟩|exact .inr (.inl ⟨_,_,rfl,rfl⟩))
    clear hK K hf0 hf1 h₁))
 a_cond false hF Shx.rely (dsCtl _)
 a_exit hF Shx.rely (dsCtl _)
 repeat (first
  | (
    a_ctl hF Shx.rely (dsCtl _))
  | (
    refine Goes.step rfl (fun w₁ h₁=>?_)
    replace hF:=Shx.rely hF h₁
    refine goes_oper_k rfl rfl (by decide) (fun K hK=>?_)
    have hf0:=Shx.c0 hF
    have hf1:=Shx.c1 hF
    go_simp
    refine hK _ _ ⟨dsOf (Aside.refl _ _) (fun e he=>?_),?_⟩
    ·have hm:=mem_listed he
     clear hK
     simp [go_sem, *] at hm
     try (subst hm;first|exact .inl ⟨_,_,_,rfl,rfl⟩|exact .inr (.inl ⟨_,_,rfl,rfl⟩))
    clear hK K hf0 hf1 h₁))
 exact next _ _ _ _ _ _ _ _ _ _ _ _ _ _ hF
end
end Go.Proofs.YtgnbibinclepcaaGreatDoor
set_option linter.unusedVariables false
set_option linter.unusedSimpArgs false
namespace Go.Proofs.YtgnbibinclepcaaGreatDoor
open Go.Conc Go.Proofs.YtgnbibinclepcaaGreatDoor.Lf
def mN (s:ByteArray):Nat:=if s.size<200 then s.size else 200
theorem mN_int (s:ByteArray):(if (s.size:Int)<200 then (s.size:Int) else 200)=(mN s:Int):=by
 unfold mN
 by_cases h:s.size<200
 ·rw [if_pos h,if_pos (by omega)]
 ·rw [if_neg h,if_neg (by omega)];rfl
theorem mN_le (s:ByteArray):mN s<=s.size:=by unfold mN;split <;> omega
def cutN:Nat->ByteArray->List ByteArray
 | 0,_=>[]
 | n+1,s=>if s.toList.isEmpty then [] else s.extract 0 (mN s)::cutN n (s.extract (mN s) s.size)
def cutT (s:ByteArray):List ByteArray:=cutN (s.size+1) s
theorem empty_size {s:ByteArray} (h:s.toList.isEmpty=false):0<s.size:=by
 rcases Nat.eq_zero_or_pos s.size with h0|h0
 ·exfalso
  have:s=⟨#[]⟩:=by
   obtain ⟨d⟩:=s
   have:d.size=0:=h0
   rw [Array.eq_empty_of_size_eq_zero this]
  subst this
  rw [show (⟨#[]⟩:ByteArray).toList=[] by unfold ByteArray.toList ByteArray.toList.loop;rfl] at h
  cases h
 ·exact h0
theorem mN_pos {s:ByteArray} (h:s.toList.isEmpty=false):0<mN s:=by
 have:=empty_size h
 unfold mN;split <;> omega
section
variable (c Ct Cp : Nat) (s : ByteArray)
theorem atSend76_stop (vs:List Value) (v u2 u3 u4 u5 u6 u7 u9 Bd Bb Bc Ba Be:Value) (w:World)
  (next:∀ w₂,RelS Ct Cp w w₂->SendsS Tryz.prog c Ct Cp vs (atSend76 Ct Cp c v u2 u3 u4 u5 u6 u7 u9 Bd Bb Bc Ba Be []) w₂) :
  AtSendS Tryz.prog c Ct Cp v (SendsS Tryz.prog c Ct Cp vs) (atSend76 Ct Cp c v u2 u3 u4 u5 u6 u7 u9 Bd Bb Bc Ba Be [4]) w:=by
 refine ⟨rfl,atSend76 Ct Cp c v u2 u3 u4 u5 u6 u7 u9 Bd Bb Bc Ba Be [4],.tuple #[],#[],?_,quiet_nil,by simp,fun w₂ h₂=>?_⟩
 ·simp only [atSend76,ops76,L76,body76,Tryz.f76,Option.getD_some]
  rw [stepG_comm (cases:=#[scase c v (.tuple #[])]) (blocking:=true) (shape:=.send) (w':=w) rfl rfl (by decide) (by simp [execOp,scase,Act.eval])]
  simp [listed,execOp,seen]
 ·have e:Conc.served (atSend76 Ct Cp c v u2 u3 u4 u5 u6 u7 u9 Bd Bb Bc Ba Be [4]) undef=atSend76 Ct Cp c v u2 u3 u4 u5 u6 u7 u9 Bd Bb Bc Ba Be []:=by
   simp only [atSend76,ops76,L76,body76,Tryz.f76,Option.getD_some,served_G]
   rfl
  rw [e];exact next _ h₂
theorem quits76 (u2 u3 u4 u5 u6 u7 u8 u9 Bd Bf Bb Bc Ba:Value):QuitsIn Tryz.prog 4 (atClose76 Ct Cp c u2 u3 u4 u5 u6 u7 u8 u9 Bd Bf Bb Bc Ba []):=by
 simp only [atClose76]
 refine .inr ⟨rfl,_,fun w=>stepG_region_end,?_⟩
 refine .inr ⟨rfl,_,fun w=>stepG_end,?_⟩
 refine .inr ⟨rfl,G bot76 [],fun w=>?_,?_⟩
 ·simp [G,stepG,unwind,doReturn,results,Frame.at,b76,bot76,Tryz.func76,Tryz.f76,seen,GStep.after,goexitEntry]
 refine .inr ⟨rfl,{ G bot76 [] with status:=.finished },fun w=>?_,rfl⟩
 simp [G,stepG,unwind,bot76,goexitEntry,Frame.catches]
 rfl
theorem atClose76_stop (u2 u3 u4 u5 u6 u7 u8 u9 Bd Bf Bb Bc Ba:Value) (w:World):AtCloseS Tryz.prog c Ct Cp (atClose76 Ct Cp c u2 u3 u4 u5 u6 u7 u8 u9 Bd Bf Bb Bc Ba [1]) w:=by
 refine ⟨rfl,?_,atClose76 Ct Cp c u2 u3 u4 u5 u6 u7 u8 u9 Bd Bf Bb Bc Ba [],#[⟨.obj c,false,true⟩],4,fun s r tm hc=>?_,?_,?_,(quits76 c Ct Cp ..).elim (fun h=>.inl ⟨h,rfl⟩) (fun h=>QuitsD.of_quitsIn (.inr h))⟩
 ·simp [mayWake,atClose76,ops4_76,R76,body76,Tryz.f76,G,Frame.at]
 ·simp only [atClose76,ops4_76,R76,body76,Tryz.f76,Option.getD_some]
  have hr:=run_close_open (P:=Tryz.prog) #[113] 0 hc
  have he:=events_close_open (P:=Tryz.prog) (es:=#[]) #[113] 0 hc
  rw [stepG_value (v:=.tuple #[]) (w':=w.shut c s r tm) rfl rfl (by decide) (by simp [go_sem,hr,World.shut])]
  have hl:∀ a o,(execOp a.eval o).events Tryz.prog w #[]=#[⟨.obj c,false,true⟩,⟨.obj c,true,true⟩]->listed Tryz.prog b76.fn a o w=#[⟨.obj c,false,true⟩,⟨.obj c,true,true⟩]:=by
   intro a o h
   unfold listed
   rw [h]
   exact seen_eq (by simp [b76,Tryz.func76,Tryz.f76]) (by simp)
  rw [hl _ _ (by simp [go_sem,he])]
  rfl
 ·exact SEv.quiet (c:=c) (Ct:=Ct) (Cp:=Cp) (fun e he=>by simp at he;subst he;exact .inr (.inr ⟨_,rfl⟩))
 ·intro e he
  simp at he
  subst he
  exact SEv.evS (.inr (.inr ⟨_,rfl⟩))
theorem sends76_from (hne:Ct ≠ Cp):∀ (k:Nat) (s:ByteArray),s.size<k →
  ∃ n',∀ (u2 u3 u4 u5 u6 u7 u8 u9 Bd Bf Bb Bc Ba Be:Value) (w:World),Shx c Ct Cp s w->(Goes Tryz.prog false (RelS Ct Cp) (DS c Ct Cp)) (StopS Tryz.prog c Ct Cp ((cutN k s).map .string)) n' (head76 Ct Cp u2 u3 u4 u5 u6 u7 u8 u9 Bd Bf Bb Bc Ba Be) w:=by
 intro k
 induction k with
 | zero=>intro s h;omega
 | succ k ih =>
  intro s hk
  cases hs:s.toList.isEmpty with
  | true =>
   simp only [cutN,hs,if_true,List.map_nil]
   exact ⟨0+10,fun u2 u3 u4 u5 u6 u7 u8 u9 Bd Bf Bb Bc Ba Be w hF=>seg76_d c Ct Cp s _ 0 u2 u3 u4 u5 u6 u7 u8 u9 Bd Bf Bb Bc Ba Be w hF hs fun u2 u3 u4 u5 u6 u7 u8 u9 Bd Bf Bb Bc Ba w _=>Goes.stop fun w₁ _=>atClose76_stop c Ct Cp u2 u3 u4 u5 u6 u7 u8 u9 Bd Bf Bb Bc Ba w₁⟩
  | false =>
   simp only [cutN,hs,Bool.false_eq_true,if_false,List.map_cons]
   have hp:=mN_pos hs
   have hle:=mN_le s
   obtain ⟨n₁,h₁⟩:=ih (s.extract (mN s) s.size) (by simp [ByteArray.size_extract];omega)
   refine ⟨0+5+17,fun u2 u3 u4 u5 u6 u7 u8 u9 Bd Bf Bb Bc Ba Be w hF=>seg76_a c Ct Cp s _ _ u2 u3 u4 u5 u6 u7 u8 u9 Bd Bf Bb Bc Ba Be w hF hs fun u3 u4 u5 u6 u7 u8 u9 Bd Bf Bb Bc Ba Be w hF=>?_⟩
   rw [mN_int]
   refine seg76_b c Ct Cp s _ 0 (mN s) (by omega) (by omega) u3 u4 u5 u6 u7 u8 u9 Bd Bf Bb Bc Ba Be w hF fun u9 Bd w hF=>Goes.stop fun w₁ h₁'=>?_
   refine atSend76_stop c Ct Cp _ _ _ u3 u4 u5 u6 u7 u9 Bd Bb Bc Ba Be w₁ fun w₂ h₂=>?_
   refine (sendsS_iff ..).2 ⟨n₁+9,seg76_c c Ct Cp s _ n₁ hne (mN s) (by omega) (by omega) _ u3 u4 u5 u6 u7 u9 Bd Bb Bc Ba Be w₂ ((hF.rely h₁').rely h₂) fun u2 u3 u4 u5 u6 u7 u8 u9 Bd Bf Bb Bc Ba Be w hF=>?_⟩
   exact h₁ _ _ _ _ _ _ _ _ _ _ _ _ _ _ _ hF
def call76:Deferred:={ target:=.fn (.func 76) #[.pointer (some ⟨Ct,0,none⟩),.pointer (some ⟨Cp,0,none⟩)],args:=#[] }
theorem born76 (w:World):stepG Tryz.prog false (born Tryz.prog (call76 Ct Cp)) w =
  .go (G (b76.at ⟨#[.pointer (some ⟨Ct,0,none⟩),.pointer (some ⟨Cp,0,none⟩),undef,undef,undef,undef,undef,undef,undef,undef,undef,undef,undef,undef,undef,undef],[]⟩ [.code body76]) [bot76]) w #[]:=by
 simp [born,call76,stepG,unwind,callDeferred,invoke,callFunc,Tryz.func76,Tryz.f76,seen,GStep.after,G,Frame.enter,Frame.at,b76,bot76,body76]
set_option maxRecDepth 100000 in
theorem seg76_entry (Stop:Goroutine->World->Prop) (n₀:Nat) (w:World) (hF:Shx c Ct Cp s w)
  (next:∀ (u2 u3 u4 u5 u6 u7 u8 u9 Bd Bf Bb Bc Ba Be:Value) (w:World),Shx c Ct Cp s w->(Goes Tryz.prog false (RelS Ct Cp) (DS c Ct Cp)) Stop n₀ (head76 Ct Cp u2 u3 u4 u5 u6 u7 u8 u9 Bd Bf Bb Bc Ba Be) w) :
  (Goes Tryz.prog false (RelS Ct Cp) (DS c Ct Cp)) Stop (n₀+3) (G (b76.at ⟨#[.pointer (some ⟨Ct,0,none⟩),.pointer (some ⟨Cp,0,none⟩),undef,undef,undef,undef,undef,undef,undef,undef,undef,undef,undef,undef,undef,undef],[]⟩ [.code body76]) [bot76]) w:=by
 simp only [head76,L76,R76,body76,Tryz.f76,Option.getD_some] at next ⊢
 a_ctl hF Shx.rely (dsCtl _)
 a_ctl hF Shx.rely (dsCtl _)
 a_ctl hF Shx.rely (dsCtl _)
 exact next _ _ _ _ _ _ _ _ _ _ _ _ _ _ _ hF
theorem sends76 (hne:Ct ≠ Cp) (w:World) (hF:Shx c Ct Cp s w):SendsS Tryz.prog c Ct Cp ((cutT s).map .string) (born Tryz.prog (call76 Ct Cp)) w:=by
 obtain ⟨n₁,h₁⟩:=sends76_from c Ct Cp hne (s.size+1) s (by omega)
 refine (sendsS_iff ..).2 ⟨n₁+3+1,Goes.step rfl fun w₁ hw=>?_⟩
 rw [born76]
 exact ⟨dsCtl _,seg76_entry c Ct Cp s _ n₁ w₁ (hF.rely hw) fun u2 u3 u4 u5 u6 u7 u8 u9 Bd Bf Bb Bc Ba Be w hF=>h₁ u2 u3 u4 u5 u6 u7 u8 u9 Bd Bf Bb Bc Ba Be w hF⟩
end
end Go.Proofs.YtgnbibinclepcaaGreatDoor
