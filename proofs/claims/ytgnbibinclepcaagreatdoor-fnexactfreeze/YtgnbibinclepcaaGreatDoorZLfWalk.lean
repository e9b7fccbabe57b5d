
import Derived.Test.YtgnbibinclepcaaGreatDoorZP5
import Derived.Conc.Own5
import Derived.Conc.Own4
import Derived.Conc.Walk
set_option linter.unusedVariables false
set_option linter.unusedSimpArgs false
namespace Go.Proofs.YtgnbibinclepcaaGreatDoor.Lf
variable {P : Program}
open Go.Conc
theorem Tree.re {S:Goroutine->World->Prop} (hB:Blind S) {g:Goroutine} {w:World} (h:Tree P S g w) (T:Nat->Question->Nat) (d:Nat):Tree P S g (w.re T d):=by
 cases h with
 | stop h=>exact .stop (hB _ _ _ _ h)
 | step g' w' hr ho ht=>exact .step g' w' hr (fun T d=>ho T d) ht
theorem Tree.fits {S:Goroutine->World->Prop} {g:Goroutine} {w:World} (h:Tree P S g w) (hf:Fit g):Tree P (fun g w=>S g w/\Fit g/\Run g ∨ S g w/\Fit g) g w:=by
 induction h with
 | stop h=>exact .stop (.inr ⟨h,hf⟩)
 | step g' w' hr ho _ ih=>exact .step g' w' hr ho fun T d=>ih T d (ho T d).fit
section
variable {S : Goroutine -> World -> Prop} {b : Frame} {a : Act} {k : List Item} {cs : List Frame} {w : World}
theorem tree_go (hcf:CF P) {g:Goroutine} (hr:Run g) (hf:Fit g) (h:∀ T d,∃ g' w' es,stepG P true g (w.re T d)=.go g' w' es/\Run g' /\ (Fit g' -> Tree P S g' w')):Tree P S g w:=by
 refine Tree.go hr fun T d=>?_
 obtain ⟨g',w',es,h1,h2,h3⟩:=h T d
 have hS:=stepG_sound hcf hr.2 hf (w.re T d)
 have hk:=hS.kind
 have hl:=hS.loc
 rw [h1] at hk hl
 obtain ⟨k1,k2,k3,k4⟩:=hk
 exact ⟨g',w',es,h1,h2,k4 h2.1,k2 h2,(hl h2).2.1,h3 (k4 h2.1)⟩
theorem tree_ctl (hcf:CF P) (hB:Blind S) {g g' : Goroutine} (hr:Run g) (hf:Fit g) (h:∀ w,stepG P true g w=.go g' w) (hr' : Run g') (ht:Fit g' -> Tree P S g' w):Tree P S g w :=
 tree_go hcf hr hf fun T d=>⟨g',_,_,h _,hr',fun hf'=>(ht hf').re hB T d⟩
theorem run_G (fr:Frame) (cs:List Frame):Run (G fr cs):=⟨rfl,rfl⟩
theorem stepG_leaves {fr c:Frame} {v:Value} (h:fr.leaving P w (.returned v)):∃ es,stepG P true (G fr (c::cs)) w=.go (G (c.finish v) cs) w es:=by
 obtain ⟨h1,h2,h3,fn,h4,h5⟩:=h
 refine ⟨seen P fr.fn ((results fn fr.tmps).events P w #[]),?_⟩
 simp [G,stepG,unwind,doReturn,h1,h2,h3,h4,h5,GStep.after]
theorem tree_leave (hcf:CF P) (hB:Blind S) {fr c:Frame} {v:Value} (hf:Fit (G fr (c::cs))) (h:∀ T d,fr.leaving P (w.re T d) (.returned v)) (ht:Fit (G (c.finish v) cs)->Tree P S (G (c.finish v) cs) w):Tree P S (G fr (c::cs)) w :=
 tree_go hcf (run_G _ _) hf fun T d=>by
  obtain ⟨es,he⟩:=stepG_leaves (cs:=cs) (c:=c) (h T d)
  exact ⟨_,_,es,he,run_G _ _,fun hf'=>(ht hf').re hB T d⟩
theorem tree_call (hcf:CF P) (hB:Blind S) {ops:Array Oper} {i:Nat} {rest:List Nat} {o:Oper} {f:FuncId} {args:Array Value} {R:Ending->World->Prop} (hf:Fit (G (b.at a (.inRegion ops (i::rest)::k)) cs)) (ho:ops[i]?=some o) (hw:Region.wanted o (yielded ops a.tmps)=true)
  (hk:b.kind ≠ .early) (hr:∀ T d,(execOp a.eval o).run P (w.re T d)=.ok (.enter f args) (w.re T d)) (hC:∀ T,Calls P f args (w.re T 0) R) (hR:∀ e w,R e w->∃ v,e=.returned v)
  (ht:∀ v w',R (.returned v) w' -> Fit (G (b.at (a.put o.dst v) (.inRegion ops rest::k)) cs)->Tree P S (G (b.at (a.put o.dst v) (.inRegion ops rest::k)) cs) w') :
  Tree P S (G (b.at a (.inRegion ops (i::rest)::k)) cs) w:=by
 refine tree_go hcf (run_G _ _) hf fun T d=>⟨_,_,_,stepG_enter ho hw hk (hr T d),run_G _ _,fun hf'=>?_⟩
 refine ((tree_calls (w:=w.re T d) hcf (R:=R) (cs:=b.at a (.inRegion ops (i::rest)::k)::cs) hf'.2 (fun w h=>?_) fun T'=>hC T').fits hf').bind fun g w' hs=>?_
 ·obtain ⟨v,hv⟩:=hR _ _ h;cases hv
 ·have hs' : AtLeave P f (b.at a (.inRegion ops (i::rest)::k)::cs) R g w' /\ Fit g:=hs.elim (fun x=>⟨x.1,x.2.1⟩) id
  obtain ⟨⟨e,fr,T',d',rfl,h1,h2,h3⟩,hfit⟩:=hs'
  obtain ⟨v,rfl⟩:=hR _ _ h1
  refine tree_leave hcf hB hfit h3 fun hf2=>?_
  rw [Frame.finish_at,ho] at hf2 ⊢
  exact ((ht v _ h1 hf2).re hB w'.tape w'.drawn)
theorem tree_oper_k (hcf:CF P) {ops:Array Oper} {i:Nat} {rest:List Nat} {o:Oper} (hf:Fit (G (b.at a (.inRegion ops (i::rest)::k)) cs)) (ho:ops[i]?=some o) (hw:Region.wanted o (yielded ops a.tmps)=true)
  (hk:b.kind ≠ .early) (h:∀ T d (K:Act->World->Prop),(∀ a' w',(Fit (G (b.at a' (.inRegion ops rest::k)) cs)->Tree P S (G (b.at a' (.inRegion ops rest::k)) cs) w')->K a' w')->uponK o a K ((execOp a.eval o).run P (w.re T d))) :
  Tree P S (G (b.at a (.inRegion ops (i::rest)::k)) cs) w:=by
 refine tree_go hcf (run_G _ _) hf fun T d=>?_
 have:=h T d (fun a' w'=>Fit (G (b.at a' (.inRegion ops rest::k)) cs)->Tree P S (G (b.at a' (.inRegion ops rest::k)) cs) w') (fun _ _ x=>x)
 generalize hr:(execOp a.eval o).run P (w.re T d)=r at this
 match r,this with
 | .ok (.value v) w',h=>exact ⟨_,_,_,stepG_value ho hw hk hr,run_G _ _,h⟩
 | .ok .skip w',h=>exact ⟨_,_,_,stepG_none ho hw hk hr,run_G _ _,h⟩
theorem tree_call_k (hcf:CF P) (hB:Blind S) {ops:Array Oper} {i:Nat} {rest:List Nat} {o:Oper} {f:FuncId} {args:Array Value} (R:World->Ending->World->Prop) (hf:Fit (G (b.at a (.inRegion ops (i::rest)::k)) cs)) (ho:ops[i]?=some o) (hw:Region.wanted o (yielded ops a.tmps)=true)
  (hk:b.kind ≠ .early) (hr:∀ T d,(execOp a.eval o).run P (w.re T d)=.ok (.enter f args) (w.re T d)) (hC:∀ T,Calls P f args (w.re T 0) (R (w.re T 0))) (hR:∀ w0 e w,R w0 e w->∃ v,e=.returned v)
  (ht:∀ T v w',R (w.re T 0) (.returned v) w' -> Fit (G (b.at (a.put o.dst v) (.inRegion ops rest::k)) cs)->Tree P S (G (b.at (a.put o.dst v) (.inRegion ops rest::k)) cs) w') :
  Tree P S (G (b.at a (.inRegion ops (i::rest)::k)) cs) w :=
 tree_call hcf hB (R:=fun e w'=>∃ T,R (w.re T 0) e w') hf ho hw hk hr (fun T=>(hC T).mono fun e w' h=>⟨T,h⟩) (fun e w' ⟨T,h⟩=>hR _ _ _ h) (fun v w' ⟨T,h⟩=>ht T v w' h)
end
end Go.Proofs.YtgnbibinclepcaaGreatDoor.Lf
