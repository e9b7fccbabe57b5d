
import Derived.Test.YtgnbibinclepcaaGreatDoorZP1
import Derived.Lone
import Derived.Conc.TokenTrace
import Derived.Conc.CrowdComm
import Derived.Conc.CompanyDraw
set_option linter.unusedVariables false
set_option linter.unusedSimpArgs false
namespace Go.Proofs.YtgnbibinclepcaaGreatDoor.Lf
variable {P : Program} {α β : Type} {dy : Option Dying} {k0 : CallKind}
open Go.Conc
theorem exitTo_sub {id:Nat}:∀ {k k' : List Item},exitTo id k=some k' -> ∀ y ∈ k',y ∈ k:=by
 intro k
 induction k with
 | nil=>intro k' h;cases h
 | cons x k ih =>
  intro k' h y hy
  unfold exitTo at h
  split at h
  ·rename_i e
   cases e
   split at h
   ·cases h;simp [hy]
   ·exact List.mem_cons_of_mem _ (ih h y hy)
  ·rename_i e
   cases e
   exact List.mem_cons_of_mem _ (ih h y hy)
  ·rename_i e;cases e
theorem gotoIn_fit {l:Nat}:∀ {k k' : List Item},(∀ y ∈ k,FitItem y)->gotoIn l k=some k' -> ∀ y ∈ k',FitItem y:=by
 intro k
 induction k with
 | nil=>intro k' _ h;cases h
 | cons x k ih =>
  intro k' hk h
  have hk' : ∀ y ∈ k,FitItem y:=fun y hy=>hk y (by simp [hy])
  unfold gotoIn at h
  split at h
  ·rename_i e
   cases e
   split at h
   ·cases h
    intro y hy
    simp only [List.mem_cons] at hy
    rcases hy with rfl|rfl|hy
    ·trivial
    ·trivial
    ·exact hk' y hy
   ·exact ih hk' h
  ·rename_i e
   cases e
   exact ih hk' h
  ·rename_i e;cases e
theorem exec_sound (hcf:CF P) {fr:Frame} {cs:List Frame} {w:World} (hk:dy.isSome=true->bkOf fr cs=k0/\k0=.report) (hf:FitFrame fr) (hc:∀ f ∈ cs,FitFrame f) :
  Sound P dy k0 (fun w=>stepG.exec P true true fr cs dy w) w:=by
 have hk1:dy.isSome=true->bkOf fr cs=k0:=fun h=>(hk h).1
 have hto:∀ (todo:List Item) (w:World),(∀ y ∈ todo,FitItem y)->Sound P dy k0 (fun w=>.go { frame:={ fr with todo },callers:=cs,status:=.running,dying:=dy } w) w :=
  fun todo w h=>.to (fun hd=>(bk_same (a:={ fr with todo }) (b:=fr) cs rfl).trans (hk1 hd)) h hc (.inl rfl)
 have hend:∀ {f:World->GStep} {w:World} (o:Outcome),(f w=.ended o w)->Sound P dy k0 f w:=fun o h=>.still (by rw [h];exact fun h=>h) (by rw [h];trivial)
 -- out of the frame
 have hleave:∀ (jump:Option Code) (b:Bool) (f:World->GStep) (w:World),(∀ w,f w=(match fr.roundOf with
   | none=>if b=true then GStep.go { frame:={ fr with mode:=.returning },callers:=cs,status:=.running,dying:=dy } w else .ended (.stuck "exit, goto: no such block or label" (fr.pos P)) w
   | some l =>
    let (r,es):=(Instr.endRound l jump).runT P w #[]
    GStep.after (seen P fr.fn es) <| match r with
    | .ok v w=>doReturn P true fr cs dy v w
    | .halt _ w=>.ended (.stuck "range over a function: no such loop" (fr.pos P)) w))->Sound P dy k0 f w:=by
  intro jump b f w h
  cases hr:fr.roundOf with
  | none =>
   cases b with
   | true =>
    have e:∀ w,f w=.go { frame:={ fr with mode:=.returning },callers:=cs,status:=.running,dying:=dy } w:=fun w=>(h w).trans (by rw [hr];rfl)
    exact .of_eq (.to (fun hd=>(bk_same (a:={ fr with mode:=.returning }) (b:=fr) cs rfl).trans (hk1 hd)) hf hc (.inl rfl)) (e w) (fun T j=>e _)
   | false =>
    exact hend (.stuck "exit, goto: no such block or label" (fr.pos P)) ((h w).trans (by rw [hr];rfl))
  | some l =>
   simp only [hr] at h
   refine Sound.run1 (t_Instr_endRound l jump) ?_ ?_
   ·intro v es _ hq hm
    exact ⟨_,fun w' w1 e=>(by rw [h,e]),fun w1=>Sound.after (doReturn_sound hk hf hc) (quiet_seen hq hm)⟩
   ·intro hh es w' w1 e
    rw [h,e]
    exact ⟨fun h=>h,trivial⟩
 cases ht:fr.todo with
 | nil=>exact hleave none true _ w (fun w=>by unfold stepG.exec;rw [ht];rfl)
 | cons x k =>
  have hkf:∀ y ∈ k,FitItem y:=fit_tail hf ht
  have hxf:FitItem x:=hf x (by rw [ht];exact List.mem_cons_self)
  have two:∀ a b:Item,FitItem a->FitItem b->∀ y ∈ a::b::k,FitItem y:=by
   intro a b ha hb y hy
   rcases List.mem_cons.1 hy with rfl|hy
   ·exact ha
   ·rcases List.mem_cons.1 hy with rfl|hy
    ·exact hb
    ·exact hkf y hy
  have one:∀ a:Item,FitItem a->∀ y ∈ a::k,FitItem y:=by
   intro a ha y hy
   rcases List.mem_cons.1 hy with rfl|hy
   ·exact ha
   ·exact hkf y hy
  cases x with
  | inBlock id=>exact .of_eq (hto k w hkf) (by unfold stepG.exec;rw [ht]) (fun T j=>by unfold stepG.exec;rw [ht])
  | inLoop b=>exact .of_eq (hto (.code b::.inLoop b::k) w (two _ _ trivial trivial)) (by unfold stepG.exec;rw [ht]) (fun T j=>by unfold stepG.exec;rw [ht])
  | inScope b=>exact .of_eq (hto k w hkf) (by unfold stepG.exec;rw [ht]) (fun T j=>by unfold stepG.exec;rw [ht])
  | inRangeFunc l=>exact hend _ (by unfold stepG.exec;rw [ht])
  | endRangeFunc l =>
   refine Sound.run (t_Instr_endLoop l) ?_ ?_ ?_
   ·intro v es _ hq hm
    refine ⟨_,fun w' w1 e=>(by unfold stepG.exec;rw [ht];dsimp only;rw [e]),fun w1=>Sound.after (hto _ _ ?_) (quiet_seen hq hm)⟩
    intro y hy
    rcases List.mem_append.1 hy with hy|hy
    ·cases v with
     | none=>simp at hy
     | some c=>simp at hy;subst hy;trivial
    ·exact hkf y hy
   ·intro hh es hl hq hm
    cases hh with
    | panic v=>exact ⟨_,fun w' w1 e=>(by unfold stepG.exec;rw [ht];dsimp only;rw [e]),fun w1=>Sound.after (.to (fun hd=>(bk_same cs (kind_raise fr _)).trans (hk1 hd)) (fit_raise hf) hc (.inl rfl)) (quiet_seen (hq trivial) hm)⟩
    | goexit=>exact ⟨_,fun w' w1 e=>(by unfold stepG.exec;rw [ht];dsimp only;rw [e]),fun w1=>.stillAfter (still_ended _ _)⟩
    | unsupported u=>exact ⟨_,fun w' w1 e=>(by unfold stepG.exec;rw [ht];dsimp only;rw [e]),fun w1=>.stillAfter (still_ended _ _)⟩
    | _=>exact hl.elim
   ·intro hh es w' w1 hl e
    have key:∀ o,stepG.exec P true true fr cs dy w' = (GStep.ended o w1).after (seen P fr.fn es)->¬ (stepG.exec P true true fr cs dy w').going/\(stepG.exec P true true fr cs dy w').kind dy k0:=fun o h=>by
     rw [h];exact ⟨fun h=>h,trivial⟩
    cases hh with
    | panic v=>exact absurd trivial hl
    | _=>exact key _ (by unfold stepG.exec;rw [ht];dsimp only;rw [e])
  | beginRound =>
   have hs:Tame P okN (do fr.roundOf.elim (stuck "beginRound: no round") Instr.beginRound;pure .skip:Sem Next) 0:=by
    refine Tame.bind ?_ fun _=>trivial
    cases fr.roundOf with
    | none=>trivial
    | some l=>exact t_Instr_beginRound l
   exact .of_eq (apply_sound hs hk1 hf hc) (by unfold stepG.exec;rw [ht]) (fun T j=>by unfold stepG.exec;rw [ht])
  | call d wr re sv=>exact hxf.elim
  | extern row args =>
   have hr:row = "runtime.print$piece" := hxf
   subst hr
   exact .of_eq (apply_sound (t_piece #[] #[] args) hk1 hf hc) (by unfold stepG.exec;rw [ht];dsimp only;rw [next_piece];rfl) (fun T j=>by unfold stepG.exec;rw [ht];dsimp only;rw [next_piece];rfl)
  | inRegion ops todo =>
   cases todo with
   | nil=>exact .of_eq (hto k w hkf) (by unfold stepG.exec;rw [ht]) (fun T j=>by unfold stepG.exec;rw [ht])
   | cons i rest =>
    by_cases hw:(((ops[i]?).map (Region.wanted · (yielded ops fr.tmps))).getD false)=true
    ·have e:∀ w,stepG.exec P true true fr cs dy w=stepG.oper P true fr cs dy w:=fun w=>by
      unfold stepG.exec;rw [ht];dsimp only;exact if_pos hw
     refine .of_eq (X:=fun w=>stepG.oper P true fr cs dy w) ?_ (e w) (fun T j=>e _)
     cases ho:fr.oper? with
     | none=>exact hend _ (by unfold stepG.oper;rw [ho])
     | some o =>
      by_cases hd:∃ l c,fr.roundOf=some l/\o.op=.defer c
      ·obtain ⟨l,c,h1,h2⟩:=hd
       have hs:Tame P okN (do Instr.deferInRound l (← resolve fr.eval c o.type);pure .skip:Sem Next) 0 :=
        Tame.bind (t_resolve _ _ _) fun _=>Tame.bind (t_Instr_deferInRound _ _) fun _=>trivial
       exact .of_eq (apply_sound hs hk1 hf hc) (by unfold stepG.oper;rw [ho];dsimp only;rw [h1,h2]) (fun T j=>by unfold stepG.oper;rw [ho];dsimp only;rw [h1,h2])
      ·have e2:∀ w,stepG.oper P true fr cs dy w=stepG.apply P true fr cs dy (execOp fr.eval o) w:=fun w=>by
        unfold stepG.oper;rw [ho];dsimp only
        split
        ·rename_i h1 h2;exact absurd ⟨_,_,h1,h2⟩ hd
        ·rfl
       exact .of_eq (apply_sound (t_execOp hcf _ _) hk1 hf hc) (e2 w) (fun T j=>e2 _)
    ·have e:∀ w,stepG.exec P true true fr cs dy w=.go { frame:=fr.finish undef,callers:=cs,status:=.running,dying:=dy } w:=fun w=>by
      unfold stepG.exec;rw [ht];dsimp only;exact if_neg hw
     exact .of_eq (.to (fun hd=>(bk_same cs (kind_finish fr _)).trans (hk1 hd)) (fit_finish _ hf) hc (.inl rfl)) (e w) (fun T j=>e _)
  | code c =>
   cases c with
   | skip=>exact .of_eq (hto k w hkf) (by unfold stepG.exec;rw [ht]) (fun T j=>by unfold stepG.exec;rw [ht])
   | label l=>exact .of_eq (hto k w hkf) (by unfold stepG.exec;rw [ht]) (fun T j=>by unfold stepG.exec;rw [ht])
   | ret=>exact hleave (some .ret) true _ w (fun w=>by unfold stepG.exec;rw [ht];rfl)
   | seq a b=>exact .of_eq (hto (.code a::.code b::k) w (two _ _ trivial trivial)) (by unfold stepG.exec;rw [ht]) (fun T j=>by unfold stepG.exec;rw [ht])
   | cond c a b =>
    by_cases hb:∃ v,fr.eval c=.bool v
    ·obtain ⟨v,hb⟩:=hb
     exact .of_eq (hto (.code (if v then a else b)::k) w (one _ trivial)) (by unfold stepG.exec;rw [ht];dsimp only;rw [hb]) (fun T j=>by unfold stepG.exec;rw [ht];dsimp only;rw [hb])
    ·refine hend (.stuck "cond: bool expected" (fr.pos P)) ?_
     unfold stepG.exec;rw [ht];dsimp only
     cases hv:fr.eval c with
     | bool v=>exact absurd ⟨v,hv⟩ hb
     | _=>rfl
   | block id c=>exact .of_eq (hto (.code c::.inBlock id::k) w (two _ _ trivial trivial)) (by unfold stepG.exec;rw [ht]) (fun T j=>by unfold stepG.exec;rw [ht])
   | loop c=>exact .of_eq (hto (.code c::.inLoop c::k) w (two _ _ trivial trivial)) (by unfold stepG.exec;rw [ht]) (fun T j=>by unfold stepG.exec;rw [ht])
   | scope c=>exact .of_eq (hto (.code c::.inScope c::k) w (two _ _ trivial trivial)) (by unfold stepG.exec;rw [ht]) (fun T j=>by unfold stepG.exec;rw [ht])
   | exit id =>
    cases he:exitTo id k with
    | none=>exact hleave (some (.exit id)) false _ w (fun w=>by unfold stepG.exec;rw [ht];dsimp only;rw [he];rfl)
    | some k'=>exact .of_eq (hto k' w (fun y hy=>hkf y (exitTo_sub he y hy))) (by unfold stepG.exec;rw [ht];dsimp only;rw [he];rfl) (fun T j=>by unfold stepG.exec;rw [ht];dsimp only;rw [he];rfl)
   | goto l =>
    cases he:gotoIn l k with
    | none=>exact hleave (some (.goto l)) false _ w (fun w=>by unfold stepG.exec;rw [ht];dsimp only;rw [he];rfl)
    | some k'=>exact .of_eq (hto k' w (gotoIn_fit hkf he)) (by unfold stepG.exec;rw [ht];dsimp only;rw [he];rfl) (fun T j=>by unfold stepG.exec;rw [ht];dsimp only;rw [he];rfl)
   | refuse why=>exact hend _ (by unfold stepG.exec;rw [ht])
   | rangeFunc f params assign body =>
    refine Sound.run1 (t_Instr_enterLoop fr.fn fr.tmps params assign body fr.roundOf) ?_ ?_
    ·intro v es _ hq hm
     obtain ⟨l,mk⟩:=v
     have hs:Tame P okN (do let d ← resolve fr.eval { callee:=.value f,args:=#[.const (.func (.yield l) #[] #[])],argTypes:=#[] } 0;invoke d.target d.args:Sem Next) 0 :=
      Tame.bind (t_resolve _ _ _) fun _=>t_invoke hcf _ _
     exact ⟨fun w1=>(stepG.apply P true { fr with todo:=.inRangeFunc l::k,defers:=mk ++ fr.defers } cs dy (do let d ← resolve fr.eval { callee:=.value f,args:=#[.const (.func (.yield l) #[] #[])],argTypes:=#[] } 0;invoke d.target d.args) w1).after (seen P fr.fn es),
      fun w' w1 e=>(by unfold stepG.exec;rw [ht];dsimp only;rw [e];rfl),fun w1=>Sound.after (apply_sound (fr:={ fr with todo:=.inRangeFunc l::k,defers:=mk ++ fr.defers }) hs (fun hd=>(bk_same (a:={ fr with todo:=.inRangeFunc l::k,defers:=mk ++ fr.defers }) (b:=fr) cs rfl).trans (hk1 hd)) (one _ trivial) hc) (quiet_seen hq hm)⟩
    ·intro hh es w' w1 e
     have:stepG.exec P true true fr cs dy w' = (GStep.ended (.stuck "range over a function: no such loop" (fr.pos P)) w1).after (seen P fr.fn es):=by unfold stepG.exec;rw [ht];dsimp only;rw [e]
     rw [this]
     exact ⟨fun h=>h,trivial⟩
   | region id ops draw =>
    cases draw with
    | false=>exact .of_eq (hto (.inRegion ops (List.range ops.size)::k) w (one _ trivial)) (by unfold stepG.exec;rw [ht];rfl) (fun T j=>by unfold stepG.exec;rw [ht];rfl)
    | true =>
     have e:∀ w',stepG.exec P true true fr cs dy w' = .go { frame:={ fr with todo:=.inRegion ops (Region.schedule (P.follows .mixedOrders) ops ((Question.order fr.fn id).cut (w'.tape w'.drawn (.order fr.fn id))))::k },callers:=cs,status:=.running,dying:=dy } { w' with drawn:=w'.drawn+1 }:=fun w'=>by
      unfold stepG.exec;rw [ht];rfl
     refine .draw (hto (.inRegion ops (Region.schedule (P.follows .mixedOrders) ops ((Question.order fr.fn id).cut (w.tape w.drawn (.order fr.fn id))))::k) _ (one _ trivial)) (e w) (fun T j hj=>?_)
     refine (e _).trans ?_
     rw [show ((w.re T j).tape (w.re T j).drawn (.order fr.fn id))=w.tape w.drawn (.order fr.fn id) by rw [<- hj];rfl]
     rfl
end Go.Proofs.YtgnbibinclepcaaGreatDoor.Lf
set_option linter.unusedVariables false
set_option linter.unusedSimpArgs false
namespace Go.Proofs.YtgnbibinclepcaaGreatDoor.Lf
variable {P : Program}
open Go.Conc
def NoWait (gs:Array Goroutine):Prop:=∀ g ∈ gs,g.status ≠ .blocked
theorem partners_nil {gs:Array Goroutine} (h:NoWait gs) (r:Nat) (s:Bool):partners gs r s=[]:=by
 unfold partners
 rw [List.flatMap_eq_nil_iff]
 rintro ⟨g,i⟩ hm
 have hg:g ∈ gs:=by
  have:=Array.mem_toList_iff.1 hm
  obtain ⟨k,hk,e⟩:=Array.mem_iff_getElem.1 this
  simp only [Array.getElem_zipIdx,Prod.mk.injEq] at e
  rw [<- e.1]
  exact Array.getElem_mem _
 have:=h g hg
 dsimp only
 split
 ·rename_i e _;exact absurd e this
 ·rfl
theorem ways_plain {gs gs' : Array Goroutine} (h:NoWait gs) (h' : NoWait gs') (w:World) (c:CommCase):ways w gs c=ways w gs' c:=by
 unfold ways
 simp only [partners_nil h,partners_nil h']
theorem ways_no_partner {gs:Array Goroutine} (h:NoWait gs) (w:World) (c:CommCase) (a b:Nat):Way.partner a b ∉ ways w gs c:=by
 unfold ways
 simp only [partners_nil h]
 intro hm
 split at hm
 ·split at hm
  ·split at hm
   ·simp at hm
   ·split at hm <;> simp at hm
  ·split at hm
   ·simp at hm
   ·split at hm <;> simp at hm
  ·simp at hm
 ·simp at hm
def rest0 (sl:Option (Nat × Nat)):Rest:={ timers:=#[],alone:=none,slice:=sl }
structure Said (g:Goroutine) (gs:Array Goroutine) (rest:Rest) (r:Stepped × Array MemOp) (g' : Goroutine) (w' : World) (ops:Array MemOp):Prop where
 eq:r=(.next { world:=w',gs:=gs.setIfInBounds 0 g',rest },ops)
 ops:∀ op ∈ ops,op.g=0/\op.act.touch?=none/\(∀ m,op.act ≠ .mark m)
 own:g'.callers=g.callers/\g'.dying=g.dying/\((g'.status=.blocked/\g'.frame=g.frame) ∨ (g'.status=.running/\((∃ v,g'.frame=g.frame.finish v) ∨ ∃ c,g'.frame=g.frame.raise c)))
theorem noWait_nil:NoWait #[]:=fun _ h=>by simp at h
def readies0 (w:World) (cases:Array CommCase):List (Nat × CommCase × List Way) :=
 (cases.zipIdx.toList.map fun (c,k)=>(k,c,ways w #[] c)).filter fun (_,_,ws)=>!ws.isEmpty
def pick0 (l:List (Nat × CommCase × List Way)):Sem (Nat × CommCase × Way):=do
 let a ← choose (.select l.length)
 let (k,c,ws):=l.getD a (0,default,[])
 let b ← choose (.extern "which waiting goroutine is the partner" ws.length)
 pure (k,c,ws.getD b .closed)
theorem getD_or {α:Type} (l:List α) (n:Nat) (d:α):l.getD n d ∈ l ∨ l.getD n d=d:=by
 rw [List.getD_eq_getElem?_getD]
 cases h:l[n]? with
 | none=>exact .inr rfl
 | some x=>exact .inl (List.mem_of_getElem? h)
theorem pick0_way {w:World} {cases:Array CommCase}:Tame P (fun q=>∀ a b,q.2.2 ≠ Way.partner a b) (pick0 (readies0 w cases)) 0:=by
 unfold pick0
 refine Tame.bind (t_choose _) fun a=>?_
 have hx:=getD_or (readies0 w cases) a (0,default,[])
 generalize (readies0 w cases).getD a (0,default,[])=x at hx
 obtain ⟨k,c,ws⟩:=x
 have hws:∀ y ∈ ws,∀ a b,y ≠ Way.partner a b:=by
  rcases hx with hm|e
  ·have:=(List.mem_filter.1 hm).1
   obtain ⟨⟨c',k'⟩,_,e⟩:=List.mem_map.1 this
   simp only [Prod.mk.injEq] at e
   obtain ⟨_,rfl,rfl⟩:=e
   rintro y hy a b rfl
   exact ways_no_partner noWait_nil w c' a b hy
  ·cases e
   simp
 dsimp only
 refine Tame.bind (t_choose _) fun b=>?_
 show ∀ a' b',ws.getD b .closed ≠ Way.partner a' b'
 rcases getD_or ws b .closed with h|h
 ·exact hws _ h
 ·rw [h];intro a b e;cases e
theorem waitingAt_none (sl:Option (Nat × Nat)) (cases:Array CommCase) (w:World):waitingAt (rest0 sl) cases w=some w:=by
 unfold waitingAt
 have:timerAhead (rest0 sl) w.os.mono cases=false:=by
  unfold timerAhead rest0
  rw [Array.any_eq_false]
  intro i hi
  split <;> simp
 rw [this]
 rfl
def Plain (P:Program) (g:Goroutine) (cases:Array CommCase) (b:Bool) (sh:CommShape) (w:World) (g' : Goroutine) (w' : World) (ops:Array MemOp):Prop :=
 ∀ gs sl,NoWait gs->Said g gs (rest0 sl) (communicate P (rest0 sl) gs 0 g cases b sh w) g' w' ops
def ill0 (w:World) (cases:Array CommCase):Bool:=cases.any fun c=>match c.chan with
 | .chan none=>false
 | .chan (some r)=>!(w.heap[r]? matches some (.chan ..))
 | _=>true
section
variable {g : Goroutine} {cases : Array CommCase} {b : Bool} {sh : CommShape}
theorem comm_ill {w:World} (h:ill0 w cases=true) (gs:Array Goroutine) (sl:Option (Nat × Nat)):∃ o w' ops,communicate P (rest0 sl) gs 0 g cases b sh w=(.ended o w',ops):=by
 have:communicate P (rest0 sl) gs 0 g cases b sh w=(.ended (.stuck "a communication at a channel whose block is no channel's" (g.frame.pos P)) w,#[]):=by
  unfold communicate
  dsimp only
  exact if_pos h
 exact ⟨_,_,_,this⟩
theorem readies_eq {gs:Array Goroutine} (hn:NoWait gs) (w:World):((cases.zipIdx.toList.map fun (c,k)=>(k,c,ways w gs c)).filter fun (_,_,ws)=>!ws.isEmpty)=readies0 w cases:=by
 unfold readies0
 simp only [ways_plain hn noWait_nil]
theorem comm_block {w:World} (h:ill0 w cases=false) (hr:(readies0 w cases).isEmpty=true) (hb:b=true):Plain P g cases b sh w { g with status:=.blocked,offers:=some (cases,sh) } w #[]:=by
 intro gs sl hn
 have:communicate P (rest0 sl) gs 0 g cases b sh w=(.next { world:=w,gs:=gs.setIfInBounds 0 { g with status:=.blocked,offers:=some (cases,sh) },rest:=rest0 sl },#[]):=by
  unfold communicate
  dsimp only
  refine (if_neg (c:=ill0 w cases=true) (by rw [h];exact Bool.false_ne_true)).trans ?_
  rw [readies_eq hn,if_pos hr,if_pos hb,waitingAt_none]
 exact ⟨this,by simp,rfl,rfl,.inl ⟨rfl,rfl⟩⟩
theorem comm_pass {w:World} (h:ill0 w cases=false) (hr:(readies0 w cases).isEmpty=true) (hb:b=false):Plain P g cases b sh w (g.finishComm P cases sh (-1) undef false) w #[]:=by
 intro gs sl hn
 have:communicate P (rest0 sl) gs 0 g cases b sh w=(.next { world:=w,gs:=gs.setIfInBounds 0 (g.finishComm P cases sh (-1) undef false),rest:=rest0 sl },#[]):=by
  unfold communicate
  dsimp only
  refine (if_neg (c:=ill0 w cases=true) (by rw [h];exact Bool.false_ne_true)).trans ?_
  rw [readies_eq hn,if_pos hr,if_neg (by rw [hb];exact Bool.false_ne_true)]
 exact ⟨this,by simp,rfl,rfl,.inr ⟨rfl,.inl ⟨_,rfl⟩⟩⟩
def chanAt (c:CommCase):Nat:=match c.chan with | .chan (some r)=>r|_=>0
theorem comm_ready (hg:g.status=.running) {w:World} (h:ill0 w cases=false) (hr:(readies0 w cases).isEmpty=false) {k:Nat} {c:CommCase} {way:Way} {w2:World} (hp:(pick0 (readies0 w cases)).run P w=.ok (k,c,way) w2) (hw:∀ x y,way ≠ .partner x y) :
  (∃ (g' : Goroutine) (F:World->World) (ops:Array MemOp),g'.status=.running/\(∀ w,(F w).drawn=w.drawn/\(F w).tape=w.tape/\∀ T j,F (w.re T j)=(F w).re T j) ∧
   ∀ w3 w4:World,ill0 w3 cases=false->(readies0 w3 cases).isEmpty=false->(pick0 (readies0 w3 cases)).run P w3=.ok (k,c,way) w4->w4.heap=w2.heap->Plain P g cases b sh w3 g' (F w4) ops) ∨
  ∀ gs sl,NoWait gs->∃ o w' ops,communicate P (rest0 sl) gs 0 g cases b sh w=(.ended o w',ops):=by
 cases way with
 | partner x y=>exact absurd rfl (hw x y)
 | closed =>
  refine .inl ⟨g.finishComm P cases sh k c.zero false,id,#[{ g:=0,fn:=g.frame.fn,pos:=g.frame.place,act:=.recvClosed (chanAt c) }],rfl,fun w=>⟨rfl,rfl,fun _ _=>rfl⟩,fun w3 w4 h3 hr3 hp3 he gs sl hn=>?_⟩
  have:communicate P (rest0 sl) gs 0 g cases b sh w3=(.next { world:=w4,gs:=gs.setIfInBounds 0 (g.finishComm P cases sh k c.zero false),rest:=rest0 sl },#[{ g:=0,fn:=g.frame.fn,pos:=g.frame.place,act:=.recvClosed (chanAt c) }]):=by
   unfold communicate
   dsimp only
   refine (if_neg (c:=ill0 w3 cases=true) (by rw [h3];exact Bool.false_ne_true)).trans ?_
   rw [readies_eq hn,if_neg (by rw [hr3];exact Bool.false_ne_true)]
   unfold pick0 at hp3
   rw [hp3]
   dsimp only
   cases w4.heap[chanAt c]? <;> rfl
  exact ⟨this,by simp [MemAct.touch?],rfl,rfl,.inr ⟨rfl,.inl ⟨_,rfl⟩⟩⟩
 | sendClosed =>
  refine .inl ⟨{ g with frame:=g.frame.raise [{ v:=.iface P.rt.plainError (strVal "send on closed channel"),recovered:=false }] },id,#[],hg,fun w=>⟨rfl,rfl,fun _ _=>rfl⟩,fun w3 w4 h3 hr3 hp3 he gs sl hn=>?_⟩
  have:communicate P (rest0 sl) gs 0 g cases b sh w3=(.next { world:=w4,gs:=gs.setIfInBounds 0 { g with frame:=g.frame.raise [{ v:=.iface P.rt.plainError (strVal "send on closed channel"),recovered:=false }] },rest:=rest0 sl },#[]):=by
   unfold communicate
   dsimp only
   refine (if_neg (c:=ill0 w3 cases=true) (by rw [h3];exact Bool.false_ne_true)).trans ?_
   rw [readies_eq hn,if_neg (by rw [hr3];exact Bool.false_ne_true)]
   unfold pick0 at hp3
   rw [hp3]
   dsimp only
   cases w4.heap[chanAt c]? <;> rfl
  exact ⟨this,by simp,rfl,rfl,.inr ⟨hg,.inr ⟨_,rfl⟩⟩⟩
 | buffer =>
  have go:∀ {w3 w4:World} {gs:Array Goroutine} {sl:Option (Nat × Nat)} {o:Option Obj},NoWait gs->ill0 w3 cases=false->(readies0 w3 cases).isEmpty=false->(pick0 (readies0 w3 cases)).run P w3=.ok (k,c,.buffer) w4->w4.heap[chanAt c]?=o →
    communicate P (rest0 sl) gs 0 g cases b sh w3=(match o,c.send with
     | some (.chan cap buf closed sent rcvd tm),some v=>(.next { world:={ w4 with heap:=w4.heap.setIfInBounds (chanAt c) (.chan cap (buf.push v) closed (sent+1) rcvd tm) },gs:=gs.setIfInBounds 0 (g.finishComm P cases sh k undef false),rest:=rest0 sl },
       #[{ g:=0,fn:=g.frame.fn,pos:=g.frame.place,act:=.send (chanAt c) sent },{ g:=0,fn:=g.frame.fn,pos:=g.frame.place,act:=.sendDone (chanAt c) sent }])
     | some (.chan cap buf closed sent rcvd tm),none=>(.next { world:={ w4 with heap:=w4.heap.setIfInBounds (chanAt c) (.chan cap (buf.extract 1 buf.size) closed sent (rcvd+1) tm) },gs:=gs.setIfInBounds 0 (g.finishComm P cases sh k (buf.getD 0 undef) true),rest:=rest0 sl },
       #[{ g:=0,fn:=g.frame.fn,pos:=g.frame.place,act:=.recv (chanAt c) rcvd cap },{ g:=0,fn:=g.frame.fn,pos:=g.frame.place,act:=.recvDone (chanAt c) rcvd }])
     | _,_=>(.ended (.stuck "communicate: no such channel" "") w4,#[])):=by
   intro w3 w4 gs sl o hn h3 hr3 hp3 ho
   unfold communicate
   dsimp only
   refine (if_neg (c:=ill0 w3 cases=true) (by rw [h3];exact Bool.false_ne_true)).trans ?_
   rw [readies_eq hn,if_neg (by rw [hr3];exact Bool.false_ne_true)]
   unfold pick0 at hp3
   rw [hp3]
   dsimp only
   erw [ho]
   cases o with
   | none=>cases c.send <;> rfl
   | some o =>
    cases hs:c.send with
    | none =>
     cases o with
     | chan cap buf closed sent rcvd tm =>
      dsimp only
      rw [partners_nil hn]
      rfl
     | _=>rfl
    | some v =>
     cases o <;> rfl
  cases hc:w2.heap[chanAt c]? with
  | none=>exact .inr fun gs sl hn=>⟨_,_,_,(go hn h hr hp hc).trans (by cases c.send <;> rfl)⟩
  | some o =>
   cases o with
   | chan cap buf closed sent rcvd tm =>
    cases hs:c.send with
    | some v =>
     refine .inl ⟨g.finishComm P cases sh k undef false,fun w=>{ w with heap:=w.heap.setIfInBounds (chanAt c) (.chan cap (buf.push v) closed (sent+1) rcvd tm) },_,?_,fun w=>⟨rfl,rfl,fun _ _=>rfl⟩,fun w3 w4 h3 hr3 hp3 he gs sl hn=>⟨by have:=go (sl:=sl) hn h3 hr3 hp3 ((congrArg (fun x=>x[chanAt c]?) he).trans hc);rw [hs] at this;exact this,?_,rfl,rfl,.inr ⟨rfl,.inl ⟨_,rfl⟩⟩⟩⟩
     ·rfl
     ·simp [MemAct.touch?]
    | none =>
     refine .inl ⟨g.finishComm P cases sh k (buf.getD 0 undef) true,fun w=>{ w with heap:=w.heap.setIfInBounds (chanAt c) (.chan cap (buf.extract 1 buf.size) closed sent (rcvd+1) tm) },_,?_,fun w=>⟨rfl,rfl,fun _ _=>rfl⟩,fun w3 w4 h3 hr3 hp3 he gs sl hn=>⟨by have:=go (sl:=sl) hn h3 hr3 hp3 ((congrArg (fun x=>x[chanAt c]?) he).trans hc);rw [hs] at this;exact this,?_,rfl,rfl,.inr ⟨rfl,.inl ⟨_,rfl⟩⟩⟩⟩
     ·rfl
     ·simp [MemAct.touch?]
   | _=>exact .inr fun gs sl hn=>⟨_,_,_,(go hn h hr hp hc).trans (by cases c.send <;> rfl)⟩
theorem pick0_halt (l:List (Nat × CommCase × List Way)) (w:World) (h:Halt) (w' : World):(pick0 l).run P w ≠ .halt h w':=by
 unfold pick0 choose
 simp only [bind,Sem.bind,Sem.run]
 intro e
 split at e <;> (split at e <;> cases e)
theorem comm_plain (hg:g.status=.running) (w:World):(∀ gs sl,NoWait gs->∃ o w' ops,communicate P (rest0 sl) gs 0 g cases b sh w=(.ended o w',ops)) ∨
  ∃ g' w' ops,Plain P g cases b sh w g' w' ops/\w.drawn<=w'.drawn/\w'.tape=w.tape/\∀ T j,Agree w w' T j->Plain P g cases b sh (w.re T j) g' (w'.re T (j+(w'.drawn - w.drawn))) ops:=by
 have hR:∀ T j,readies0 (w.re T j) cases=readies0 w cases:=fun _ _=>rfl
 have hI:∀ T j,ill0 (w.re T j) cases=ill0 w cases:=fun _ _=>rfl
 cases hi:ill0 w cases with
 | true=>exact .inl fun gs sl _=>comm_ill hi gs sl
 | false =>
  cases hr:(readies0 w cases).isEmpty with
  | true =>
   cases hb:b with
   | true=>exact .inr ⟨_,_,_,comm_block hi hr rfl,Nat.le_refl _,rfl,fun T j _=>by
     have:=comm_block (P:=P) (g:=g) (sh:=sh) (w:=w.re T j) ((hI T j).trans hi) (by rw [hR];exact hr) (rfl:true=true)
     simpa [World.re] using this⟩
   | false=>exact .inr ⟨_,_,_,comm_pass hi hr rfl,Nat.le_refl _,rfl,fun T j _=>by
     have:=comm_pass (P:=P) (g:=g) (sh:=sh) (w:=w.re T j) ((hI T j).trans hi) (by rw [hR];exact hr) (rfl:false=false)
     simpa [World.re] using this⟩
  | false =>
   cases hp:(pick0 (readies0 w cases)).run P w with
   | halt h w'=>exact absurd hp (pick0_halt _ _ _ _)
   | ok q w2 =>
    obtain ⟨k,c,way⟩:=q
    have hT:=pick0_way (P:=P) (w:=w) (cases:=cases)
    have hp' : (pick0 (readies0 w cases)).runT P w #[]=(.ok (k,c,way) w2,(pick0 (readies0 w cases)).events P w #[]):=by rw [Sem.runT_eq,hp]
    obtain ⟨a1,_⟩:=tame_deaf hT w #[] _ _ hp' trivial
    obtain ⟨l1,l2,l3⟩:=(tame_loc hT w #[]).run _ _ hp' trivial
    rcases comm_ready (P:=P) (b:=b) (sh:=sh) hg hi hr hp (a1 _ _ rfl) with ⟨g',F,ops,hg',hF,hK⟩|hE
    ·obtain ⟨f1,f2,f3⟩:=hF w2
     refine .inr ⟨g',F w2,ops,hK w w2 hi hr hp rfl,by rw [f1];exact l1,f2.trans l2,fun T j hT'=>?_⟩
     have e1:=l3 T j (fun i hi=>hT' i (by rw [f1];exact hi))
     have e2:(pick0 (readies0 (w.re T j) cases)).run P (w.re T j)=.ok (k,c,way) (w2.re T (j+(w2.drawn - w.drawn))):=by
      rw [hR]
      have:=congrArg Prod.fst e1
      rw [Sem.runT_eq] at this
      exact this
     have:=hK (w.re T j) _ ((hI T j).trans hi) (by rw [hR];exact hr) e2 rfl
     rw [f3] at this
     rw [f1]
     exact this
    ·exact .inl hE
end
end Go.Proofs.YtgnbibinclepcaaGreatDoor.Lf
set_option linter.unusedVariables false
set_option linter.unusedSimpArgs false
namespace Go.Proofs.YtgnbibinclepcaaGreatDoor.Lf
variable {P : Program}
open Go.Conc
def Run (g:Goroutine):Prop:=g.status=.running/\g.dying=none
def Aloof (gs:Array Goroutine):Prop:=∀ j x,0<j->gs[j]?=some x->x.status=.running ∨ x.status=.finished
theorem again_aloof {w:World} {x:Goroutine} (h:x.status=.running ∨ x.status=.finished):x.again w=x:=by
 unfold Goroutine.again
 rcases h with h|h <;> simp [h]
structure Own (P:Program) (g:Goroutine) (w:World) (g' : Goroutine) (w' : World):Prop where
 run:Run g'
 fit:Fit g'
 tape:w'.tape=w.tape
 step:∀ gs sl,Aloof gs->gs[0]?=some g->∃ ops,runT P (crowd gs w sl) 0=(.next (crowd (gs.setIfInBounds 0 g') w' sl),ops)/\(∀ op ∈ ops,op.g=0)/\∀ t,Deaf (t ++ ops) 0=Deaf t 0
theorem ops_events {fn:FuncId} {pos:String} {es:Array Event} (h:Quiet es):(∀ op ∈ MemOp.ofEvents 0 fn pos es,op.g=0)/\∀ t,Deaf (t ++ MemOp.ofEvents 0 fn pos es) 0=Deaf t 0 :=
 by
 refine ⟨fun op hop=>?_,fun t=>by rw [Deaf_own];exact h _⟩
 rw [ofEvents_eq] at hop
 obtain ⟨e,_,rfl⟩:=Array.mem_map.1 hop
 rfl
theorem deaf_nomark {ops:Array MemOp} (h:∀ op ∈ ops,∀ m,op.act ≠ .mark m) (t:Trace):Deaf (t ++ ops) 0=Deaf t 0:=by
 obtain ⟨l⟩:=ops
 rw [Deaf_append]
 generalize Deaf t 0=d
 induction l generalizing d with
 | nil=>rfl
 | cons op l ih =>
  rw [List.foldl_cons]
  have e:deafStep 0 d op=d:=by
   have:=h op (by simp)
   unfold deafStep
   split
   ·rename_i e;exact absurd e (this _)
   ·rename_i e;exact absurd e (this _)
   ·rfl
  rw [e]
  exact ih (fun op hop=>h op (by simp at hop ⊢;exact .inr hop)) d
theorem noWait_set {gs:Array Goroutine} (h:Aloof gs) (hpos:0<gs.size) (x:Goroutine) (hx:x.status=.finished):NoWait (gs.set 0 x):=by
 intro g hg
 obtain ⟨i,hi,rfl⟩:=Array.mem_iff_getElem.1 hg
 rw [Array.getElem_set]
 split
 ·rw [hx];simp
 ·rename_i hne
  have hi' : i<gs.size:=by simpa using hi
  have:=h i gs[i] (by omega) (Array.getElem?_eq_getElem hi')
  rcases this with h|h <;> rw [h] <;> simp
theorem own_go {g g' : Goroutine} {w w' : World} {es:Array Event} (hs:stepG P true g w=.go g' w' es) (hr:Run g') (hf:Fit g') (hq:Quiet es) (ht:w'.tape=w.tape):Own P g w g' w':=by
 refine ⟨hr,hf,ht,fun gs sl ha h0=>?_⟩
 have hrunT:=runT_crowd_go (P:=P) (sl:=sl) (i:=0) h0 (show stepG P (0 == 0) g w=_ from hs)
 refine ⟨MemOp.ofEvents 0 g.frame.fn g.frame.place es,?_,ops_events hq⟩
 rw [hrunT]
 congr 2
 congr 1
 apply Array.ext_getElem?
 intro j
 by_cases hj:0=j
 ·subst hj
  have hlt:0<gs.size:=(Array.getElem?_eq_some_iff.1 h0).1
  rw [Array.getElem?_setIfInBounds_self_of_lt (by simpa using hlt),Array.getElem?_setIfInBounds_self_of_lt hlt]
 ·rw [Array.getElem?_setIfInBounds_ne hj,Array.getElem?_setIfInBounds_ne hj,Array.getElem?_map]
  cases hx:gs[j]? with
  | none=>rfl
  | some x =>
   have:=ha j x (by omega) hx
   simp only [Option.map_some,Option.some.injEq]
   unfold woken
   split
   ·exact again_aloof this
   ·rfl
theorem runT_comm {gs:Array Goroutine} {sl:Option (Nat × Nat)} {g g1:Goroutine} {w w1:World} {cases:Array CommCase} {b:Bool} {sh:CommShape} {es:Array Event} (h0:gs[0]?=some g) (hlt:0<gs.size)
  (hs:stepG P true g w=.comm g1 cases b sh w1 es) :
  runT P (crowd gs w sl) 0=((communicate P (rest0 sl) (gs.set 0 { (default:Goroutine) with status:=.finished }) 0 g1 cases b sh w1).1,MemOp.ofEvents 0 g.frame.fn g.frame.place es ++ (communicate P (rest0 sl) (gs.set 0 { (default:Goroutine) with status:=.finished }) 0 g1 cases b sh w1).2):=by
 obtain ⟨_,rfl⟩:=Array.getElem?_eq_some_iff.1 h0
 have hsw:=swapAt_of_lt hlt { (default:Goroutine) with status:=.finished }
 show runT P { world:=w,gs:=gs,rest:={ timers:=#[],alone:=none,slice:=sl } } 0=_
 unfold runT
 simp only [hsw,beq_self_eq_true,hs,GStep.es]
 rfl
theorem own_comm {g g1 g' : Goroutine} {w w1 w' : World} {cases:Array CommCase} {b:Bool} {sh:CommShape} {es:Array Event} {ops:Array MemOp} (hs:stepG P true g w=.comm g1 cases b sh w1 es) (hq:Quiet es)
  (hp:Plain P g1 cases b sh w1 g' w' ops) (hr:Run g') (hf:Fit g') (ht:w'.tape=w.tape):Own P g w g' w':=by
 refine ⟨hr,hf,ht,fun gs sl ha h0=>?_⟩
 have hlt:0<gs.size:=(Array.getElem?_eq_some_iff.1 h0).1
 obtain ⟨he,ho,_⟩:=hp _ sl (noWait_set ha hlt { (default:Goroutine) with status:=.finished } rfl)
 refine ⟨MemOp.ofEvents 0 g.frame.fn g.frame.place es ++ ops,?_,?_,?_⟩
 ·rw [runT_comm h0 hlt hs,he,set_setIfInBounds hlt]
  rfl
 ·intro op hop
  rcases Array.mem_append.1 hop with hop|hop
  ·exact (ops_events hq).1 op hop
  ·exact (ho op hop).1
 ·intro t
  rw [<- Array.append_assoc,deaf_nomark (fun op hop=>(ho op hop).2.2)]
  exact (ops_events hq).2 t
theorem runT_coro {gs:Array Goroutine} {sl:Option (Nat × Nat)} {g g1:Goroutine} {w w1:World} {c:Nat} {es:Array Event} (h0:gs[0]?=some g) (hlt:0<gs.size)
  (hs:stepG P true g w=.coroswitch g1 c true w1 es):runT P (crowd gs w sl) 0=((match w1.heap[c]? with
   | some (.coro (some h))=>.next { world:={ w1 with heap:=w1.heap.setIfInBounds c (.coro none) },gs:=(gs.setIfInBounds 0 { g1 with status:=.finished }).modify h (fun o=>{ o with status:=.running }),rest:=rest0 sl }
   | some (.coro none)=>(match endThrow g1.frame "coroswitch on exited coro" w1 with
    | .go g w _=>.next { world:=w,gs:=gs.setIfInBounds 0 g,rest:=rest0 sl }
    | _=>.ended (.stuck "" "") w1)
   | _=>.ended (.stuck "coroswitch: no coroutine" "") w1:Stepped),MemOp.ofEvents 0 g.frame.fn g.frame.place es):=by
 obtain ⟨_,rfl⟩:=Array.getElem?_eq_some_iff.1 h0
 have hsw:=swapAt_of_lt hlt { (default:Goroutine) with status:=.finished }
 show runT P { world:=w,gs:=gs,rest:={ timers:=#[],alone:=none,slice:=sl } } 0=_
 unfold runT
 simp only [hsw,beq_self_eq_true,hs,GStep.es,set_setIfInBounds hlt]
 cases w1.heap[c]? with
 | none=>rfl
 | some o =>
  cases o with
  | coro p =>
   cases p with
   | none=>rfl
   | some h=>rfl
  | _=>rfl
theorem own_coro {g g1:Goroutine} {w w1:World} {c:Nat} {es:Array Event} (hs:stepG P true g w=.coroswitch g1 c true w1 es) (hq:Quiet es) (hc:w1.heap[c]?=some (.coro (some 0))) (hd:g1.dying=none) (hf:Fit g1) (ht:w1.tape=w.tape) :
  Own P g w { g1 with status:=.running } { w1 with heap:=w1.heap.setIfInBounds c (.coro none) }:=by
 refine ⟨⟨rfl,hd⟩,hf,ht,fun gs sl ha h0=>?_⟩
 have hlt:0<gs.size:=(Array.getElem?_eq_some_iff.1 h0).1
 refine ⟨MemOp.ofEvents 0 g.frame.fn g.frame.place es,?_,ops_events hq⟩
 rw [runT_coro h0 hlt hs,hc]
 dsimp only
 congr 2
 show (_:Machine) = { world:=_,gs:=gs.setIfInBounds 0 { g1 with status:=.running },rest:=rest0 sl }
 congr 1
 apply Array.ext_getElem?
 intro j
 rw [Array.getElem?_modify]
 by_cases hj:0=j
 ·subst hj
  rw [if_pos rfl,Array.getElem?_setIfInBounds_self_of_lt hlt,Array.getElem?_setIfInBounds_self_of_lt hlt]
  rfl
 ·rw [if_neg hj,Array.getElem?_setIfInBounds_ne hj,Array.getElem?_setIfInBounds_ne hj]
end Go.Proofs.YtgnbibinclepcaaGreatDoor.Lf
set_option linter.unusedVariables false
set_option linter.unusedSimpArgs false
namespace Go.Proofs.YtgnbibinclepcaaGreatDoor.Lf
variable {P : Program}
open Go.Conc
theorem stepG_sound (hcf:CF P) {g:Goroutine} (hd:g.dying=none) (hf:Fit g) (w:World):Sound P none .normal (fun w=>stepG P true g w) w:=by
 obtain ⟨fr,cs,st,dy,of⟩:=g
 dsimp only at hd
 subst hd
 cases hm:fr.mode with
 | run =>
  have e:∀ w,stepG P true ⟨fr,cs,st,none,of⟩ w=stepG.exec P true true fr cs none w:=fun w=>by unfold stepG;dsimp only;rw [hm]
  exact .of_eq (exec_sound hcf (fun h=>(by cases h)) hf.1 hf.2) (e w) (fun T j=>e _)
 | _ =>
  have e:∀ w,stepG P true ⟨fr,cs,st,none,of⟩ w=unwind P true fr cs none w:=fun w=>by unfold stepG;dsimp only;rw [hm]
  exact .of_eq (unwind_sound hcf (fun h=>(by cases h)) hf.1 hf.2) (e w) (fun T j=>e _)
def Gone (g:Goroutine):Prop:=∃ d,g.dying=some d/\(d.calling=true->bkOf g.frame g.callers=.report)
def DeadG (g:Goroutine):Prop:=g.status=.blocked ∨ g.status=.waiting ∨ g.status=.finished ∨ (g.status=.running/\Gone g/\Fit g)
def DeadM (m:Machine):Prop:=2<=m.gs.size ∨ ∃ g w,m=crowd #[g] w none/\DeadG g
def GoneS:GStep->Prop
 | .go g _ _=>Gone g/\(g.status=.running ∨ g.status=.blocked ∨ g.status=.waiting ∨ g.status=.finished)/\(g.status=.running->Fit g)
 | .comm g _ _ _ _ _=>Gone g/\g.status=.running/\Fit g
 | .spawn _ _ _ _=>True
 | .coroswitch g _ e _ _=>e=true/\Gone g/\Fit g
 | .ended _ _ _=>True
 | _=>False
theorem gone_of_dies {d:Dying} {k:CallKind} {g:Goroutine} (hk:k=.report) (h:Dies (some d) k g):Gone g:=by
 rcases h with ⟨h1,h2⟩|⟨d',h1,h2⟩
 ·exact ⟨d,h1,fun _=>(h2 rfl).trans hk⟩
 ·exact ⟨d',h1,fun h=>by rw [h2] at h;cases h⟩
theorem goneS_of_kind {d:Dying} {s:GStep} (h:s.kind (some d) .report):GoneS s:=by
 cases s with
 | go g w es=>exact ⟨gone_of_dies rfl h.1,h.2.2.1,h.2.2.2⟩
 | comm g c b sh w es=>exact ⟨gone_of_dies rfl h.1,h.2.1,h.2.2.2⟩
 | coroswitch g c e w es=>exact ⟨h.1,gone_of_dies rfl h.2.1,h.2.2.2.2⟩
 | spawn _ _ _ _=>trivial
 | ended _ _ _=>trivial
 | _=>exact h
theorem goneS_after {s:GStep} {es:Array Event} (h:GoneS s):GoneS (s.after es):=by
 cases s <;> exact h
theorem goneS_idle {fr:Frame} {d:Dying} {st:GoStatus} {w:World} {es:Array Event} (hf:FitFrame fr) (hc:d.calling=false) (hs:st=.running ∨ st=.blocked) :
  GoneS (.go { frame:=fr,callers:=[],status:=st,dying:=some d } w es) :=
 ⟨⟨d,rfl,fun h=>by rw [hc] at h;cases h⟩,hs.elim .inl (fun h=>.inr (.inl h)),fun _=>⟨hf,by simp⟩⟩
theorem goneS_endThrow {fr:Frame} (hf:FitFrame fr) (m:String) (w:World):GoneS (endThrow fr m w):=goneS_idle hf rfl (.inl rfl)
theorem die_gone {fr:Frame} {d:Dying} (hf:FitFrame fr) (hc:d.calling=false) (w:World):GoneS (die P fr d w):=by
 unfold die
 split
 ·unfold writeOn
  dsimp only
  split
  ·trivial
  ·split
   ·exact goneS_idle hf hc (.inl rfl)
   ·exact goneS_idle hf hc (.inr rfl)
   ·trivial
   ·trivial
 ·split
  ·split
   ·exact goneS_idle hf hc (.inr rfl)
   ·unfold endWith
    dsimp only
    split
    ·split <;> trivial
    ·trivial
    ·trivial
  ·dsimp only
   split
   ·exact goneS_idle hf hc (.inl rfl)
   ·split
    ·exact goneS_idle hf hc (.inl rfl)
    ·trivial
   ·refine goneS_after ?_
    split
    ·exact ⟨⟨_,rfl,fun _=>rfl⟩,.inl rfl,fun _=>⟨fit_enter _ _ _,by simp⟩⟩
    ·exact goneS_idle hf hc (.inl rfl)
    ·trivial
    ·unfold endPrinting
     dsimp only
     split
     ·exact goneS_endThrow hf _ _
     ·trivial
    ·trivial
   ·trivial
theorem stepG_gone (hcf:CF P) {g:Goroutine} (hg:Gone g) (hf:Fit g) (w:World):GoneS (stepG P true g w):=by
 obtain ⟨fr,cs,st,dy,of⟩:=g
 obtain ⟨d,hd,hk⟩:=hg
 dsimp only at hd hk
 subst hd
 cases hc:d.calling with
 | false =>
  have e:stepG P true ⟨fr,cs,st,some d,of⟩ w=die P fr d w:=by
   obtain ⟨a,b,c,e,f,g,h⟩:=d
   dsimp only at hc
   subst hc
   unfold stepG;rfl
  rw [e]
  exact die_gone hf.1 hc w
 | true =>
  have hb:=hk hc
  cases hm:fr.mode with
  | run =>
   have e:∀ w,stepG P true ⟨fr,cs,st,some d,of⟩ w=stepG.exec P true true fr cs (some d) w:=fun w=>by
    obtain ⟨a,b,c,e,f,g,h⟩:=d
    dsimp only at hc
    subst hc
    unfold stepG;dsimp only;rw [hm]
   rw [e]
   exact goneS_of_kind (exec_sound (w:=w) hcf (fun _=>⟨hb,rfl⟩) hf.1 hf.2).kind
  | _ =>
   have e:∀ w,stepG P true ⟨fr,cs,st,some d,of⟩ w=unwind P true fr cs (some d) w:=fun w=>by
    obtain ⟨a,b,c,e,f,g,h⟩:=d
    dsimp only at hc
    subst hc
    unfold stepG;dsimp only;rw [hm]
   rw [e]
   exact goneS_of_kind (unwind_sound (w:=w) hcf (fun _=>⟨hb,rfl⟩) hf.1 hf.2).kind
end Go.Proofs.YtgnbibinclepcaaGreatDoor.Lf
set_option linter.unusedVariables false
set_option linter.unusedSimpArgs false
namespace Go.Proofs.YtgnbibinclepcaaGreatDoor.Lf
variable {P : Program}
open Go.Conc
theorem step_run {g:Goroutine} {w:World} (h:g.status=.running):stepT P (crowd #[g] w none)=runT P (crowd #[g] w none) 0:=stepT_solo (a:=g) (w:=w) h
theorem aloof_one (g:Goroutine):Aloof #[g]:=by
 intro j x hj hx
 have:j<1:=by simpa using (Array.getElem?_eq_some_iff.1 hx).1
 omega
theorem fit_said {g g' : Goroutine} {gs:Array Goroutine} {rest:Rest} {r:Stepped × Array MemOp} {w' : World} {ops:Array MemOp} (h:Said g gs rest r g' w' ops) (hf:Fit g):Fit g' /\ bkOf g'.frame g'.callers=bkOf g.frame g.callers:=by
 obtain ⟨_,_,h1,h2,h3⟩:=h
 rw [h1]
 have key:∀ fr',FitFrame fr' -> fr'.kind=g.frame.kind->g'.frame=fr' -> Fit g' /\ bkOf g'.frame g.callers=bkOf g.frame g.callers:=by
  intro fr' a b c
  rw [c]
  exact ⟨⟨by rw [c];exact a,by rw [h1];exact hf.2⟩,bk_same _ b⟩
 rcases h3 with ⟨_,h⟩|⟨_,⟨v,h⟩|⟨c,h⟩⟩
 ·exact key _ hf.1 rfl h
 ·exact key _ (fit_finish v hf.1) (kind_finish _ _) h
 ·exact key _ (fit_raise hf.1) (kind_raise _ _) h
theorem runT_spawn {gs:Array Goroutine} {sl:Option (Nat × Nat)} {g a b:Goroutine} {w w1:World} {es:Array Event} (h0:gs[0]?=some g) (hlt:0<gs.size)
  (hs:stepG P true g w=.spawn a b w1 es):(runT P (crowd gs w sl) 0).1=.next { world:=w1,gs:=(gs.setIfInBounds 0 a).push b,rest:=rest0 sl }:=by
 obtain ⟨_,rfl⟩:=Array.getElem?_eq_some_iff.1 h0
 have hsw:=swapAt_of_lt hlt { (default:Goroutine) with status:=.finished }
 show (runT P { world:=w,gs:=gs,rest:={ timers:=#[],alone:=none,slice:=sl } } 0).1=_
 unfold runT
 simp only [hsw,beq_self_eq_true,hs,GStep.es,set_setIfInBounds hlt]
 rfl
theorem dead_runT (hcf:CF P) {g:Goroutine} {w:World} {m' : Machine} (hr:g.status=.running) (hs:GoneS (stepG P true g w)) (h:(runT P (crowd #[g] w none) 0).1=.next m'):DeadM m':=by
 have h0:(#[g]:Array Goroutine)[0]?=some g:=rfl
 have hlt:0<(#[g]:Array Goroutine).size:=by simp
 cases hg:stepG P true g w with
 | go g' w' es =>
  rw [hg] at hs
  have:=runT_crowd_go (P:=P) (sl:=none) (i:=0) h0 (show stepG P (0 == 0) g w=_ from hg)
  rw [this] at h
  cases h
  refine .inr ⟨g',w',by simp [crowd],?_⟩
  obtain ⟨a,b,c⟩:=hs
  rcases b with b|b|b|b
  ·exact .inr (.inr (.inr ⟨b,a,c b⟩))
  ·exact .inl b
  ·exact .inr (.inl b)
  ·exact .inr (.inr (.inl b))
 | comm g1 cases b sh w1 es =>
  rw [hg] at hs
  obtain ⟨a,hr1,hf1⟩:=hs
  rw [runT_comm h0 hlt hg] at h
  have hn:NoWait ((#[g]:Array Goroutine).set 0 { (default:Goroutine) with status:=.finished } (by simp)):=noWait_set (aloof_one g) hlt _ rfl
  rcases comm_plain (P:=P) (cases:=cases) (b:=b) (sh:=sh) hr1 w1 with hE|⟨g',w',ops,hp,_⟩
  ·obtain ⟨o,w',ops,e⟩:=hE _ none hn
   rw [e] at h
   cases h
  ·have hS:=hp _ none hn
   rw [hS.eq] at h
   cases h
   refine .inr ⟨g',w',rfl,?_⟩
   obtain ⟨hf',hb'⟩:=fit_said hS hf1
   obtain ⟨_,d1,d2⟩:=hS.own
   rcases d2 with ⟨d2,_⟩|⟨d2,_⟩
   ·exact .inl d2
   ·obtain ⟨d,e1,e2⟩:=a
    exact .inr (.inr (.inr ⟨d2,⟨d,d1.trans e1,fun h=>hb'.trans (e2 h)⟩,hf'⟩))
 | spawn a b w1 es =>
  left
  rw [runT_spawn h0 hlt hg] at h
  cases h
  simp
 | coroswitch g1 c e w1 es =>
  rw [hg] at hs
  obtain ⟨rfl,a,hf1⟩:=hs
  rw [runT_coro h0 hlt hg] at h
  dsimp only at h
  cases ho:w1.heap[c]? with
  | none=>rw [ho] at h;cases h
  | some o =>
   rw [ho] at h
   cases o with
   | coro p =>
    cases p with
    | none =>
     dsimp only [endThrow,dieOf] at h
     cases h
     exact .inr ⟨_,w1,rfl,.inr (.inr (.inr ⟨rfl,⟨_,rfl,fun h=>(by cases h)⟩,hf1.1,by simp⟩))⟩
    | some n =>
     cases h
     cases n with
     | zero=>exact .inr ⟨{ g1 with status:=.running },{ w1 with heap:=w1.heap.setIfInBounds c (.coro none) },rfl,.inr (.inr (.inr ⟨rfl,a,hf1⟩))⟩
     | succ n=>exact .inr ⟨{ g1 with status:=.finished },{ w1 with heap:=w1.heap.setIfInBounds c (.coro none) },by
       show (_:Machine)=_
       simp [crowd,rest0,Array.modify,Array.modifyM],.inr (.inr (.inl rfl))⟩
   | _=>cases h
 | ended o w1 es =>
  rw [runT_many_ended (sl:=none) (i:=0) h0 (show stepG P (0 == 0) g w=_ from hg)] at h
  cases h
 | _=>rw [hg] at hs;exact hs.elim
theorem dead_idle {g:Goroutine} {w:World} {m' : Machine} (hs:g.status=.blocked ∨ g.status=.waiting ∨ g.status=.finished) (h:(stepT P (crowd #[g] w none)).1=.next m'):m' = crowd #[g] w none:=by
 have e:∀ s ops,move P (crowd #[g] w none)=.machine s ops->s=.next m':=by
  intro s ops hm
  unfold stepT at h
  rw [hm] at h
  exact h
 rcases hs with hs|hs|hs
 ·exfalso
  have:∃ o w',move P (crowd #[g] w none)=.machine (.ended o w') #[]:=by
   simp [move,ask,askOn,crowd,runnable_eq,due,ahead,Goroutine.canRun,List.range_succ,choose,pure,Sem.run,Question.forced,hs]
   split <;> exact ⟨_,_,rfl⟩
  obtain ⟨o,w',hm⟩:=this
  cases e _ _ hm
 ·have:move P (crowd #[g] w none)=.machine (.next (crowd #[g] w none)) #[]:=by
   simp [move,ask,askOn,crowd,runnable_eq,due,ahead,Goroutine.canRun,List.range_succ,choose,pure,Sem.run,Question.forced,hs]
  have:=e _ _ this
  exact (Stepped.next.inj this).symm
 ·exfalso
  have:∃ o w',move P (crowd #[g] w none)=.machine (.ended o w') #[]:=by
   simp [move,ask,askOn,crowd,runnable_eq,due,ahead,Goroutine.canRun,List.range_succ,choose,pure,Sem.run,Question.forced,hs]
   split <;> exact ⟨_,_,rfl⟩
  obtain ⟨o,w',hm⟩:=this
  cases e _ _ hm
theorem dead_step (hcf:CF P) {m m' : Machine} (hm:DeadM m) (h:step P m=.next m'):DeadM m':=by
 rcases hm with hm|⟨g,w,rfl,hg⟩
 ·exact .inl (Nat.le_trans hm (stepT_size P m m' true h))
 ·have key:(g.status=.blocked ∨ g.status=.waiting ∨ g.status=.finished)->DeadM m':=fun hs=>by
   rw [dead_idle hs h]
   exact .inr ⟨g,w,rfl,hg⟩
  rcases hg with a|a|a|⟨a,b,c⟩
  ·exact key (.inl a)
  ·exact key (.inr (.inl a))
  ·exact key (.inr (.inr a))
  ·unfold step at h
   rw [step_run a] at h
   exact dead_runT hcf a (stepG_gone hcf b c w) h
theorem dead_lone {fr:Frame} {cs:List Frame} {w:World}:¬ DeadM (lone fr cs w):=by
 rintro (h|⟨g,w',e,h⟩)
 ·exact absurd h (by simp [lone])
 ·have eg:g = { frame:=fr,callers:=cs,status:=.running,dying:=none }:=by
   have:=congrArg (fun m:Machine=>m.gs[0]?) e
   simp [lone,crowd] at this
   exact this.symm
  subst eg
  rcases h with h|h|h|⟨_,⟨d,h,_⟩,_⟩ <;> cases h
theorem dead_run (hcf:CF P) {n:Nat}:∀ {m:Machine} {fr:Frame} {cs:List Frame} {w:World},DeadM m->runN P n m ≠ .next (lone fr cs w):=by
 induction n with
 | zero =>
  intro m fr cs w hm e
  simp only [runN,Stepped.next.injEq] at e
  rw [e] at hm
  exact dead_lone hm
 | succ n ih =>
  intro m fr cs w hm e
  simp only [runN] at e
  cases hs:step P m with
  | next m'=>rw [hs] at e;exact ih (dead_step hcf hm hs) e
  | ended o w'=>rw [hs] at e;cases e
theorem own_or_dead (hcf:CF P) {g:Goroutine} (hr:Run g) (hf:Fit g) (w:World) :
  (∃ g' w',Own P g w g' w' /\ w.drawn<=w'.drawn/\w'.tape=w.tape/\∀ T j,Agree w w' T j->Own P g (w.re T j) g' (w'.re T (j+(w'.drawn - w.drawn)))) ∨
   ∀ n fr cs w',runN P (n+1) (crowd #[g] w none) ≠ .next (lone fr cs w'):=by
 have hS:=stepG_sound hcf hr.2 hf w
 have h0:(#[g]:Array Goroutine)[0]?=some g:=rfl
 have hlt:0<(#[g]:Array Goroutine).size:=by simp
 -- nothing comes back
 have dead:(∀ m',(runT P (crowd #[g] w none) 0).1=.next m' -> DeadM m')->∀ n fr cs w',runN P (n+1) (crowd #[g] w none) ≠ .next (lone fr cs w'):=by
  intro h n fr cs w' e
  simp only [runN] at e
  cases hs:step P (crowd #[g] w none) with
  | next m' =>
   rw [hs] at e
   have hs' : (runT P (crowd #[g] w none) 0).1=.next m':=by rw [<- step_run hr.1];exact hs
   exact dead_run hcf (h m' hs') e
  | ended o w'=>rw [hs] at e;cases e
 cases hg:stepG P true g w with
 | go g' w' es =>
  have hk:=hS.kind
  rw [hg] at hk
  obtain ⟨k1,k2,k3,k4⟩:=hk
  by_cases hr' : Run g'
  ·left
   obtain ⟨l1,l2,l3⟩:=hS.loc (by rw [hg];exact hr')
   rw [hg] at l1 l2 l3
   refine ⟨g',w',own_go hg hr' (k4 hr'.1) (k2 hr') l2,l1,l2,fun T j hT=>?_⟩
   exact own_go ((l3 T j hT).trans rfl) hr' (k4 hr'.1) (k2 hr') rfl
  ·right
   refine dead fun m' hm=>?_
   have:=runT_crowd_go (P:=P) (sl:=none) (i:=0) h0 (show stepG P (0 == 0) g w=_ from hg)
   rw [this] at hm
   cases hm
   refine .inr ⟨g',w',by simp [crowd],?_⟩
   rcases k3 with b|b|b|b
   ·refine .inr (.inr (.inr ⟨b,?_,k4 b⟩))
    rcases k1 with ⟨h1,_⟩|⟨d,h1,h2⟩
    ·exact absurd ⟨b,h1⟩ hr'
    ·exact ⟨d,h1,fun h=>by rw [h2] at h;cases h⟩
   ·exact .inl b
   ·exact .inr (.inl b)
   ·exact .inr (.inr (.inl b))
 | comm g1 cases b sh w1 es =>
  have hk:=hS.kind
  rw [hg] at hk
  obtain ⟨k1,k2,k3,k4⟩:=hk
  have hn:NoWait ((#[g]:Array Goroutine).set 0 { (default:Goroutine) with status:=.finished } (by simp)):=noWait_set (aloof_one g) hlt _ rfl
  have hd1:g1.dying=none ∨ Gone g1:=by
   rcases k1 with ⟨h1,_⟩|⟨d,h1,h2⟩
   ·exact .inl h1
   ·exact .inr ⟨d,h1,fun h=>by rw [h2] at h;cases h⟩
  rcases comm_plain (P:=P) (cases:=cases) (b:=b) (sh:=sh) k2 w1 with hE|⟨g',w',ops,hp,m1,m2,m3⟩
  ·right
   refine dead fun m' hm=>?_
   obtain ⟨o,w',ops,e⟩:=hE _ none hn
   rw [runT_comm h0 hlt hg,e] at hm
   cases hm
  ·have hSd:=hp _ none hn
   obtain ⟨hf',hb'⟩:=fit_said hSd k4
   obtain ⟨_,d1,d2⟩:=hSd.own
   by_cases hr' : Run g'
   ·left
    have hd:g1.dying=none:=d1.symm.trans hr'.2
    obtain ⟨l1,l2,l3⟩:=hS.loc (by rw [hg];exact hd)
    rw [hg] at l1 l2 l3
    dsimp only [GStep.wld] at l1 l2 l3
    refine ⟨g',w',own_comm hg (k3 hd) hp hr' hf' (m2.trans l2),by omega,m2.trans l2,fun T j hT=>?_⟩
    have e1:=l3 T j (fun i hi=>hT i (by omega))
    have e2:=m3 T (j+(w1.drawn - w.drawn)) (agree_sub hT l2 l1)
    rw [show j+(w1.drawn - w.drawn)+(w'.drawn - w1.drawn)=j+(w'.drawn - w.drawn) by omega] at e2
    exact own_comm (e1.trans rfl) (k3 hd) e2 hr' hf' rfl
   ·right
    refine dead fun m' hm=>?_
    rw [runT_comm h0 hlt hg,hSd.eq] at hm
    cases hm
    refine .inr ⟨g',w',rfl,?_⟩
    rcases d2 with ⟨d2,_⟩|⟨d2,_⟩
    ·exact .inl d2
    ·rcases hd1 with hd1|⟨d,e1,e2⟩
     ·exact absurd ⟨d2,d1.trans hd1⟩ hr'
     ·exact .inr (.inr (.inr ⟨d2,⟨d,d1.trans e1,fun h=>hb'.trans (e2 h)⟩,hf'⟩))
 | spawn a b w1 es =>
  right
  refine dead fun m' hm=>?_
  rw [runT_spawn h0 hlt hg] at hm
  cases hm
  exact .inl (by simp)
 | coroswitch g1 c e w1 es =>
  have hk:=hS.kind
  rw [hg] at hk
  obtain ⟨rfl,k1,k2,k3,k4⟩:=hk
  by_cases hx:w1.heap[c]?=some (.coro (some 0))/\g1.dying=none
  ·left
   obtain ⟨hc,hd⟩:=hx
   obtain ⟨l1,l2,l3⟩:=hS.loc (by rw [hg];exact hd)
   rw [hg] at l1 l2 l3
   exact ⟨_,_,own_coro hg (k3 hd) hc hd k4 l2,l1,l2,fun T j hT=>own_coro ((l3 T j hT).trans rfl) (k3 hd) hc hd k4 rfl⟩
  ·right
   refine dead fun m' hm=>?_
   rw [runT_coro h0 hlt hg] at hm
   dsimp only at hm
   have hd1:g1.dying=none ∨ Gone g1:=by
    rcases k1 with ⟨h1,_⟩|⟨d,h1,h2⟩
    ·exact .inl h1
    ·exact .inr ⟨d,h1,fun h=>by rw [h2] at h;cases h⟩
   cases ho:w1.heap[c]? with
   | none=>rw [ho] at hm;cases hm
   | some o =>
    rw [ho] at hm
    cases o with
    | coro p =>
     cases p with
     | none =>
      dsimp only [endThrow,dieOf] at hm
      cases hm
      exact .inr ⟨_,w1,rfl,.inr (.inr (.inr ⟨rfl,⟨_,rfl,fun h=>(by cases h)⟩,k4.1,by simp⟩))⟩
     | some n =>
      cases hm
      cases n with
      | zero =>
       rcases hd1 with hd1|hd1
       ·exact absurd ⟨ho,hd1⟩ hx
       ·exact .inr ⟨{ g1 with status:=.running },{ w1 with heap:=w1.heap.setIfInBounds c (.coro none) },rfl,.inr (.inr (.inr ⟨rfl,hd1,k4⟩))⟩
      | succ n=>exact .inr ⟨{ g1 with status:=.finished },{ w1 with heap:=w1.heap.setIfInBounds c (.coro none) },by
        show (_:Machine)=_
        simp [crowd,rest0,Array.modify,Array.modifyM],.inr (.inr (.inl rfl))⟩
    | _=>cases hm
 | ended o w1 es =>
  right
  refine dead fun m' hm=>?_
  rw [runT_many_ended (sl:=none) (i:=0) h0 (show stepG P (0 == 0) g w=_ from hg)] at hm
  cases hm
 | _=>have hk:=hS.kind;rw [hg] at hk;exact hk.elim
end Go.Proofs.YtgnbibinclepcaaGreatDoor.Lf
set_option linter.unusedVariables false
set_option linter.unusedSimpArgs false
namespace Go.Proofs.YtgnbibinclepcaaGreatDoor.Lf
variable {P : Program}
open Go.Conc
inductive Tree (P:Program) (Stop:Goroutine->World->Prop):Goroutine->World->Prop
 | stop {g:Goroutine} {w:World}:Stop g w->Tree P Stop g w
 | step {g:Goroutine} {w:World} (g' : (Nat->Question->Nat)->Nat->Goroutine) (w' : (Nat->Question->Nat)->Nat->World):Run g->(∀ T d,Own P g (w.re T d) (g' T d) (w' T d))->(∀ T d,Tree P Stop (g' T d) (w' T d))->Tree P Stop g w
theorem Tree.step' {Stop:Goroutine->World->Prop} {g:Goroutine} {w:World} (hr:Run g) (h:∀ T d,∃ g' w',Own P g (w.re T d) g' w' /\ Tree P Stop g' w'):Tree P Stop g w :=
 .step (fun T d=>Classical.choose (h T d)) (fun T d=>Classical.choose (Classical.choose_spec (h T d))) hr (fun T d=>(Classical.choose_spec (Classical.choose_spec (h T d))).1) (fun T d=>(Classical.choose_spec (Classical.choose_spec (h T d))).2)
def OwnL (P:Program) (g:Goroutine) (w:World) (g' : Goroutine) (w' : World):Prop :=
 Own P g w g' w' /\ w.drawn<=w'.drawn/\w'.tape=w.tape/\∀ T j,Agree w w' T j->Own P g (w.re T j) g' (w'.re T (j+(w'.drawn - w.drawn)))
def Blind (Stop:Goroutine->World->Prop):Prop:=∀ g w T d,Stop g w->Stop g (w.re T d)
section
variable {Stop : Goroutine -> World -> Prop}
structure Node (P:Program) (Stop:Goroutine->World->Prop) where
 g:Goroutine
 w:World
 run:Run g
 fit:Fit g
 bad:¬ Tree P Stop g w
theorem Node.ex (x:Node P Stop):∃ q:(Nat->Question->Nat) × Nat,∀ g' w',Own P x.g (x.w.re q.1 q.2) g' w' -> ¬ Tree P Stop g' w':=by
 refine Classical.byContradiction fun h=>x.bad (Tree.step' x.run fun T d=>?_)
 refine Classical.byContradiction fun h'=>h ⟨(T,d),fun g' w' ho ht=>h' ⟨g',w',ho,ht⟩⟩
noncomputable def Node.q (x:Node P Stop):(Nat->Question->Nat) × Nat:=Classical.choose x.ex
theorem Node.hq (x:Node P Stop):∀ g' w',Own P x.g (x.w.re x.q.1 x.q.2) g' w' -> ¬ Tree P Stop g' w':=Classical.choose_spec x.ex
def Node.goes (x:Node P Stop):Prop:=∃ p:Goroutine × World,OwnL P x.g (x.w.re x.q.1 x.q.2) p.1 p.2
open Classical in
noncomputable def Node.next (x:Node P Stop):Option (Node P Stop) :=
 if h:x.goes then
  some ⟨(Classical.choose h).1,(Classical.choose h).2,(Classical.choose_spec h).1.run,(Classical.choose_spec h).1.fit,x.hq _ _ (Classical.choose_spec h).1⟩
 else none
noncomputable def Node.k (x:Node P Stop):Nat:=match x.next with|some y=>y.w.drawn - x.q.2|none=>0
theorem Node.next_some {x y:Node P Stop} (h:x.next=some y):OwnL P x.g (x.w.re x.q.1 x.q.2) y.g y.w:=by
 unfold Node.next at h
 split at h
 ·cases h
  rename_i hg
  exact Classical.choose_spec hg
 ·cases h
theorem Node.next_none {x:Node P Stop} (h:x.next=none):¬ x.goes:=by
 unfold Node.next at h
 split at h
 ·cases h
 ·assumption
noncomputable def seqN (x0:Node P Stop):Nat->Option (Node P Stop)
 | 0=>some x0
 | n+1=>(seqN x0 n).bind Node.next
noncomputable def seqJ (x0:Node P Stop):Nat->Nat
 | 0=>0
 | n+1=>seqJ x0 n+(match seqN x0 n with|some x=>x.k|none=>0)
theorem seqJ_mono (x0:Node P Stop) (n m:Nat):seqJ x0 n<=seqJ x0 (n+m):=by
 induction m with
 | zero=>exact Nat.le_refl _
 | succ m ih=>exact Nat.le_trans ih (by show _<=seqJ x0 (n+m)+_;omega)
theorem seqN_some {x0:Node P Stop} {n m:Nat} {y:Node P Stop} (h:seqN x0 (n+m)=some y):∃ x,seqN x0 n=some x:=by
 induction m generalizing y with
 | zero=>exact ⟨y,h⟩
 | succ m ih =>
  obtain ⟨z,hz,_⟩:=Option.bind_eq_some_iff.1 (show (seqN x0 (n+m)).bind Node.next=some y from h)
  exact ih hz
def AtN (x0:Node P Stop) (i n:Nat) (x:Node P Stop):Prop:=seqN x0 n=some x/\seqJ x0 n<=i/\(x.next=none ∨ i<seqJ x0 n+x.k)
theorem atN_unique {x0:Node P Stop} {i n m:Nat} {x y:Node P Stop} (hx:AtN x0 i n x) (hy:AtN x0 i m y):n=m:=by
 have key:∀ {n m:Nat} {x y:Node P Stop},AtN x0 i n x->AtN x0 i m y->¬ n<m:=by
  intro n m x y hx hy hlt
  obtain ⟨d,rfl⟩:∃ d,m=n+1+d:=⟨m - (n+1),by omega⟩
  obtain ⟨z,hz⟩:=seqN_some hy.1
  have hz' : (seqN x0 n).bind Node.next=some z:=hz
  rw [hx.1] at hz'
  have hnx:x.next=some z:=hz'
  rcases hx.2.2 with h|h
  ·rw [h] at hnx;cases hnx
  ·have h1:seqJ x0 (n+1)=seqJ x0 n+x.k:=by show seqJ x0 n+(match seqN x0 n with|some x=>x.k|none=>0)=_;rw [hx.1]
   have h2:=seqJ_mono x0 (n+1) d
   have h3:=hy.2.1
   omega
 rcases Nat.lt_trichotomy n m with h|h|h
 ·exact absurd h (key hx hy)
 ·exact h
 ·exact absurd h (key hy hx)
open Classical in
noncomputable def glue (x0:Node P Stop) (i:Nat):Question->Nat :=
 if h:∃ p:Nat × Node P Stop,AtN x0 i p.1 p.2 then (Classical.choose h).2.q.1 ((Classical.choose h).2.q.2+(i - seqJ x0 (Classical.choose h).1)) else fun _=>0
theorem glue_at {x0:Node P Stop} {i n:Nat} {x:Node P Stop} (h:AtN x0 i n x):glue x0 i=x.q.1 (x.q.2+(i - seqJ x0 n)):=by
 have hex:∃ p:Nat × Node P Stop,AtN x0 i p.1 p.2:=⟨(n,x),h⟩
 unfold glue
 rw [dif_pos hex]
 have hs:=Classical.choose_spec hex
 have e1:=atN_unique hs h
 have e2:(Classical.choose hex).2=x:=by
  have:=hs.1
  rw [e1,h.1] at this
  exact (Option.some.inj this).symm
 rw [e1,e2]
theorem own_step {g g' : Goroutine} {w w' : World} (hr:Run g) (h:Own P g w g' w'):step P (crowd #[g] w none)=.next (crowd #[g'] w' none):=by
 obtain ⟨ops,e,_⟩:=h.step #[g] none (aloof_one g) rfl
 unfold step
 rw [step_run hr.1,e]
 rfl
theorem seq_run (x0:Node P Stop):∀ (n:Nat) (x:Node P Stop),seqN x0 n=some x->runN P n (crowd #[x0.g] (x0.w.re (glue x0) 0) none)=.next (crowd #[x.g] (x.w.re (glue x0) (seqJ x0 n)) none):=by
 intro n
 induction n with
 | zero=>intro x h;cases h;rfl
 | succ n ih =>
  intro y h
  obtain ⟨x,hx,hy⟩:=Option.bind_eq_some_iff.1 (show (seqN x0 n).bind Node.next=some y from h)
  obtain ⟨ho,l1,l2,l3⟩:=Node.next_some hy
  have l1' : x.q.2<=y.w.drawn:=l1
  have hk:x.k=y.w.drawn - x.q.2:=by unfold Node.k;rw [hy]
  have hJ:seqJ x0 (n+1)=seqJ x0 n+x.k:=by show seqJ x0 n+(match seqN x0 n with|some x=>x.k|none=>0)=_;rw [hx]
  have hA:Agree (x.w.re x.q.1 x.q.2) y.w (glue x0) (seqJ x0 n):=by
   intro i hi
   have hi' : x.q.2+i<y.w.drawn:=hi
   rw [glue_at (i:=seqJ x0 n+i) (n:=n) (x:=x) ⟨hx,by omega,.inr (by omega)⟩]
   rw [Nat.add_sub_cancel_left]
   rfl
  have:=l3 _ _ hA
  have e:seqJ x0 n+(y.w.drawn - (x.w.re x.q.1 x.q.2).drawn)=seqJ x0 (n+1):=by rw [hJ,hk];rfl
  rw [e] at this
  rw [runN_add,ih x hx]
  show runN P 1 _=_
  simp only [runN]
  rw [show x.w.re (glue x0) (seqJ x0 n)=(x.w.re x.q.1 x.q.2).re (glue x0) (seqJ x0 n) from rfl,own_step x.run this]
theorem tree_of_runs (hcf:CF P) (hB:Blind Stop) {g:Goroutine} {w:World} (hr:Run g) (hf:Fit g)
  (h:∀ T,∃ n fr cs w',runN P n (crowd #[g] (w.re T 0) none)=.next (lone fr cs w')/\Stop (G fr cs) w'):Tree P Stop g w:=by
 refine Classical.byContradiction fun hbad=>?_
 let x0:Node P Stop:=⟨g,w,hr,hf,hbad⟩
 obtain ⟨N,fr,cs,w',hrun,hst⟩:=h (glue x0)
 cases hN:seqN x0 N with
 | some x =>
  have:=seq_run x0 N x hN
  have e:crowd #[x.g] (x.w.re (glue x0) (seqJ x0 N)) none=lone fr cs w':=Stepped.next.inj (this.symm.trans hrun)
  have e1:x.g=G fr cs:=by
   have:=congrArg (fun m:Machine=>m.gs[0]?) e
   simpa [lone,crowd,G] using this
  have e2:x.w.re (glue x0) (seqJ x0 N)=w':=congrArg Machine.world e
  refine x.bad (.stop ?_)
  rw [e1]
  have:=hB _ _ x.w.tape x.w.drawn hst
  rw [<- e2] at this
  exact this
 | none =>
  -- the last node
  have:∃ n x,n<N/\seqN x0 n=some x/\x.next=none:=by
   have:∀ N,seqN x0 N=none->∃ n x,n<N/\seqN x0 n=some x/\x.next=none:=by
    intro N
    induction N with
    | zero=>intro h;cases h
    | succ N ih =>
     intro h
     cases hN:seqN x0 N with
     | none =>
      obtain ⟨n,x,a,b,c⟩:=ih hN
      exact ⟨n,x,by omega,b,c⟩
     | some x =>
      refine ⟨N,x,by omega,hN,?_⟩
      have:(seqN x0 N).bind Node.next=none:=h
      rw [hN] at this
      exact this
   exact this N hN
  obtain ⟨n,x,hlt,hx,hnx⟩:=this
  have hrn:=seq_run x0 n x hx
  have hgl:∀ i,glue x0 (seqJ x0 n+i)=x.q.1 (x.q.2+i):=fun i=>by
   rw [glue_at (i:=seqJ x0 n+i) (n:=n) (x:=x) ⟨hx,by omega,.inl hnx⟩,Nat.add_sub_cancel_left]
  rcases own_or_dead hcf x.run x.fit (x.w.re (glue x0) (seqJ x0 n)) with ⟨g'',w'',o1,o2,o3,o4⟩|hd
  ·refine Node.next_none hnx ⟨(g'',w''.re x.q.1 (x.q.2+(w''.drawn - seqJ x0 n))),?_,?_,rfl,?_⟩
   ·exact o4 x.q.1 x.q.2 (fun i _=>(hgl i).symm)
   ·show x.q.2<=x.q.2+_;omega
   ·intro T j hA
    have hA' : Agree (x.w.re (glue x0) (seqJ x0 n)) w'' T j:=by
     intro i hi
     have hi' : seqJ x0 n+i<w''.drawn:=hi
     have:=hA i (by show x.q.2+i<x.q.2+(w''.drawn - seqJ x0 n);omega)
     rw [this]
     exact (hgl i).symm
    have:=o4 T j hA'
    show Own P x.g (x.w.re T j) g'' (w''.re T (j+(x.q.2+(w''.drawn - seqJ x0 n) - x.q.2)))
    rw [show x.q.2+(w''.drawn - seqJ x0 n) - x.q.2=w''.drawn - seqJ x0 n by omega]
    exact this
  ·obtain ⟨m,rfl⟩:∃ m,N=n+(m+1):=⟨N - n - 1,by omega⟩
   rw [runN_add,show x0.g=g from rfl,show x0.w=w from rfl] at *
   have:runN P n (crowd #[g] (w.re (glue x0) 0) none)=.next (crowd #[x.g] (x.w.re (glue x0) (seqJ x0 n)) none):=hrn
   rw [this] at hrun
   exact hd m fr cs w' hrun
end
end Go.Proofs.YtgnbibinclepcaaGreatDoor.Lf
set_option linter.unusedVariables false
set_option linter.unusedSimpArgs false
namespace Go.Proofs.YtgnbibinclepcaaGreatDoor.Lf
variable {P : Program}
open Go.Conc
open Go.ConcN (sumTo upd sumTo_upd upd_ne upd_same)
theorem loc_low (l:Loc):∃ B,l.low B:=by
 cases l with
 | cell a=>exact ⟨a.block+1,Nat.lt_succ_self _⟩
 | obj r=>exact ⟨r+1,Nat.lt_succ_self _⟩
 | _=>exact ⟨0,trivial⟩
theorem act_low (x:MemAct):∃ B,x.low B:=by
 cases x with
 | access e=>exact loc_low e.loc
 | mark m=>cases m with
  | acquire a=>exact ⟨a.block+1,Nat.lt_succ_self _⟩
  | release a=>exact ⟨a.block+1,Nat.lt_succ_self _⟩
  | releaseMerge a=>exact ⟨a.block+1,Nat.lt_succ_self _⟩
  | read a=>exact ⟨a.block+1,Nat.lt_succ_self _⟩
  | write a=>exact ⟨a.block+1,Nat.lt_succ_self _⟩
  | _=>exact ⟨0,trivial⟩
 | go _=>exact ⟨0,trivial⟩
 | start=>exact ⟨0,trivial⟩
 | send c _=>exact ⟨c+1,Nat.lt_succ_self _⟩
 | sendDone c _=>exact ⟨c+1,Nat.lt_succ_self _⟩
 | recv c _ _=>exact ⟨c+1,Nat.lt_succ_self _⟩
 | recvDone c _=>exact ⟨c+1,Nat.lt_succ_self _⟩
 | close c=>exact ⟨c+1,Nat.lt_succ_self _⟩
 | recvClosed c=>exact ⟨c+1,Nat.lt_succ_self _⟩
theorem ops_low (ops:Array MemOp) (B:Nat):∃ B',B<=B' /\ ∀ op ∈ ops,op.act.low B':=by
 obtain ⟨l⟩:=ops
 induction l with
 | nil=>exact ⟨B,Nat.le_refl _,by simp⟩
 | cons op l ih =>
  obtain ⟨B1,h1,h2⟩:=ih
  obtain ⟨B2,h3⟩:=act_low op.act
  refine ⟨max B1 B2,by omega,fun x hx=>?_⟩
  have hx:x=op ∨ x ∈ l:=by simpa using hx
  rcases hx with rfl|hx
  ·exact MemAct.low_mono (Nat.le_max_right _ _) h3
  ·exact MemAct.low_mono (Nat.le_max_left _ _) (h2 x (by simpa using hx))
def NoShun:Loc->Prop:=fun _=>False
theorem leavers_aloof {t:Trace} {gs:Array Goroutine} {q:Nat->Nat} (h:Leavers P t gs q):Aloof gs:=fun j x hj hx=>(h.old j x hj hx).status
theorem leavers_awake {t:Trace} {gs:Array Goroutine} {q:Nat->Nat} {a:Goroutine} (h:Leavers P t gs q) (h0:gs[0]?=some a) (hr:a.status=.running):∀ g ∈ gs,awake g:=by
 intro g hg
 obtain ⟨i,hi,rfl⟩:=Array.mem_iff_getElem.1 hg
 rcases Nat.eq_zero_or_pos i with rfl|hpos
 ·have:gs[0]=a:=by simpa [Array.getElem?_eq_getElem hi] using h0
  rw [this];exact awake_of (.inl hr)
 ·exact awake_of ((h.old i _ hpos (Array.getElem?_eq_getElem hi)).status.elim .inl fun x=>.inr (.inr x))
theorem frame_own {t:Trace} {gs:Array Goroutine} {q:Nat->Nat} {B:Nat} {ops:Array MemOp} {g' : Goroutine} (hL:Leavers P t gs q) (hP:Past NoShun B t) (h0:∀ op ∈ ops,op.g=0) (hd:Deaf (t ++ ops) 0=Deaf t 0) :
  ∃ B',B<=B' /\ Leavers P (t ++ ops) (gs.setIfInBounds 0 g') q/\Past NoShun B' (t ++ ops):=by
 obtain ⟨B',hB,hl⟩:=ops_low ops B
 refine ⟨B',hB,⟨fun j x hj hx=>?_,fun j hj=>?_⟩,(hP.mono hB).app0 h0 (fun _ _ _ _ h=>h.elim) hd hl⟩
 ·rw [Array.getElem?_setIfInBounds_ne (by omega)] at hx
  rw [Deaf_other t (g':=0) (by omega) _ h0]
  exact hL.old j x hj hx
 ·have hj' : gs.size<=j:=by simpa using hj
  by_cases hz:j=0
  ·subst hz;rw [hd];exact hL.above 0 hj'
  ·rw [Deaf_other t (g':=0) (by omega) _ h0]
   exact hL.above j hj'
theorem leavers_pick {t:Trace} {gs:Array Goroutine} {q:Nat->Nat} {B:Nat} {a:Goroutine} {w:World} {sl:Option (Nat × Nat)} (h0:gs[0]?=some a) (hr:a.status=.running) (hL:Leavers P t gs q) (hP:Past NoShun B t) :
  (∃ d sl',stepT P (crowd gs w sl)=runT P (crowd gs (w.at d) sl') 0) ∨
   ∃ d sl' gs' ops q',stepT P (crowd gs w sl)=(.next (crowd gs' (w.at d) sl'),ops)/\gs'.size=gs.size/\gs'[0]?=some a/\Leavers P (t ++ ops) gs' q' /\ Past NoShun B (t ++ ops)/\sumTo gs'.size q' < sumTo gs.size q:=by
 obtain ⟨i,g,d,sl',hi,hg,hst⟩:=crowd_pick (P:=P) (w:=w) (sl:=sl) (leavers_awake hL h0 hr) ⟨0,a,h0,hr⟩
 rcases Nat.eq_zero_or_pos i with rfl|hpos
 ·exact .inl ⟨d,sl',hst⟩
 ·right
  have hq:=hL.old i g hpos hi
  have hi0:(i == 0)=false:=by simp;omega
  have hlt:i<gs.size:=(Array.getElem?_eq_some_iff.1 hi).1
  cases hqi:q i with
  | zero=>rw [hqi] at hq;rw [hq.1] at hg;cases hg
  | succ k =>
   rw [hqi] at hq
   rcases hq with ⟨hf,_⟩|⟨_,g',es,hm,hstp,hq'⟩
   ·rw [hf] at hg;cases hg
   have hrunT:=runT_crowd_go (P:=P) (sl:=sl') (i:=i) hi (by rw [hi0];exact hstp (w.at d))
   have hsz:((gs.map (woken P g g' (w.at d))).setIfInBounds i g').size=gs.size:=by simp
   have hsum:sumTo gs.size (upd q i k)+(k+1)=sumTo gs.size q+k:=by
    have:=sumTo_upd q k id hlt
    simpa [hqi] using this
   refine ⟨d,sl',_,_,upd q i k,hst.trans hrunT,hsz,?_,⟨fun j x hj hx=>?_,fun j hj=>?_⟩,hP.mute (by omega) hm,by rw [hsz];omega⟩
   ·have hne:i ≠ 0:=by omega
    rw [Array.getElem?_setIfInBounds_ne hne,Array.getElem?_map,h0]
    simp [woken_run hr]
   ·by_cases hji:i=j
    ·subst hji
     rw [Array.getElem?_setIfInBounds_self_of_lt (by simpa using hlt)] at hx
     obtain rfl:=Option.some.inj hx
     rw [upd_same,Deaf_own]
     exact hq'
    ·rw [Array.getElem?_setIfInBounds_ne hji,Array.getElem?_map] at hx
     obtain ⟨y,hy,rfl⟩:=Option.map_eq_some_iff.1 hx
     have hqj:=hL.old j y hj hy
     rw [woken_quitsD hqj,upd_ne q k (Ne.symm hji),Deaf_other t hji _ (fun op hop=>by rw [ofEvents_eq] at hop;obtain ⟨e,_,rfl⟩:=Array.mem_map.1 hop;rfl)]
     exact hqj
   ·rw [Deaf_other t (g':=i) (by simp at hj;omega) _ (fun op hop=>by rw [ofEvents_eq] at hop;obtain ⟨e,_,rfl⟩:=Array.mem_map.1 hop;rfl)]
    exact hL.above j (by simpa using hj)
theorem tree_beside {Stop:Goroutine->World->Prop} (hB:Blind Stop) {a:Goroutine} {w:World} (ht:Tree P Stop a w) :
  ∀ (T:Nat->Question->Nat) (d:Nat) (gs:Array Goroutine) (sl:Option (Nat × Nat)) (t:Trace) (q:Nat->Nat) (B:Nat),gs[0]?=some a->Leavers P t gs q->Past NoShun B t →
   ∃ (N:Nat) (gs' : Array Goroutine) (a' : Goroutine) (w' : World) (sl' : Option (Nat × Nat)) (t' : Trace) (q' : Nat->Nat) (B' : Nat),
    runNT P N (crowd gs (w.re T d) sl) t=(.next (crowd gs' w' sl'),t')/\gs'.size=gs.size/\gs'[0]?=some a' /\ Stop a' w' /\ Leavers P t' gs' q' /\ B<=B' /\ Past NoShun B' t' /\ w'.tape=T:=by
 induction ht with
 | @stop g w h =>
  intro T d gs sl t q B h0 hL hP
  exact ⟨0,gs,g,w.re T d,sl,t,q,B,rfl,rfl,h0,hB _ _ _ _ h,hL,Nat.le_refl _,hP,rfl⟩
 | @step g w g' w' hr ho _ ih =>
  intro T
  have own:∀ (d' : Nat) (gs:Array Goroutine) (sl' : Option (Nat × Nat)) (t:Trace) (q:Nat->Nat) (B:Nat) (d:Nat) (sl:Option (Nat × Nat)),gs[0]?=some g->Leavers P t gs q->Past NoShun B t->stepT P (crowd gs (w.re T d) sl)=runT P (crowd gs ((w.re T d).at d') sl') 0 →
    ∃ (N:Nat) (gs' : Array Goroutine) (a' : Goroutine) (w'' : World) (sl' : Option (Nat × Nat)) (t' : Trace) (q' : Nat->Nat) (B' : Nat),
     runNT P N (crowd gs (w.re T d) sl) t=(.next (crowd gs' w'' sl'),t')/\gs'.size=gs.size/\gs'[0]?=some a' /\ Stop a' w'' /\ Leavers P t' gs' q' /\ B<=B' /\ Past NoShun B' t' /\ w''.tape=T:=by
   intro d' gs sl' t q B d sl h0 hL hP hst
   obtain ⟨ops,e1,e2,e3⟩:=(ho T d').step gs sl' (leavers_aloof hL) h0
   obtain ⟨B1,b1,b2,b3⟩:=frame_own (g':=g' T d') hL hP e2 (e3 t)
   have ht:(w' T d').tape=T:=(ho T d').tape
   have hw0:∀ v:World,v.tape=T->v=v.re T v.drawn:=by rintro v rfl;rfl
   have hw:=hw0 _ ht
   have hlt:0<gs.size:=(Array.getElem?_eq_some_iff.1 h0).1
   obtain ⟨N,gs2,a2,w2,sl2,t2,q2,B2,f1,f2,f3,f4,f5,f6,f7,f8⟩:=ih T d' T (w' T d').drawn (gs.setIfInBounds 0 (g' T d')) sl' (t ++ ops) q B1 (Array.getElem?_setIfInBounds_self_of_lt hlt) b2 b3
   rw [<- hw] at f1
   refine ⟨N+1,gs2,a2,w2,sl2,t2,q2,B2,?_,by rw [f2];simp,f3,f4,f5,Nat.le_trans b1 f6,f7,f8⟩
   simp only [runNT,hst]
   rw [show (w.re T d).at d' = w.re T d' from rfl,e1]
   exact f1
  have key:∀ (M:Nat) (d:Nat) (gs:Array Goroutine) (sl:Option (Nat × Nat)) (t:Trace) (q:Nat->Nat) (B:Nat),sumTo gs.size q<=M->gs[0]?=some g->Leavers P t gs q->Past NoShun B t →
    ∃ (N:Nat) (gs' : Array Goroutine) (a' : Goroutine) (w'' : World) (sl' : Option (Nat × Nat)) (t' : Trace) (q' : Nat->Nat) (B' : Nat),
     runNT P N (crowd gs (w.re T d) sl) t=(.next (crowd gs' w'' sl'),t')/\gs'.size=gs.size/\gs'[0]?=some a' /\ Stop a' w'' /\ Leavers P t' gs' q' /\ B<=B' /\ Past NoShun B' t' /\ w''.tape=T:=by
   intro M
   induction M with
   | zero =>
    intro d gs sl t q B hM h0 hL hP
    rcases leavers_pick (w:=w.re T d) (sl:=sl) h0 hr.1 hL hP with ⟨d',sl',hst⟩|⟨d',sl',gs',ops,q',_,_,_,_,_,hlt⟩
    ·exact own d' gs sl' t q B d sl h0 hL hP hst
    ·omega
   | succ M ihM =>
    intro d gs sl t q B hM h0 hL hP
    rcases leavers_pick (w:=w.re T d) (sl:=sl) h0 hr.1 hL hP with ⟨d',sl',hst⟩|⟨d',sl',gs',ops,q',e1,e2,e3,e4,e5,hlt⟩
    ·exact own d' gs sl' t q B d sl h0 hL hP hst
    ·obtain ⟨N,gs2,a2,w2,sl2,t2,q2,B2,f1,f2,f3⟩:=ihM d' gs' sl' (t ++ ops) q' B (by omega) e3 e4 e5
     refine ⟨N+1,gs2,a2,w2,sl2,t2,q2,B2,?_,f2.trans e2,f3⟩
     simp only [runNT,e1]
     exact f1
  exact fun d gs sl t q B h0 hL hP=>key _ d gs sl t q B (Nat.le_refl _) h0 hL hP
end Go.Proofs.YtgnbibinclepcaaGreatDoor.Lf
set_option linter.unusedVariables false
set_option linter.unusedSimpArgs false
namespace Go.Proofs.YtgnbibinclepcaaGreatDoor.Lf
variable {P : Program}
open Go.Conc
def AtLeave (P:Program) (f:FuncId) (cs:List Frame) (R:Ending->World->Prop) (g:Goroutine) (w:World):Prop :=
 ∃ e fr T d,g=G fr cs/\R e (w.re T d)/\fr.fn=f/\∀ T d,fr.leaving P (w.re T d) e
theorem blind_atLeave (f:FuncId) (cs:List Frame) (R:Ending->World->Prop):Blind (AtLeave P f cs R):=by
 rintro g w T d ⟨e,fr,T',d',a,b,c,h⟩
 exact ⟨e,fr,T',d',a,b,c,fun T'' d''=>h T'' d''⟩
theorem results_re (fn:Func) (tmps:Array Value) {w:World} {v:Value} (h:(results fn tmps).run P w=.ok v w) (T:Nat->Question->Nat) (d:Nat):(results fn tmps).run P (w.re T d)=.ok v (w.re T d):=by
 have ht:=t_results (P:=P) fn tmps
 have hr:(results fn tmps).runT P w #[]=(.ok v w,(results fn tmps).events P w #[]):=by rw [Sem.runT_eq,h]
 obtain ⟨_,_,l3⟩:=(tame_loc ht w #[]).run _ _ hr trivial
 have:=congrArg Prod.fst (l3 T d (fun i hi=>by simp only [Result.world] at hi;omega))
 rw [Sem.runT_eq] at this
 simpa [Result.re,Result.world] using this
theorem leaving_re {fr:Frame} {w:World} {e:Ending} (h:fr.leaving P w e) (T:Nat->Question->Nat) (d:Nat):fr.leaving P (w.re T d) e:=by
 cases e with
 | returned v =>
  obtain ⟨a,b,c,fn,f,g⟩:=h
  exact ⟨a,b,c,fn,f,results_re fn _ g T d⟩
 | panicked ch=>exact h
 | outgrown=>trivial
theorem tree_calls (hcf:CF P) {f:FuncId} {args:Array Value} {w:World} {R:Ending->World->Prop} {cs:List Frame} (hcs:∀ c ∈ cs,FitFrame c) (hO:∀ w,¬ R .outgrown w)
  (h:∀ T,Calls P f args (w.re T 0) R):Tree P (AtLeave P f cs R) (G (Frame.enter P f args .normal) cs) w:=by
 refine tree_of_runs hcf (blind_atLeave f cs R) ⟨rfl,rfl⟩ ⟨fit_enter _ _ _,hcs⟩ fun T=>?_
 obtain ⟨e,w',fr,hR,hc,hf,hl⟩:=h T cs
 have hs:Steps P (lone (Frame.enter P f args .normal) cs (w.re T 0)) (lone fr cs w'):=by
  cases e with
  | returned v=>exact hc
  | panicked ch=>exact hc
  | outgrown=>exact absurd hR (hO _)
 obtain ⟨n,hn⟩:=hs
 exact ⟨n,fr,cs,w',hn,e,fr,w'.tape,w'.drawn,rfl,hR,hf,fun T d=>leaving_re hl T d⟩
theorem fit_at {b:Frame} {a:Act} {c:Code} {k:List Item} (hk:∀ x ∈ k,FitItem x):FitFrame (b.at a (.code c::k)):=by
 intro x hx
 rcases List.mem_cons.1 hx with rfl|hx
 ·trivial
 ·exact hk x hx
theorem Tree.bind {S S' : Goroutine->World->Prop} {g:Goroutine} {w:World} (h:Tree P S g w) (k:∀ g w,S g w->Tree P S' g w):Tree P S' g w:=by
 induction h with
 | stop h=>exact k _ _ h
 | step g' w' hr ho _ ih=>exact .step g' w' hr ho fun T d=>ih T d
theorem Tree.go {S:Goroutine->World->Prop} {g:Goroutine} {w:World} (hr:Run g) (h:∀ T d,∃ g' w' es,stepG P true g (w.re T d)=.go g' w' es/\Run g' /\ Fit g' /\ Quiet es/\w'.tape=T/\Tree P S g' w'):Tree P S g w :=
 Tree.step' hr fun T d=>by
  obtain ⟨g',w',es,h1,h2,h3,h4,h5,h6⟩:=h T d
  exact ⟨g',w',own_go h1 h2 h3 h4 h5,h6⟩
end Go.Proofs.YtgnbibinclepcaaGreatDoor.Lf
set_option linter.unusedVariables false
set_option linter.unusedSimpArgs false
namespace Go.Proofs.YtgnbibinclepcaaGreatDoor.Lf
variable {P : Program}
open Go.Conc
open Go.ConcN (sumTo upd sumTo_upd upd_ne upd_same)
/-! ### the trace while goroutines 0 and k are both at work: 'So': k's own places; 'Sr': places that both only read -/
structure Mid (So Sr:Loc->Prop) (k B:Nat) (t:Trace):Prop where
 clean:∀ said,¬ Race said t
 known0:∀ i a,touchAt t i=some a->a.loc.isMemory=true->Knows t 0 i ∨ (t.g? i=some k/\(So a.loc ∨ (a.write=false/\Sr a.loc)))
 knownK:∀ i a,touchAt t i=some a->a.loc.isMemory=true->Knows t k i ∨ (t.g? i=some 0/\¬ So a.loc/\(Sr a.loc->a.write=false))
 over:∀ i g,t.g? i=some g->g ≠ 0->g ≠ k->t.counts i->∃ j,t.g? j=some 0/\HappensBefore t i j
 hears0:Deaf t 0=0
 hearsK:Deaf t k=0
 seen:∀ op ∈ t,op.act.low B
structure MidC (So Sr:Loc->Prop) (k B:Nat) (t:Trace):Prop where
 clean:∀ said,¬ Race said t
 known0:∀ i a,touchAt t i=some a->a.loc.isMemory=true->Knows t 0 i ∨ (t.g? i=some k/\(So a.loc ∨ (a.write=false/\Sr a.loc)))
 over:∀ i g,t.g? i=some g->g ≠ 0->g ≠ k->t.counts i->∃ j,t.g? j=some 0/\HappensBefore t i j
 hears0:Deaf t 0=0
 seen:∀ op ∈ t,op.act.low B
def Shut (So Sr:Loc->Prop) (k B c m:Nat) (t:Trace):Prop :=
 MidC So Sr k B t/\t.act? m=some (.close c)/\t.g? m=some k/\t.heard m/\∀ i,t.g? i=some k->touchAt t i ≠ none->i<=m
variable {So Sr : Loc -> Prop} {k B : Nat} {t u : Trace}
theorem Mid.mono {B' : Nat} (h:Mid So Sr k B t) (hB:B<=B'):Mid So Sr k B' t:=⟨h.clean,h.known0,h.knownK,h.over,h.hears0,h.hearsK,fun op hop=>MemAct.low_mono hB (h.seen op hop)⟩
theorem Mid.toC (h:Mid So Sr k B t):MidC So Sr k B t:=⟨h.clean,h.known0,h.over,h.hears0,h.seen⟩
theorem MidC.mono {B' : Nat} (h:MidC So Sr k B t) (hB:B<=B'):MidC So Sr k B' t:=⟨h.clean,h.known0,h.over,h.hears0,fun op hop=>MemAct.low_mono hB (h.seen op hop)⟩
theorem g?_size {t:Trace} {i g:Nat} (h:t.g? i=some g):i<t.size:=by
 unfold Trace.g? at h
 obtain ⟨z,hz,_⟩:=Option.map_eq_some_iff.1 h
 exact lt_size_of_getElem? hz
theorem g?_op {t:Trace} {i g:Nat} (h:t.g? i=some g):∃ op,t[i]?=some op/\op.g=g:=by
 unfold Trace.g? at h
 obtain ⟨z,hz,e⟩:=Option.map_eq_some_iff.1 h
 exact ⟨z,hz,e⟩
theorem over_app (h:∀ i g,t.g? i=some g->g ≠ 0->g ≠ k->t.counts i->∃ j,t.g? j=some 0/\HappensBefore t i j) (hu:∀ op ∈ u,op.g=0 ∨ op.g=k ∨ op.act.touch?=none) :
  ∀ i g,(t ++ u).g? i=some g->g ≠ 0->g ≠ k->(t ++ u).counts i->∃ j,(t ++ u).g? j=some 0/\HappensBefore (t ++ u) i j:=by
 intro i g hg hne hnk hc
 obtain ⟨x,hx,hx2⟩:=hc
 obtain ⟨op,hop,hox⟩:=touch_of hx
 rcases getElem?_append_cases hop with ⟨hi,hop'⟩|⟨_,hopu⟩
 ·obtain ⟨j,hj,hb⟩:=h i g (by rw [<- Go.Conc.g?_old (u:=u) hi];exact hg) hne hnk ((counts_old hi).1 ⟨x,hx,hx2⟩)
  exact ⟨j,by rw [Go.Conc.g?_old (g?_size hj)];exact hj,hb_app u hb⟩
 ·have hgo:op.g=g:=by rw [g?_of hop] at hg;exact Option.some.inj hg
  rcases hu op hopu with h0|h0|h0
  ·exact absurd (hgo.symm.trans h0) hne
  ·exact absurd (hgo.symm.trans h0) hnk
  ·rw [h0] at hox;cases hox
theorem Mid.app0 (H:Mid So Sr k B t) (hk:k ≠ 0) (hu:∀ op ∈ u,op.g=0) (ht:∀ op ∈ u,∀ b,op.act.touch?=some b->¬ So b.loc/\(Sr b.loc->b.write=false)) (hd:Deaf (t ++ u) 0=Deaf t 0) (hl:∀ op ∈ u,op.act.low B):Mid So Sr k B (t ++ u):=by
 refine ⟨fun said=>noRace_append (H.clean said) hu fun i a ha op hop b hb hc=>?_,fun i a ha hm=>?_,fun i a ha hm=>?_,over_app H.over fun op hop=>.inl (hu op hop),hd.trans H.hears0,(Deaf_other t (Ne.symm hk) _ hu).trans H.hearsK,seen_app H.seen hl⟩
 ·obtain ⟨h1,h2⟩:=ht op hop b hb
  rcases H.known0 i a ha hc.2.1 with x|⟨_,x|⟨x1,x2⟩⟩
  ·exact x
  ·exact absurd (hc.1 ▸ x) h1
  ·have:=h2 (hc.1 ▸ x2)
   rcases hc.2.2.1 with y|y
   ·rw [x1] at y;cases y
   ·rw [this] at y;cases y
 ·obtain ⟨x,hx,hxa⟩:=touch_of ha
  rcases getElem?_append_cases hx with ⟨hi,hx'⟩|⟨_,hxu⟩
  ·exact (H.known0 i a (by rw [touchAt_of hx'];exact hxa) hm).imp (·.app u) fun ⟨p,q⟩=>⟨by rw [Go.Conc.g?_old hi];exact p,q⟩
  ·have:=knows_own hx
   rw [hu x hxu] at this
   exact .inl this
 ·obtain ⟨x,hx,hxa⟩:=touch_of ha
  rcases getElem?_append_cases hx with ⟨hi,hx'⟩|⟨_,hxu⟩
  ·exact (H.knownK i a (by rw [touchAt_of hx'];exact hxa) hm).imp (·.app u) fun ⟨p,q⟩=>⟨by rw [Go.Conc.g?_old hi];exact p,q⟩
  ·exact .inr ⟨by rw [g?_of hx,hu x hxu],ht x hxu a hxa⟩
theorem Mid.appK (H:Mid So Sr k B t) (hk:k ≠ 0) (hu:∀ op ∈ u,op.g=k) (ht:∀ op ∈ u,∀ b,op.act.touch?=some b->So b.loc ∨ (b.write=false/\Sr b.loc)) (hd:Deaf (t ++ u) k=Deaf t k) (hl:∀ op ∈ u,op.act.low B):Mid So Sr k B (t ++ u):=by
 refine ⟨fun said=>noRace_append (H.clean said) hu fun i a ha op hop b hb hc=>?_,fun i a ha hm=>?_,fun i a ha hm=>?_,over_app H.over fun op hop=>.inr (.inl (hu op hop)),(Deaf_other t hk _ hu).trans H.hears0,hd.trans H.hearsK,seen_app H.seen hl⟩
 ·rcases H.knownK i a ha hc.2.1 with x|⟨_,x1,x2⟩
  ·exact x
  ·rcases ht op hop b hb with y|⟨y1,y2⟩
   ·exact absurd (hc.1 ▸ y) x1
   ·have:=x2 (hc.1 ▸ y2)
    rcases hc.2.2.1 with z|z
    ·rw [this] at z;cases z
    ·rw [y1] at z;cases z
 ·obtain ⟨x,hx,hxa⟩:=touch_of ha
  rcases getElem?_append_cases hx with ⟨hi,hx'⟩|⟨_,hxu⟩
  ·exact (H.known0 i a (by rw [touchAt_of hx'];exact hxa) hm).imp (·.app u) fun ⟨p,q⟩=>⟨by rw [Go.Conc.g?_old hi];exact p,q⟩
  ·exact .inr ⟨by rw [g?_of hx,hu x hxu],ht x hxu a hxa⟩
 ·obtain ⟨x,hx,hxa⟩:=touch_of ha
  rcases getElem?_append_cases hx with ⟨hi,hx'⟩|⟨_,hxu⟩
  ·exact (H.knownK i a (by rw [touchAt_of hx'];exact hxa) hm).imp (·.app u) fun ⟨p,q⟩=>⟨by rw [Go.Conc.g?_old hi];exact p,q⟩
  ·have:=knows_own hx
   rw [hu x hxu] at this
   exact .inl this
theorem Mid.appMute (H:Mid So Sr k B t) (hn:∀ op ∈ u,op.act.touch?=none) (hd0:Deaf (t ++ u) 0=Deaf t 0) (hdk:Deaf (t ++ u) k=Deaf t k) (hl:∀ op ∈ u,op.act.low B):Mid So Sr k B (t ++ u):=by
 refine ⟨fun said=>noRace_appendMute (H.clean said) hn,fun i a ha hm=>?_,fun i a ha hm=>?_,over_app H.over fun op hop=>.inr (.inr (hn op hop)),hd0.trans H.hears0,hdk.trans H.hearsK,seen_app H.seen hl⟩ <;>
 ·obtain ⟨x,hx,hxa⟩:=touch_of ha
  rcases getElem?_append_cases hx with ⟨hi,hx'⟩|⟨_,hxu⟩
  ·first
   | exact (H.known0 i a (by rw [touchAt_of hx'];exact hxa) hm).imp (·.app u) fun ⟨p,q⟩=>⟨by rw [Go.Conc.g?_old hi];exact p,q⟩
   | exact (H.knownK i a (by rw [touchAt_of hx'];exact hxa) hm).imp (·.app u) fun ⟨p,q⟩=>⟨by rw [Go.Conc.g?_old hi];exact p,q⟩
  ·rw [hn x hxu] at hxa;cases hxa
theorem MidC.app0 (H:MidC So Sr k B t) (hu:∀ op ∈ u,op.g=0) (ht:∀ op ∈ u,∀ b,op.act.touch?=some b->¬ So b.loc/\(Sr b.loc->b.write=false)) (hd:Deaf (t ++ u) 0=Deaf t 0) (hl:∀ op ∈ u,op.act.low B):MidC So Sr k B (t ++ u):=by
 refine ⟨fun said=>noRace_append (H.clean said) hu fun i a ha op hop b hb hc=>?_,fun i a ha hm=>?_,over_app H.over fun op hop=>.inl (hu op hop),hd.trans H.hears0,seen_app H.seen hl⟩
 ·obtain ⟨h1,h2⟩:=ht op hop b hb
  rcases H.known0 i a ha hc.2.1 with x|⟨_,x|⟨x1,x2⟩⟩
  ·exact x
  ·exact absurd (hc.1 ▸ x) h1
  ·have:=h2 (hc.1 ▸ x2)
   rcases hc.2.2.1 with y|y
   ·rw [x1] at y;cases y
   ·rw [this] at y;cases y
 ·obtain ⟨x,hx,hxa⟩:=touch_of ha
  rcases getElem?_append_cases hx with ⟨hi,hx'⟩|⟨_,hxu⟩
  ·exact (H.known0 i a (by rw [touchAt_of hx'];exact hxa) hm).imp (·.app u) fun ⟨p,q⟩=>⟨by rw [Go.Conc.g?_old hi];exact p,q⟩
  ·have:=knows_own hx
   rw [hu x hxu] at this
   exact .inl this
theorem MidC.appMute (H:MidC So Sr k B t) (hn:∀ op ∈ u,op.act.touch?=none) (hd0:Deaf (t ++ u) 0=Deaf t 0) (hl:∀ op ∈ u,op.act.low B):MidC So Sr k B (t ++ u):=by
 refine ⟨fun said=>noRace_appendMute (H.clean said) hn,fun i a ha hm=>?_,over_app H.over fun op hop=>.inr (.inr (hn op hop)),hd0.trans H.hears0,seen_app H.seen hl⟩
 obtain ⟨x,hx,hxa⟩:=touch_of ha
 rcases getElem?_append_cases hx with ⟨hi,hx'⟩|⟨_,hxu⟩
 ·exact (H.known0 i a (by rw [touchAt_of hx'];exact hxa) hm).imp (·.app u) fun ⟨p,q⟩=>⟨by rw [Go.Conc.g?_old hi];exact p,q⟩
 ·rw [hn x hxu] at hxa;cases hxa
theorem Past.fork (H:Past NoShun B t) (hk:Deaf t k=0) (f0:FuncId) (p0:String) (fk:FuncId) :
  Mid So Sr k B (t ++ #[{ g:=0,fn:=f0,pos:=p0,act:=.go k },{ g:=k,fn:=fk,pos:=p0,act:=.start }]):=by
 generalize hu:(#[{ g:=0,fn:=f0,pos:=p0,act:=.go k },{ g:=k,fn:=fk,pos:=p0,act:=.start }]:Trace)=u
 have hn:∀ op ∈ u,op.act.touch?=none:=by
  intro op hop
  subst hu
  simp only [List.mem_toArray,List.mem_cons,List.not_mem_nil,or_false] at hop
  rcases hop with rfl|rfl <;> rfl
 have hq:∀ g,∀ op ∈ u,∀ d,deafStep g d op=d:=by
  intro g op hop d
  subst hu
  simp only [List.mem_toArray,List.mem_cons,List.not_mem_nil,or_false] at hop
  rcases hop with rfl|rfl <;> rfl
 have e0:(t ++ u)[t.size]?=some { g:=0,fn:=f0,pos:=p0,act:=.go k }:=by subst hu;simp
 have e1:(t ++ u)[t.size+1]?=some { g:=k,fn:=fk,pos:=p0,act:=.start }:=by subst hu;simp
 have edge:HappensBefore (t ++ u) t.size (t.size+1) :=
  Relation.TransGen.single (.inr ⟨.spawn (act?_of e0) (act?_of e1) (g?_of e1),⟨0,g?_of e0,by rw [deaf_old (Nat.le_refl _)];exact H.hears⟩,⟨k,g?_of e1,by rw [deaf_quiet (hq k) 1 (by subst hu;simp)];exact hk⟩⟩)
 have kn:∀ i a,touchAt (t ++ u) i=some a->a.loc.isMemory=true->i<t.size/\Knows t 0 i:=by
  intro i a ha hm
  obtain ⟨x,hx,hxa⟩:=touch_of ha
  rcases getElem?_append_cases hx with ⟨hi,hx'⟩|⟨_,hxu⟩
  ·exact ⟨hi,(H.known i a (by rw [touchAt_of hx'];exact hxa) hm).elim id fun x=>x.1.elim⟩
  ·rw [hn x hxu] at hxa;cases hxa
 refine ⟨fun said=>noRace_appendMute (H.clean said) hn,fun i a ha hm=>.inl ((kn i a ha hm).2.app u),fun i a ha hm=>.inl ⟨t.size+1,_,e1,rfl,.inr (((kn i a ha hm).2.hb_new (Nat.le_refl _) e0 rfl).trans edge)⟩,fun i g hg h0 hnk hc=>?_,(Deaf_quiet (hq 0)).trans H.hears,(Deaf_quiet (hq k)).trans hk,seen_app H.seen fun op hop=>?_⟩
 ·refine over_app (k:=k) (fun i g hg h0 _ hc=>H.over i g hg h0 hc) (fun op hop=>.inr (.inr (hn op hop))) i g hg h0 hnk hc
 ·subst hu
  simp only [List.mem_toArray,List.mem_cons,List.not_mem_nil,or_false] at hop
  rcases hop with rfl|rfl <;> trivial
theorem Mid.shut (H:Mid So Sr k B t) (hk:k ≠ 0) (fk:FuncId) (pk:String) {c:Nat} (hc:c<B):Shut So Sr k B c t.size (t ++ #[{ g:=k,fn:=fk,pos:=pk,act:=.close c }]):=by
 generalize hu:(#[{ g:=k,fn:=fk,pos:=pk,act:=.close c }]:Trace)=u
 have hn:∀ op ∈ u,op.act.touch?=none:=by
  intro op hop;subst hu
  simp only [List.mem_toArray,List.mem_cons,List.not_mem_nil,or_false] at hop
  subst hop;rfl
 have hq:∀ g,∀ op ∈ u,∀ d,deafStep g d op=d:=by
  intro g op hop d;subst hu
  simp only [List.mem_toArray,List.mem_cons,List.not_mem_nil,or_false] at hop
  subst hop;rfl
 have e0:(t ++ u)[t.size]?=some { g:=k,fn:=fk,pos:=pk,act:=.close c }:=by subst hu;simp
 refine ⟨(H.appMute hn (Deaf_quiet (hq 0)) (Deaf_quiet (hq k)) (fun op hop=>?_)).toC,act?_of e0,g?_of e0,⟨k,g?_of e0,by rw [deaf_old (Nat.le_refl _)];exact H.hearsK⟩,fun i hi _=>?_⟩
 ·subst hu
  simp only [List.mem_toArray,List.mem_cons,List.not_mem_nil,or_false] at hop
  subst hop;exact hc
 ·have:=g?_size hi
  subst hu
  simp at this
  omega
variable {c m : Nat}
theorem Shut.keep (H:Shut So Sr k B c m t) (hM:MidC So Sr k B (t ++ u)) (hu:∀ op ∈ u,op.g ≠ k ∨ op.act.touch?=none):Shut So Sr k B c m (t ++ u):=by
 obtain ⟨_,h1,h2,h3,h4⟩:=H
 have hlt:=g?_size h2
 refine ⟨hM,by rw [act?_old hlt];exact h1,by rw [Go.Conc.g?_old hlt];exact h2,(heard_old hlt).2 h3,fun i hi ht=>?_⟩
 obtain ⟨op,hop,hg⟩:=g?_op hi
 rcases getElem?_append_cases hop with ⟨hil,hop'⟩|⟨_,hopu⟩
 ·exact h4 i (by rw [g?_of hop',hg]) (by rwa [touchAt_of hop',← touchAt_of hop])
 ·rcases hu op hopu with x|x
  ·exact absurd hg x
  ·rw [touchAt_of hop,x] at ht;exact absurd rfl ht
theorem Shut.mono {B' : Nat} (H:Shut So Sr k B c m t) (hB:B<=B'):Shut So Sr k B' c m t:=⟨H.1.mono hB,H.2⟩
theorem Shut.take (H:Shut So Sr k B c m t) (hk:k ≠ 0) (f0:FuncId) (p0:String) (hc:c<B):Past NoShun B (t ++ #[{ g:=0,fn:=f0,pos:=p0,act:=.recvClosed c }]):=by
 obtain ⟨hM,h1,h2,h3,h4⟩:=H
 generalize hu:(#[{ g:=0,fn:=f0,pos:=p0,act:=.recvClosed c }]:Trace)=u
 have hlt:=g?_size h2
 have hn:∀ op ∈ u,op.act.touch?=none:=by
  intro op hop;subst hu
  simp only [List.mem_toArray,List.mem_cons,List.not_mem_nil,or_false] at hop
  subst hop;rfl
 have hq:∀ g,∀ op ∈ u,∀ d,deafStep g d op=d:=by
  intro g op hop d;subst hu
  simp only [List.mem_toArray,List.mem_cons,List.not_mem_nil,or_false] at hop
  subst hop;rfl
 have e0:(t ++ u)[t.size]?=some { g:=0,fn:=f0,pos:=p0,act:=.recvClosed c }:=by subst hu;simp
 have edge:HappensBefore (t ++ u) m t.size :=
  Relation.TransGen.single (.inr ⟨.closed (by rw [act?_old hlt];exact h1) (act?_of e0),(heard_old hlt).2 h3,⟨0,g?_of e0,by rw [deaf_old (Nat.le_refl _)];exact hM.hears0⟩⟩)
 -- what k touched is ahead of the receive
 have ahead:∀ i,t.g? i=some k->touchAt t i ≠ none->HappensBefore (t ++ u) i t.size:=by
  intro i hi ht
  have hle:=h4 i hi ht
  obtain ⟨x,hx,hxg⟩:=g?_op hi
  obtain ⟨y,hy,hyg⟩:=g?_op h2
  rcases Nat.lt_or_ge i m with hl|hge
  ·exact (hb_app u (hb_po hl hx hy (hxg.trans hyg.symm))).trans edge
  ·obtain rfl:i=m:=by omega
   exact edge
 refine ⟨fun said=>noRace_appendMute (hM.clean said) hn,fun i a ha hm=>.inl ?_,fun i g hg h0 hcn=>?_,(Deaf_quiet (hq 0)).trans hM.hears0,seen_app hM.seen fun op hop=>?_⟩
 ·obtain ⟨x,hx,hxa⟩:=touch_of ha
  rcases getElem?_append_cases hx with ⟨hi,hx'⟩|⟨_,hxu⟩
  ·have hta:touchAt t i=some a:=by rw [touchAt_of hx'];exact hxa
   rcases hM.known0 i a hta hm with y|⟨y,_⟩
   ·exact y.app u
   ·exact ⟨t.size,_,e0,rfl,.inr (ahead i y (by rw [hta];simp))⟩
  ·rw [hn x hxu] at hxa;cases hxa
 ·by_cases hgk:g=k
  ·subst hgk
   obtain ⟨x,hx,hx2⟩:=hcn
   obtain ⟨op,hop,hox⟩:=touch_of hx
   rcases getElem?_append_cases hop with ⟨hi,hop'⟩|⟨_,hopu⟩
   ·exact ⟨t.size,g?_of e0,ahead i (by rw [<- Go.Conc.g?_old (u:=u) hi];exact hg) (by rw [touchAt_of hop',hox];simp)⟩
   ·rw [hn op hopu] at hox;cases hox
  ·exact over_app hM.over (fun op hop=>.inr (.inr (hn op hop))) i g hg h0 hgk hcn
 ·subst hu
  simp only [List.mem_toArray,List.mem_cons,List.not_mem_nil,or_false] at hop
  subst hop;exact hc
end Go.Proofs.YtgnbibinclepcaaGreatDoor.Lf
set_option linter.unusedVariables false
set_option linter.unusedSimpArgs false
namespace Go.Proofs.YtgnbibinclepcaaGreatDoor.Lf
open Go.Conc
open Go.ConcN (sumTo upd sumTo_upd upd_ne upd_same)
/-! ### scripts: goroutine 0 receives, goroutine k sends; the sender has a cell of its own (block Ct) and reads one more (block Cp) -/
def InBlock (b:Nat):Loc->Prop
 | .cell a=>a.block=b
 | _=>False
structure RelM (c Ct:Nat) (w w₁:World):Prop where
 tape:w₁.tape=w.tape
 os:w₁.os=w.os
 output:w₁.output=w.output
 size:w₁.heap.size=w.heap.size
 block:∀ j,j ≠ c->j ≠ Ct->w₁.heap[j]?=w.heap[j]?
structure RelS (Ct Cp:Nat) (w w₁:World):Prop where
 ct:w₁.heap[Ct]?=w.heap[Ct]?
 cp:w₁.heap[Cp]?=w.heap[Cp]?
theorem RelM.refl (c Ct:Nat) (w:World):RelM c Ct w w:=⟨rfl,rfl,rfl,rfl,fun _ _ _=>rfl⟩
theorem RelM.trans {c Ct:Nat} (a b d:World) (h:RelM c Ct a b) (h' : RelM c Ct b d):RelM c Ct a d :=
 ⟨h'.tape.trans h.tape,h'.os.trans h.os,h'.output.trans h.output,h'.size.trans h.size,fun j h1 h2=>(h'.block j h1 h2).trans (h.block j h1 h2)⟩
theorem RelM.at (c Ct:Nat) (w:World) (d:Nat):RelM c Ct w (w.at d):=⟨rfl,rfl,rfl,rfl,fun _ _ _=>rfl⟩
theorem RelM.put (c Ct:Nat) (w:World) (o:Obj):RelM c Ct w { w with heap:=w.heap.setIfInBounds c o }:=⟨rfl,rfl,rfl,by simp,fun j h1 _=>by simp [Ne.symm h1]⟩
theorem RelM.aside {c Ct:Nat} {w w₁:World} (h:Aside Ct w w₁):RelM c Ct w w₁:=⟨h.tape,h.os,h.output,h.size,fun j _ h2=>h.block j h2⟩
theorem RelS.refl (Ct Cp:Nat) (w:World):RelS Ct Cp w w:=⟨rfl,rfl⟩
theorem RelS.trans {Ct Cp:Nat} (a b d:World) (h:RelS Ct Cp a b) (h' : RelS Ct Cp b d):RelS Ct Cp a d:=⟨h'.ct.trans h.ct,h'.cp.trans h.cp⟩
theorem RelS.at (Ct Cp:Nat) (w:World) (d:Nat):RelS Ct Cp w (w.at d):=⟨rfl,rfl⟩
theorem RelS.put {c Ct Cp:Nat} (h1:c ≠ Ct) (h2:c ≠ Cp) (w:World) (o:Obj):RelS Ct Cp w { w with heap:=w.heap.setIfInBounds c o }:=⟨by simp [h1],by simp [h2]⟩
def SrP (c Cp:Nat) (l:Loc):Prop:=InBlock Cp l ∨ l=.obj c
def EvM (c Ct Cp:Nat) (e:Event):Prop:=∀ x,(MemAct.ofEvent e).touch?=some x->¬ InBlock Ct x.loc/\(SrP c Cp x.loc->x.write=false)
def EvS (c Ct Cp:Nat) (e:Event):Prop:=∀ x,(MemAct.ofEvent e).touch?=some x->InBlock Ct x.loc ∨ (x.write=false/\SrP c Cp x.loc)
structure DM (c Ct Cp:Nat) (w w' : World) (es:Array Event):Prop where
 tape:w'.tape=w.tape
 ch:w'.heap[c]?=w.heap[c]?
 ct:w'.heap[Ct]?=w.heap[Ct]?
 cp:w'.heap[Cp]?=w.heap[Cp]?
 quiet:Quiet es
 evs:∀ e ∈ es,EvM c Ct Cp e
structure DS (c Ct Cp:Nat) (w w' : World) (es:Array Event):Prop where
 aside:Aside Ct w w'
 quiet:Quiet es
 evs:∀ e ∈ es,EvS c Ct Cp e
section
variable (P : Program) (c Ct Cp : Nat) (z : Value)
def AtRecvM (Next:Goroutine->World->Prop) (g:Goroutine) (w:World):Prop :=
 g.status=.running/\∃ es,stepG P true g w=.comm (core g) #[rcase c z] true (.recv true) w es/\Quiet es/\(∀ e ∈ es,EvM c Ct Cp e)/\∀ w₂,RelM c Ct w w₂->Next (core g) w₂
def RecvsM (Fin:Goroutine->World->Prop):List Value->Goroutine->World->Prop
 | [],g,w=>∃ n,Goes P true (RelM c Ct) (DM c Ct Cp) (AtRecvM P c Ct Cp z fun g₂ w₂=>Fin (Go.Conc.served g₂ (.tuple #[z,.bool false])) w₂) n g w
 | v::vs,g,w=>∃ n,Goes P true (RelM c Ct) (DM c Ct Cp) (AtRecvM P c Ct Cp z fun g₂ w₂=>RecvsM Fin vs (Go.Conc.served g₂ (.tuple #[v,.bool true])) w₂) n g w
def StopM (Fin:Goroutine->World->Prop):List Value->Goroutine->World->Prop
 | []=>AtRecvM P c Ct Cp z fun g₂ w₂=>Fin (Go.Conc.served g₂ (.tuple #[z,.bool false])) w₂
 | v::vs=>AtRecvM P c Ct Cp z fun g₂ w₂=>RecvsM P c Ct Cp z Fin vs (Go.Conc.served g₂ (.tuple #[v,.bool true])) w₂
theorem recvsM_iff (Fin:Goroutine->World->Prop) (vs:List Value) (g:Goroutine) (w:World) :
  RecvsM P c Ct Cp z Fin vs g w ↔ ∃ n,Goes P true (RelM c Ct) (DM c Ct Cp) (StopM P c Ct Cp z Fin vs) n g w:=by
 cases vs <;> exact Iff.rfl
def AtSendS (v:Value) (Next:Goroutine->World->Prop) (g:Goroutine) (w:World):Prop :=
 g.status=.running/\∃ g₂ z es,stepG P false g w=.comm g₂ #[scase c v z] true .send w es/\Quiet es/\(∀ e ∈ es,EvS c Ct Cp e)/\∀ w₂,RelS Ct Cp w w₂->Next (Go.Conc.served g₂ undef) w₂
def AtCloseS (g:Goroutine) (w:World):Prop :=
 g.status=.running/\mayWake P g=true/\∃ (g₂:Goroutine) (es:Array Event) (n:Nat),(∀ s r tm,w.heap[c]?=some (.chan 0 #[] false s r tm)->stepG P false g w=.go g₂ (w.shut c s r tm) (es.push ⟨.obj c,true,true⟩)) ∧
  Quiet es/\(∀ e ∈ es,EvS c Ct Cp e)/\QuitsD P n 0 g₂
def SendsS:List Value->Goroutine->World->Prop
 | [],g,w=>∃ n,Goes P false (RelS Ct Cp) (DS c Ct Cp) (AtCloseS P c Ct Cp) n g w
 | v::vs,g,w=>∃ n,Goes P false (RelS Ct Cp) (DS c Ct Cp) (AtSendS P c Ct Cp v (SendsS vs)) n g w
def StopS:List Value->Goroutine->World->Prop
 | []=>AtCloseS P c Ct Cp
 | v::vs=>AtSendS P c Ct Cp v (SendsS P c Ct Cp vs)
theorem sendsS_iff (vs:List Value) (g:Goroutine) (w:World):SendsS P c Ct Cp vs g w ↔ ∃ n,Goes P false (RelS Ct Cp) (DS c Ct Cp) (StopS P c Ct Cp vs) n g w:=by
 cases vs <;> exact Iff.rfl
def SitM (Fin:Goroutine->World->Prop) (vs:List Value) (ra:Nat) (a:Goroutine) (w:World):Prop :=
 (∃ n,ra=n+1/\Goes P true (RelM c Ct) (DM c Ct Cp) (StopM P c Ct Cp z Fin vs) n a w) ∨
 (ra=0/\∃ g,a=parked (core g) #[rcase c z] (.recv true)/\∀ w₁,RelM c Ct w w₁->StopM P c Ct Cp z Fin vs g w₁)
def SitS (vs:List Value) (rb:Nat) (b:Goroutine) (w:World):Prop :=
 (∃ n,rb=n+1/\Goes P false (RelS Ct Cp) (DS c Ct Cp) (StopS P c Ct Cp vs) n b w) ∨
 (rb=0/\∃ v vs' g₂ z',vs=v::vs' /\ b=parked g₂ #[scase c v z'] .send/\∀ w₁,RelS Ct Cp w w₁->SendsS P c Ct Cp vs' (Go.Conc.served g₂ undef) w₁)
end
section
variable {P : Program} {c Ct Cp : Nat} {z : Value} {Fin : Goroutine -> World -> Prop}
theorem StopM.running {vs:List Value} {g:Goroutine} {w:World} (h:StopM P c Ct Cp z Fin vs g w):g.status=.running:=by cases vs <;> exact h.1
theorem StopS.running {vs:List Value} {g:Goroutine} {w:World} (h:StopS P c Ct Cp vs g w):g.status=.running:=by cases vs <;> exact h.1
theorem StopM.comm {vs:List Value} {g:Goroutine} {w:World} (h:StopM P c Ct Cp z Fin vs g w):∃ es,stepG P true g w=.comm (core g) #[rcase c z] true (.recv true) w es/\Quiet es/\∀ e ∈ es,EvM c Ct Cp e:=by
 cases vs <;> exact let ⟨_,es,h1,h2,h3,_⟩:=h;⟨es,h1,h2,h3⟩
theorem StopM.cons {v:Value} {vs:List Value} {g:Goroutine} {w:World} (h:StopM P c Ct Cp z Fin (v::vs) g w):∀ w₂,RelM c Ct w w₂->RecvsM P c Ct Cp z Fin vs (Go.Conc.served (core g) (.tuple #[v,.bool true])) w₂ :=
 let ⟨_,_,_,_,_,h3⟩:=h;h3
theorem StopM.nil {g:Goroutine} {w:World} (h:StopM P c Ct Cp z Fin [] g w):∀ w₂,RelM c Ct w w₂->Fin (Go.Conc.served (core g) (.tuple #[z,.bool false])) w₂ :=
 let ⟨_,_,_,_,_,h3⟩:=h;h3
theorem StopM.again {vs:List Value} {g:Goroutine} {w:World} (h:StopM P c Ct Cp z Fin vs g w):StopM P c Ct Cp z Fin vs { parked (core g) #[rcase c z] (.recv true) with status:=.running } w:=by
 have e:stepG P true { parked (core g) #[rcase c z] (.recv true) with status:=.running } w=stepG P true g w:=stepG_same rfl rfl rfl w
 cases vs <;> exact let ⟨_,es,h1,h2,h3,h4⟩:=h;⟨rfl,es,by rw [e];exact h1,h2,h3,h4⟩
theorem SitM.rely {vs:List Value} {ra:Nat} {a:Goroutine} {w w₁:World} (h:SitM P c Ct Cp z Fin vs ra a w) (hr:RelM c Ct w w₁):SitM P c Ct Cp z Fin vs ra a w₁:=by
 rcases h with ⟨n,e,hg⟩|⟨e,g,ea,hs⟩
 ·exact .inl ⟨n,e,Goes.rely RelM.trans hg hr⟩
 ·exact .inr ⟨e,g,ea,fun w₂ h₂=>hs w₂ (RelM.trans _ _ _ hr h₂)⟩
theorem SitS.rely {vs:List Value} {rb:Nat} {b:Goroutine} {w w₁:World} (h:SitS P c Ct Cp vs rb b w) (hr:RelS Ct Cp w w₁):SitS P c Ct Cp vs rb b w₁:=by
 rcases h with ⟨n,e,hg⟩|⟨e,v,vs',g₂,z',e1,e2,hs⟩
 ·exact .inl ⟨n,e,Goes.rely RelS.trans hg hr⟩
 ·exact .inr ⟨e,v,vs',g₂,z',e1,e2,fun w₂ h₂=>hs w₂ (RelS.trans _ _ _ hr h₂)⟩
theorem SitM.status {vs:List Value} {ra:Nat} {a:Goroutine} {w:World} (h:SitM P c Ct Cp z Fin vs ra a w):(a.status=.running/\0<ra) ∨ (a.status=.blocked/\ra=0):=by
 rcases h with ⟨n,e,hg⟩|⟨e,g,rfl,_⟩
 ·exact .inl ⟨hg.running (fun _ _=>StopM.running) w (RelM.refl c Ct w),by omega⟩
 ·exact .inr ⟨rfl,e⟩
theorem SitS.status {vs:List Value} {rb:Nat} {b:Goroutine} {w:World} (h:SitS P c Ct Cp vs rb b w):(b.status=.running/\0<rb) ∨ (b.status=.blocked/\rb=0):=by
 rcases h with ⟨n,e,hg⟩|⟨e,v,vs',g,z',_,rfl,_⟩
 ·exact .inl ⟨hg.running (fun _ _=>StopS.running) w (RelS.refl Ct Cp w),by omega⟩
 ·exact .inr ⟨rfl,e⟩
theorem SitM.woken {vs:List Value} {ra:Nat} {a g g' : Goroutine} {w w' : World} {s r:Nat} {tm:Bool} (h:SitM P c Ct Cp z Fin vs ra a w) (hc:w'.heap[c]?=some (.chan 0 #[] false s r tm)):woken P g g' w' a=a:=by
 rcases h with ⟨n,e,hg⟩|⟨e,g,rfl,_⟩
 ·exact Go.Conc.woken_run (hg.running (fun _ _=>StopM.running) w (RelM.refl c Ct w))
 ·exact woken_recv_open _ _ hc
theorem SitS.woken {vs:List Value} {rb:Nat} {b g g' : Goroutine} {w w' : World} {s r:Nat} {tm:Bool} (h:SitS P c Ct Cp vs rb b w) (hc:w'.heap[c]?=some (.chan 0 #[] false s r tm)):woken P g g' w' b=b:=by
 rcases h with ⟨n,e,hg⟩|⟨e,v,vs',g,z',_,rfl,_⟩
 ·exact Go.Conc.woken_run (hg.running (fun _ _=>StopS.running) w (RelS.refl Ct Cp w))
 ·exact woken_send_open _ _ hc
/-! ### the crowd -/
theorem crowd_set {gs:Array Goroutine} {i:Nat} {g g' : Goroutine} {w' : World} (hw:∀ j x,j ≠ i->gs[j]?=some x->woken P g g' w' x=x):(gs.map (woken P g g' w')).setIfInBounds i g' = gs.setIfInBounds i g':=by
 apply Array.ext_getElem?
 intro j
 by_cases hj:i=j
 ·subst hj
  by_cases hlt:i<gs.size
  ·rw [Array.getElem?_setIfInBounds_self_of_lt (by simpa using hlt),Array.getElem?_setIfInBounds_self_of_lt hlt]
  ·rw [Array.getElem?_eq_none (by simpa using hlt),Array.getElem?_eq_none (by simpa using hlt)]
 ·rw [Array.getElem?_setIfInBounds_ne hj,Array.getElem?_setIfInBounds_ne hj,Array.getElem?_map]
  cases hx:gs[j]? with
  | none=>rfl
  | some x=>simp [hw j x (Ne.symm hj) hx]
structure Others (P:Program) (t:Trace) (gs:Array Goroutine) (q:Nat->Nat) (k:Nat):Prop where
 old:∀ j x,0<j->j ≠ k->gs[j]?=some x->QuitsD P (q j) (Deaf t j) x
 above:∀ j,gs.size<=j->Deaf t j=0
theorem Others.next {t u:Trace} {gs gs' : Array Goroutine} {q:Nat->Nat} {k:Nat} (h:Others P t gs q k) (h0:0<gs.size) (hk:k<gs.size) (hsz:gs'.size=gs.size) (hg:∀ j,j ≠ 0->j ≠ k->gs'[j]?=gs[j]?)
  (hd:∀ j,j ≠ 0->j ≠ k->Deaf (t ++ u) j=Deaf t j):Others P (t ++ u) gs' q k :=
 ⟨fun j x hj hjk hx=>by rw [hd j (by omega) hjk];exact h.old j x hj hjk (by rw [<- hg j (by omega) hjk];exact hx),fun j hj=>by rw [hd j (by omega) (by omega)];exact h.above j (by omega)⟩
theorem four_mute {a b c' d:MemOp} (ha:a.act.touch?=none) (hb:b.act.touch?=none) (hc:c'.act.touch?=none) (hd:d.act.touch?=none):∀ op ∈ (#[a,b,c',d]:Array MemOp),op.act.touch?=none:=by
 intro op hop
 simp only [List.mem_toArray,List.mem_cons,List.not_mem_nil,or_false] at hop
 rcases hop with rfl|rfl|rfl|rfl <;> assumption
theorem four_quiet {a b c' d:MemOp} (g:Nat) (ha:∀ n,deafStep g n a=n) (hb:∀ n,deafStep g n b=n) (hc:∀ n,deafStep g n c' = n) (hd:∀ n,deafStep g n d=n):∀ op ∈ (#[a,b,c',d]:Array MemOp),∀ n,deafStep g n op=n:=by
 intro op hop
 simp only [List.mem_toArray,List.mem_cons,List.not_mem_nil,or_false] at hop
 rcases hop with rfl|rfl|rfl|rfl <;> assumption
theorem four_low {B:Nat} {a b c' d:MemOp} (ha:a.act.low B) (hb:b.act.low B) (hc:c'.act.low B) (hd:d.act.low B):∀ op ∈ (#[a,b,c',d]:Array MemOp),op.act.low B:=by
 intro op hop
 simp only [List.mem_toArray,List.mem_cons,List.not_mem_nil,or_false] at hop
 rcases hop with rfl|rfl|rfl|rfl <;> assumption
theorem ofEvents_g {g:Nat} {fn:FuncId} {pos:String} {es:Array Event}:∀ op ∈ MemOp.ofEvents g fn pos es,op.g=g:=fun op hop=>by obtain ⟨e,_,rfl⟩:=Go.Conc.mem_ofEvents hop;rfl
theorem Mid.evM {k B:Nat} {t:Trace} (H:Mid (InBlock Ct) (SrP c Cp) k B t) (hk:k ≠ 0) {fn:FuncId} {pos:String} {es:Array Event} (hq:Quiet es) (he:∀ e ∈ es,EvM c Ct Cp e) :
  ∃ B',B<=B' /\ Mid (InBlock Ct) (SrP c Cp) k B' (t ++ MemOp.ofEvents 0 fn pos es):=by
 obtain ⟨B',h1,h2⟩:=ops_low (MemOp.ofEvents 0 fn pos es) B
 exact ⟨B',h1,(H.mono h1).app0 hk ofEvents_g (fun op hop=>by obtain ⟨e,hm,rfl⟩:=Go.Conc.mem_ofEvents hop;exact he e hm) (by rw [Deaf_own];exact hq _) h2⟩
theorem MidC.evM {k B:Nat} {t:Trace} (H:MidC (InBlock Ct) (SrP c Cp) k B t) {fn:FuncId} {pos:String} {es:Array Event} (hq:Quiet es) (he:∀ e ∈ es,EvM c Ct Cp e) :
  ∃ B',B<=B' /\ MidC (InBlock Ct) (SrP c Cp) k B' (t ++ MemOp.ofEvents 0 fn pos es):=by
 obtain ⟨B',h1,h2⟩:=ops_low (MemOp.ofEvents 0 fn pos es) B
 exact ⟨B',h1,(H.mono h1).app0 ofEvents_g (fun op hop=>by obtain ⟨e,hm,rfl⟩:=Go.Conc.mem_ofEvents hop;exact he e hm) (by rw [Deaf_own];exact hq _) h2⟩
theorem Mid.evS {k B:Nat} {t:Trace} (H:Mid (InBlock Ct) (SrP c Cp) k B t) (hk:k ≠ 0) {fn:FuncId} {pos:String} {es:Array Event} (hq:Quiet es) (he:∀ e ∈ es,EvS c Ct Cp e) :
  ∃ B',B<=B' /\ Mid (InBlock Ct) (SrP c Cp) k B' (t ++ MemOp.ofEvents k fn pos es):=by
 obtain ⟨B',h1,h2⟩:=ops_low (MemOp.ofEvents k fn pos es) B
 exact ⟨B',h1,(H.mono h1).appK hk ofEvents_g (fun op hop=>by obtain ⟨e,hm,rfl⟩:=Go.Conc.mem_ofEvents hop;exact he e hm) (by rw [Deaf_own];exact hq _) h2⟩
theorem to_aim {Inv:Nat × Nat->Machine->Trace->Prop} {Aim:Machine->Trace->Prop}
  (hstep:∀ μ m t,Inv μ m t->∃ m' ops,stepT P m=(.next m',ops)/\(Aim m' (t ++ ops) ∨ ∃ μ',Lt2 μ' μ/\Inv μ' m' (t ++ ops))) :
  ∀ (μ:Nat × Nat) (m:Machine) (t:Trace),Inv μ m t->∃ N m' t',runNT P N m t=(.next m',t')/\Aim m' t':=by
 intro μ
 induction μ using (Prod.lex Nat.lt_wfRel Nat.lt_wfRel).wf.induction with
 | h μ ih =>
  intro m t hI
  obtain ⟨m',ops,h1,h2⟩:=hstep μ m t hI
  rcases h2 with h2|⟨μ',h3,h4⟩
  ·exact ⟨1,m',t ++ ops,by simp only [runNT,h1],h2⟩
  ·obtain ⟨N,m'',t',h5,h6⟩:=ih μ' h3 m' _ h4
   exact ⟨N+1,m'',t',by simp only [runNT,h1];exact h5,h6⟩
end
end Go.Proofs.YtgnbibinclepcaaGreatDoor.Lf
set_option linter.unusedVariables false
set_option linter.unusedSimpArgs false
namespace Go.Proofs.YtgnbibinclepcaaGreatDoor.Lf
open Go.Conc
open Go.ConcN (sumTo upd sumTo_upd upd_ne upd_same)
section
variable (P : Program) (c Ct Cp : Nat) (z : Value) (Fin : Goroutine -> World -> Prop) (k B0 sz : Nat) (T : Nat -> Question -> Nat)
inductive PInv:Nat × Nat->Machine->Trace->Prop
 | opn (vs:List Value) (gs:Array Goroutine) (a b:Goroutine) (w:World) (sl:Option (Nat × Nat)) (t:Trace) (s r:Nat) (tm:Bool) (ra rb B:Nat) (q:Nat->Nat)
   (hT:w.tape=T) (hsz:gs.size=sz) (ha:gs[0]?=some a) (hb:gs[k]?=some b) (hc:w.heap[c]?=some (.chan 0 #[] false s r tm)) (hA:SitM P c Ct Cp z Fin vs ra a w) (hB:SitS P c Ct Cp vs rb b w) (hpos:0<ra+rb)
   (hO:Others P t gs q k) (hM:Mid (InBlock Ct) (SrP c Cp) k B t) (hB0:B0<=B):PInv (vs.length+2,ra+rb+sumTo sz q) (crowd gs w sl) t
 | shut (gs:Array Goroutine) (a:Goroutine) (w:World) (sl:Option (Nat × Nat)) (t:Trace) (s r:Nat) (tm:Bool) (n B m:Nat) (q:Nat->Nat)
   (hT:w.tape=T) (hsz:gs.size=sz) (ha:gs[0]?=some a) (hc:w.heap[c]?=some (.chan 0 #[] true s r tm)) (hA:Goes P true (RelM c Ct) (DM c Ct Cp) (StopM P c Ct Cp z Fin []) n a w)
   (hL:Leavers P t gs q) (hS:Shut (InBlock Ct) (SrP c Cp) k B c m t) (hB0:B0<=B):PInv (1,n+sumTo sz q) (crowd gs w sl) t
def PAim (m:Machine) (t:Trace):Prop :=
 ∃ gs a w sl q B,m=crowd gs w sl/\gs.size=sz/\gs[0]?=some a/\Fin a w/\Leavers P t gs q/\B0<=B/\Past NoShun B t/\w.tape=T
end
section
variable {P : Program} {c Ct Cp : Nat} {z : Value} {Fin : Goroutine -> World -> Prop} {k B0 sz : Nat} {T : Nat -> Question -> Nat}
theorem wk_rf {g g' b:Goroutine} {w' : World} (h:b.status=.running ∨ b.status=.finished):woken P g g' w' b=b:=by
 unfold Go.Conc.woken
 split
 ·exact again_running _ h
 ·rfl
theorem pick_slip {t:Trace} {gs:Array Goroutine} {q:Nat->Nat} {i:Nat} {g:Goroutine} {w:World} {sl:Option (Nat × Nat)} (hi:gs[i]?=some g) (hpos:0<i) (hg:g.status=.running) (hQ:QuitsD P (q i) (Deaf t i) g) (hw:∀ j x,j ≠ i->gs[j]?=some x->∀ g g' , woken P g g' w x=x) :
  ∃ (g' : Goroutine) (es:Array Event) (n:Nat),(∀ e ∈ es,e.mute=true)/\runT P (crowd gs w sl) i=(.next (crowd (gs.setIfInBounds i g') w sl),MemOp.ofEvents i g.frame.fn g.frame.place es) ∧
   QuitsD P n (Deaf (t ++ MemOp.ofEvents i g.frame.fn g.frame.place es) i) g' /\ sumTo gs.size (upd q i n)<sumTo gs.size q:=by
 have hi0:(i == 0)=false:=by simp;omega
 have hlt:i<gs.size:=(Array.getElem?_eq_some_iff.1 hi).1
 cases hqi:q i with
 | zero=>rw [hqi] at hQ;rw [hQ.1] at hg;cases hg
 | succ n =>
  rw [hqi] at hQ
  rcases hQ with ⟨hf,_⟩|⟨_,g',es,hm,hstp,hq'⟩
  ·rw [hf] at hg;cases hg
  have hrunT:=runT_crowd_go (P:=P) (sl:=sl) (i:=i) hi (by rw [hi0];exact hstp w)
  rw [crowd_set (fun j x hj hx=>hw j x hj hx _ _)] at hrunT
  have hsum:sumTo gs.size (upd q i n)+(n+1)=sumTo gs.size q+n:=by
   have:=sumTo_upd q n id hlt
   simpa [hqi] using this
  exact ⟨g',es,n,hm,hrunT,by rw [Deaf_own];exact hq',by omega⟩
theorem mute_evs {t:Trace} {i:Nat} {fn:FuncId} {pos:String} {es:Array Event} (hm:∀ e ∈ es,e.mute=true) (B:Nat) :
  (∀ op ∈ MemOp.ofEvents i fn pos es,op.act.touch?=none)/\(∀ op ∈ MemOp.ofEvents i fn pos es,op.act.low B) :=
 ⟨fun op hop=>by obtain ⟨e,he,rfl⟩:=Go.Conc.mem_ofEvents hop;exact touch_mute (hm e he),fun op hop=>by obtain ⟨e,he,rfl⟩:=Go.Conc.mem_ofEvents hop;exact low_mute (hm e he) B⟩
theorem Others.slip {t:Trace} {gs:Array Goroutine} {q:Nat->Nat} {i n:Nat} {g' : Goroutine} {fn:FuncId} {pos:String} {es:Array Event} (h:Others P t gs q k) (hlt:i<gs.size)
  (hq:QuitsD P n (Deaf (t ++ MemOp.ofEvents i fn pos es) i) g'):Others P (t ++ MemOp.ofEvents i fn pos es) (gs.setIfInBounds i g') (upd q i n) k:=by
 refine ⟨fun j x hj hjk hx=>?_,fun j hj=>?_⟩
 ·by_cases hji:i=j
  ·subst hji
   rw [Array.getElem?_setIfInBounds_self_of_lt hlt] at hx
   obtain rfl:=Option.some.inj hx
   rw [upd_same]
   exact hq
  ·rw [Array.getElem?_setIfInBounds_ne hji] at hx
   rw [upd_ne q n (Ne.symm hji),Deaf_other t hji _ ofEvents_g]
   exact h.old j x hj hjk hx
 ·have:i ≠ j:=by simp at hj;omega
  rw [Deaf_other t this _ ofEvents_g]
  exact h.above j (by simpa using hj)
theorem Others.setOne {t u:Trace} {gs:Array Goroutine} {q:Nat->Nat} {i:Nat} {g' : Goroutine} (h:Others P t gs q k) (h0:0<gs.size) (hk:k<gs.size) (hi:i=0 ∨ i=k) (hd:∀ j,j ≠ 0->j ≠ k->Deaf (t ++ u) j=Deaf t j) :
  Others P (t ++ u) (gs.setIfInBounds i g') q k:=h.next h0 hk (by simp) (fun j hj hjk=>by rw [Array.getElem?_setIfInBounds_ne (by rcases hi with rfl|rfl <;> omega)]) hd
theorem Others.setTwo {t u:Trace} {gs:Array Goroutine} {q:Nat->Nat} {i i' : Nat} {g g' : Goroutine} (h:Others P t gs q k) (h0:0<gs.size) (hk:k<gs.size) (hi:i=0 ∨ i=k) (hi' : i' = 0 ∨ i' = k) (hd:∀ j,j ≠ 0->j ≠ k->Deaf (t ++ u) j=Deaf t j) :
  Others P (t ++ u) ((gs.setIfInBounds i g).setIfInBounds i' g') q k:=h.next h0 hk (by simp) (fun j hj hjk=>by rw [Array.getElem?_setIfInBounds_ne (by rcases hi' with rfl|rfl <;> omega),Array.getElem?_setIfInBounds_ne (by rcases hi with rfl|rfl <;> omega)]) hd
theorem others_awake {t:Trace} {gs:Array Goroutine} {q:Nat->Nat} {a b:Goroutine} (h:Others P t gs q k) (ha:gs[0]?=some a) (hb:gs[k]?=some b) (sa:a.status=.running ∨ a.status=.blocked) (sb:b.status=.running ∨ b.status=.blocked):∀ g ∈ gs,awake g:=by
 intro g hg
 obtain ⟨i,hi⟩:=Array.mem_iff_getElem?.1 hg
 by_cases h0:i=0
 ·subst h0;rw [ha] at hi;cases hi;exact awake_of (sa.elim .inl fun x=>.inr (.inl x))
 by_cases hk:i=k
 ·subst hk;rw [hb] at hi;cases hi;exact awake_of (sb.elim .inl fun x=>.inr (.inl x))
 exact awake_of ((h.old i g (by omega) hk hi).status.elim .inl fun x=>.inr (.inr x))
theorem no_offers {x:Goroutine} (h:x.status=.running ∨ x.status=.finished) (r:Nat) (d:Bool):offersAt x r d=[]:=offersAt_of_not_blocked (by rcases h with h|h <;> rw [h] <;> simp) r d
theorem Mid.four {t:Trace} {B:Nat} {a b c' d:MemOp} (H:Mid (InBlock Ct) (SrP c Cp) k B t) (ha:a.act.touch?=none) (hb:b.act.touch?=none) (hc:c'.act.touch?=none) (hd:d.act.touch?=none)
  (qa:∀ g n,deafStep g n a=n) (qb:∀ g n,deafStep g n b=n) (qc:∀ g n,deafStep g n c' = n) (qd:∀ g n,deafStep g n d=n) (la:a.act.low B) (lb:b.act.low B) (lc:c'.act.low B) (ld:d.act.low B) :
  Mid (InBlock Ct) (SrP c Cp) k B (t ++ #[a,b,c',d])/\∀ g,Deaf (t ++ #[a,b,c',d]) g=Deaf t g :=
 have hq:∀ g,Deaf (t ++ #[a,b,c',d]) g=Deaf t g:=fun g=>Deaf_quiet (four_quiet g (qa g) (qb g) (qc g) (qd g))
 ⟨H.appMute (four_mute ha hb hc hd) (hq 0) (hq k) (four_low la lb lc ld),hq⟩
theorem deafBehind_push (d:Nat) (es:Array Event) (c:Nat):deafBehind d (es.push ⟨.obj c,true,true⟩)=deafBehind d es:=by
 obtain ⟨l⟩:=es
 simp [deafBehind]
theorem step_opn' (hk:k ≠ 0) (hCt:c ≠ Ct) (hCp:c ≠ Cp) (hcB:c<B0) {vs:List Value} {gs:Array Goroutine} {a b:Goroutine} {w:World} {sl:Option (Nat × Nat)} {t:Trace} {s r:Nat} {tm:Bool} {ra rb B:Nat} {q:Nat->Nat}
  (hT:w.tape=T) (hsz:gs.size=sz) (ha:gs[0]?=some a) (hb:gs[k]?=some b) (hc:w.heap[c]?=some (.chan 0 #[] false s r tm)) (hA:SitM P c Ct Cp z Fin vs ra a w) (hB:SitS P c Ct Cp vs rb b w) (hpos:0<ra+rb)
  (hO:Others P t gs q k) (hM:Mid (InBlock Ct) (SrP c Cp) k B t) (hB0:B0<=B) :
  ∃ m' ops,stepT P (crowd gs w sl)=(.next m',ops)/\∃ μ',Lt2 μ' (vs.length+2,ra+rb+sumTo sz q)/\PInv P c Ct Cp z Fin k B0 sz T μ' m' (t ++ ops):=by
 have sA:=hA.status
 have sB:=hB.status
 have h0lt:0<gs.size:=(Array.getElem?_eq_some_iff.1 ha).1
 have hklt:k<gs.size:=(Array.getElem?_eq_some_iff.1 hb).1
 have hk0:(k == 0)=false:=by simp;exact hk
 have some1:∃ (i:Nat) (g:Goroutine),gs[i]?=some g/\g.status=.running:=by
  rcases sA with ⟨h,_⟩|⟨_,h0⟩
  ·exact ⟨0,a,ha,h⟩
  ·rcases sB with ⟨h,_⟩|⟨_,h1⟩
   ·exact ⟨k,b,hb,h⟩
   ·omega
 obtain ⟨i,g,d,sl',hi,hg,hst⟩:=crowd_pick (P:=P) (w:=w) (sl:=sl) (others_awake hO ha hb (sA.imp (·.1) (·.1)) (sB.imp (·.1) (·.1))) some1
 have hAs:RelM c Ct w (w.at d):=RelM.at c Ct w d
 have hSs:RelS Ct Cp w (w.at d):=RelS.at Ct Cp w d
 have hc1:(w.at d).heap[c]?=some (.chan 0 #[] false s r tm):=hc
 have hT1:(w.at d).tape=T:=hT
 have hlt:∀ o,((w.at d).setChan c 0 #[] false (s+1) (r+1) tm).heap[c]?=some (.chan 0 #[] false (s+1) (r+1) tm) ∨ o=0:=fun o=>.inl (heap_put hc1)
 have hc2:((w.at d).setChan c 0 #[] false (s+1) (r+1) tm).heap[c]?=some (.chan 0 #[] false (s+1) (r+1) tm):=heap_put hc1
 have hw2:RelM c Ct (w.at d) ((w.at d).setChan c 0 #[] false (s+1) (r+1) tm):=RelM.put c Ct _ _
 have hs2:RelS Ct Cp (w.at d) ((w.at d).setChan c 0 #[] false (s+1) (r+1) tm):=RelS.put hCt hCp _ _
 have others_no:∀ (j:Nat) (x:Goroutine),j ≠ 0->j ≠ k->gs[j]?=some x->x.status=.running ∨ x.status=.finished:=fun j x h1 h2 hx=>(hO.old j x (by omega) h2 hx).status
 by_cases hi0:i=0
 ·-- GOROUTINE 0 MOVES
  subst hi0
  obtain rfl:g=a:=by rw [ha] at hi;exact (Option.some.inj hi).symm
  rcases hA with ⟨n,rfl,hgo⟩|⟨_,g,rfl,_⟩
  ·rcases hgo.cases with hstop|⟨n',rfl,hstep⟩
   ·have hat:=hstop _ hAs
    obtain ⟨es,hcomm,hqes,hes⟩:=hat.comm
    obtain ⟨B1,b1,hM1⟩:=hM.evM hk (fn:=g.frame.fn) (pos:=g.frame.place) hqes hes
    have hd1:∀ j,j ≠ 0->j ≠ k->Deaf (t ++ MemOp.ofEvents 0 g.frame.fn g.frame.place es) j=Deaf t j:=fun j hj _=>Deaf_other t (Ne.symm hj) _ ofEvents_g
    rcases hB with ⟨n2,rfl,hgb⟩|⟨rfl,v,vs',g₂,z',rfl,rfl,hnext⟩
    ·-- the sender is on its way: it waits
     have hbs:b.status=.running:=hgb.running (fun _ _=>StopS.running) w (RelS.refl Ct Cp w)
     have hno:∀ cc ∈ (#[rcase c z]:Array CommCase),NoWays (w.at d) (gs.setIfInBounds 0 ph) cc:=by
      intro cc hcc
      obtain rfl:cc=rcase c z:=by simpa using hcc
      refine ways_recv_none hc1 (Go.Conc.partners_nil fun j x hx=>?_)
      rcases getElem?_stand gs 0 j x hx with ⟨_,rfl⟩|⟨hj,hx'⟩
      ·exact offersAt_ph _ _
      ·by_cases hjk:j=k
       ·subst hjk;rw [hb] at hx';cases hx';exact no_offers (.inl hbs) _ _
       ·exact no_offers (others_no j x hj hjk hx') _ _
     refine ⟨_,_,hst.trans (crowd_waits (sl:=sl') hi hcomm hno),(vs.length+2,0+(n2+1)+sumTo sz q),.right _ (by omega),?_⟩
     exact .opn vs _ _ b (w.at d) sl' _ s r tm 0 (n2+1) B1 q hT1 (by simpa using hsz) (Array.getElem?_setIfInBounds_self_of_lt h0lt) (by rw [Array.getElem?_setIfInBounds_ne (Ne.symm hk)];exact hb) hc1
      (.inr ⟨rfl,g,rfl,fun w₁ h₁=>hstop w₁ (RelM.trans _ _ _ hAs h₁)⟩) (.inl ⟨n2,rfl,Goes.rely RelS.trans hgb hSs⟩) (by omega) (hO.setOne h0lt hklt (.inl rfl) hd1) hM1 (by omega)
    ·-- the sender waits: both are served
     have hp:partners (gs.setIfInBounds 0 ph) c true=[(k,0)]:=by
      rw [partners_one (j:=k) (g:=parked g₂ #[scase c v z'] .send) (by rw [Array.getElem?_setIfInBounds_ne (Ne.symm hk)];exact hb) fun j x hj hx=>?_]
      ·rw [offersAt_parked_send,if_pos rfl];rfl
      ·rcases getElem?_stand gs 0 j x hx with ⟨_,rfl⟩|⟨hj0,hx'⟩
       ·exact offersAt_ph _ _
       ·exact no_offers (others_no j x hj0 hj hx') _ _
     have hrt:=crowd_recv_meets (sl:=sl') hi hcomm hc1 hk hb hp
     rw [finishComm_send,finishComm_recv] at hrt
     obtain ⟨na,hna⟩:=(recvsM_iff P c Ct Cp z Fin vs' _ _).1 (hat.cons _ hw2)
     obtain ⟨nb,hnb⟩:=(sendsS_iff P c Ct Cp vs' _ _).1 (hnext _ (RelS.trans _ _ _ hSs hs2))
     have hcb:c<B1:=by omega
     refine ⟨_,_,hst.trans hrt,(vs'.length+2,(na+1)+(nb+1)+sumTo sz q),.left _ _ (by simp),?_⟩
     rw [<- Array.append_assoc]
     obtain ⟨hM2,hd2⟩:=hM1.four (a:={ g:=k,fn:=g₂.frame.fn,pos:=g₂.frame.place,act:=.send c s }) (b:={ g:=0,fn:=(core g).frame.fn,pos:=(core g).frame.place,act:=.recv c r 0 }) (c':={ g:=k,fn:=g₂.frame.fn,pos:=g₂.frame.place,act:=.sendDone c s }) (d:={ g:=0,fn:=(core g).frame.fn,pos:=(core g).frame.place,act:=.recvDone c r })
      rfl rfl rfl rfl (fun _ _=>rfl) (fun _ _=>rfl) (fun _ _=>rfl) (fun _ _=>rfl) hcb hcb hcb hcb
     exact .opn vs' _ _ _ _ sl' _ (s+1) (r+1) tm (na+1) (nb+1) B1 q hT1 (by simpa using hsz) (Array.getElem?_setIfInBounds_self_of_lt (by simpa using h0lt)) (by rw [Array.getElem?_setIfInBounds_ne (Ne.symm hk),Array.getElem?_setIfInBounds_self_of_lt hklt]) hc2
      (.inl ⟨na,rfl,hna⟩) (.inl ⟨nb,rfl,hnb⟩) (by omega) (by rw [Array.append_assoc];exact hO.setTwo h0lt hklt (.inr rfl) (.inl rfl) (fun j h1 h2=>by rw [<- Array.append_assoc,hd2 j,hd1 j h1 h2])) hM2 (by omega)
   ·obtain ⟨a',w',es,hgo',hd',hg'⟩:=hstep _ hAs
    have hc' : w'.heap[c]?=some (.chan 0 #[] false s r tm):=hd'.ch.trans hc1
    obtain ⟨B1,b1,hM1⟩:=hM.evM hk (fn:=g.frame.fn) (pos:=g.frame.place) hd'.quiet hd'.evs
    have hrt:=runT_crowd_go (P:=P) (sl:=sl') (i:=0) hi (show stepG P (0 == 0) g (w.at d)=_ from hgo')
    rw [crowd_set (fun j x hj hx=>by
     by_cases hjk:j=k
     ·subst hjk;rw [hb] at hx;cases hx;exact hB.woken hc'
     ·exact wk_rf (others_no j x hj hjk hx))] at hrt
    refine ⟨_,_,hst.trans hrt,(vs.length+2,(n' + 1)+rb+sumTo sz q),.right _ (by omega),?_⟩
    exact .opn vs _ a' b w' sl' _ s r tm (n' + 1) rb B1 q (hd'.tape.trans hT1) (by simpa using hsz) (Array.getElem?_setIfInBounds_self_of_lt h0lt) (by rw [Array.getElem?_setIfInBounds_ne (Ne.symm hk)];exact hb) hc'
     (.inl ⟨n',rfl,hg'⟩) (hB.rely (RelS.trans _ _ _ hSs ⟨hd'.ct,hd'.cp⟩)) (by omega) (hO.setOne h0lt hklt (.inl rfl) fun j hj _=>Deaf_other t (Ne.symm hj) _ ofEvents_g) hM1 (by omega)
  ·simp [parked] at hg
 by_cases hik:i=k
 ·-- THE SENDER MOVES
  subst hik
  obtain rfl:g=b:=by rw [hb] at hi;exact (Option.some.inj hi).symm
  rcases hB with ⟨n,rfl,hgo⟩|⟨_,v,vs',g₂,z',_,rfl,_⟩
  ·rcases hgo.cases with hstop|⟨n',rfl,hstep⟩
   ·have hat:=hstop _ hSs
    cases vs with
    | nil =>
     -- it closes the channel
     obtain ⟨_,hwake,g₂,es,nq,hclose,hqes,hes,hq⟩:=hat
     have hgo':=hclose s r tm hc1
     have hw3:RelM c Ct (w.at d) ((w.at d).shut c s r tm):=RelM.put c Ct _ _
     have hc3:((w.at d).shut c s r tm).heap[c]?=some (.chan 0 #[] true s r tm):=heap_put hc1
     have hA' : ∃ n,Goes P true (RelM c Ct) (DM c Ct Cp) (StopM P c Ct Cp z Fin []) n (woken P g g₂ ((w.at d).shut c s r tm) a) ((w.at d).shut c s r tm):=by
      have hwk:woken P g g₂ ((w.at d).shut c s r tm) a=a.again ((w.at d).shut c s r tm):=by
       unfold Go.Conc.woken;rcases hq.status with h|h <;> simp [hwake,h]
      rw [hwk]
      rcases hA with ⟨n,_,hg0⟩|⟨_,g0,rfl,hs⟩
      ·rw [again_running _ (.inl (hg0.running (fun _ _=>StopM.running) w (RelM.refl c Ct w)))]
       exact ⟨n,Goes.rely RelM.trans hg0 (RelM.trans _ _ _ hAs hw3)⟩
      ·rw [again_recv_closed hc3]
       exact ⟨0,fun w₁ h₁=>(hs w₁ (RelM.trans _ _ _ (RelM.trans _ _ _ hAs hw3) h₁)).again⟩
     obtain ⟨na,hna⟩:=hA'
     have hrt:=runT_crowd_go (P:=P) (sl:=sl') (i:=i) hi (by rw [hk0];exact hgo')
     obtain ⟨B1,b1,hM1⟩:=hM.evS hk (fn:=g.frame.fn) (pos:=g.frame.place) hqes hes
     have hS1:=hM1.shut hk g.frame.fn g.frame.place (c:=c) (by omega)
     have hda:∀ j,i ≠ j->Deaf (t ++ MemOp.ofEvents i g.frame.fn g.frame.place (es.push ⟨.obj c,true,true⟩)) j=Deaf t j:=fun j hj=>Deaf_other t hj _ ofEvents_g
     refine ⟨_,_,hst.trans hrt,(1,na+sumTo sz (upd q i nq)),.left _ _ (by simp),?_⟩
     have hSh:Shut (InBlock Ct) (SrP c Cp) i B1 c (t ++ MemOp.ofEvents i g.frame.fn g.frame.place es).size (t ++ MemOp.ofEvents i g.frame.fn g.frame.place (es.push ⟨.obj c,true,true⟩)):=by
      rw [ofEvents_push,Array.push_eq_append,← Array.append_assoc]
      exact hS1
     refine .shut _ (woken P g g₂ ((w.at d).shut c s r tm) a) _ sl' _ s r tm na B1 _ (upd q i nq) hT1 (by simpa using hsz) ?_ hc3 hna ⟨fun j x hj hx=>?_,fun j hj=>?_⟩ hSh (by omega)
     ·rw [Array.getElem?_setIfInBounds_ne hk,Array.getElem?_map,ha];rfl
     ·by_cases hji:i=j
      ·subst hji
       rw [Array.getElem?_setIfInBounds_self_of_lt (by simpa using hklt)] at hx
       obtain rfl:=Option.some.inj hx
       rw [upd_same,Deaf_own,hM.hearsK,deafBehind_push,hqes]
       exact hq
      ·rw [Array.getElem?_setIfInBounds_ne hji,Array.getElem?_map] at hx
       obtain ⟨y,hy,rfl⟩:=Option.map_eq_some_iff.1 hx
       have hqj:=hO.old j y hj (Ne.symm hji) hy
       rw [woken_quitsD hqj,upd_ne q nq (Ne.symm hji),hda j hji]
       exact hqj
     ·have:i ≠ j:=by simp at hj;omega
      rw [hda j this]
      exact hO.above j (by simpa using hj)
    | cons v vs' =>
     obtain ⟨_,g₂,z',es,hcm,hqes,hes,hnext⟩:=hat
     obtain ⟨B1,b1,hM1⟩:=hM.evS hk (fn:=g.frame.fn) (pos:=g.frame.place) hqes hes
     have hd1:∀ j,j ≠ 0->j ≠ i->Deaf (t ++ MemOp.ofEvents i g.frame.fn g.frame.place es) j=Deaf t j:=fun j _ hj=>Deaf_other t (Ne.symm hj) _ ofEvents_g
     rcases hA with ⟨n2,rfl,hg0⟩|⟨rfl,g0,rfl,hs⟩
     ·-- goroutine 0 is on its way: the sender waits
      have has:a.status=.running:=hg0.running (fun _ _=>StopM.running) w (RelM.refl c Ct w)
      have hno:∀ cc ∈ (#[scase c v z']:Array CommCase),NoWays (w.at d) (gs.setIfInBounds i ph) cc:=by
       intro cc hcc
       obtain rfl:cc=scase c v z':=by simpa using hcc
       refine ways_send_none hc1 (by simp) (Go.Conc.partners_nil fun j x hx=>?_)
       rcases getElem?_stand gs i j x hx with ⟨_,rfl⟩|⟨hj,hx'⟩
       ·exact offersAt_ph _ _
       ·by_cases hj0:j=0
        ·subst hj0;rw [ha] at hx';cases hx';exact no_offers (.inl has) _ _
        ·exact no_offers (others_no j x hj0 hj hx') _ _
      refine ⟨_,_,hst.trans (crowd_waits (sl:=sl') hi (by rw [hk0];exact hcm) hno),((v::vs').length+2,(n2+1)+0+sumTo sz q),.right _ (by omega),?_⟩
      exact .opn (v::vs') _ a _ (w.at d) sl' _ s r tm (n2+1) 0 B1 q hT1 (by simpa using hsz) (by rw [Array.getElem?_setIfInBounds_ne hk];exact ha) (Array.getElem?_setIfInBounds_self_of_lt hklt) hc1
       (.inl ⟨n2,rfl,Goes.rely RelM.trans hg0 hAs⟩) (.inr ⟨rfl,v,vs',g₂,z',rfl,rfl,hnext⟩) (by omega) (hO.setOne h0lt hklt (.inr rfl) hd1) hM1 (by omega)
     ·-- goroutine 0 waits: both are served
      have hp:partners (gs.setIfInBounds i ph) c false=[(0,0)]:=by
       rw [partners_one (j:=0) (g:=parked (core g0) #[rcase c z] (.recv true)) (by rw [Array.getElem?_setIfInBounds_ne hk];exact ha) fun j x hj hx=>?_]
       ·rw [offersAt_parked_recv,if_pos rfl];rfl
       ·rcases getElem?_stand gs i j x hx with ⟨_,rfl⟩|⟨hj0,hx'⟩
        ·exact offersAt_ph _ _
        ·exact no_offers (others_no j x hj hj0 hx') _ _
      have hrt:=crowd_send_meets (sl:=sl') hi (by rw [hk0];exact hcm) hc1 (Ne.symm hk) ha hp
      rw [finishComm_send,finishComm_recv] at hrt
      obtain ⟨na,hna⟩:=(recvsM_iff P c Ct Cp z Fin vs' _ _).1 ((hs _ hAs).cons _ hw2)
      obtain ⟨nb,hnb⟩:=(sendsS_iff P c Ct Cp vs' _ _).1 (hnext _ hs2)
      have hcb:c<B1:=by omega
      refine ⟨_,_,hst.trans hrt,(vs'.length+2,(na+1)+(nb+1)+sumTo sz q),.left _ _ (by simp),?_⟩
      rw [<- Array.append_assoc]
      obtain ⟨hM2,hd2⟩:=hM1.four (a:={ g:=i,fn:=g₂.frame.fn,pos:=g₂.frame.place,act:=.send c s }) (b:={ g:=0,fn:=(core g0).frame.fn,pos:=(core g0).frame.place,act:=.recv c r 0 }) (c':={ g:=i,fn:=g₂.frame.fn,pos:=g₂.frame.place,act:=.sendDone c s }) (d:={ g:=0,fn:=(core g0).frame.fn,pos:=(core g0).frame.place,act:=.recvDone c r })
       rfl rfl rfl rfl (fun _ _=>rfl) (fun _ _=>rfl) (fun _ _=>rfl) (fun _ _=>rfl) hcb hcb hcb hcb
      exact .opn vs' _ _ _ _ sl' _ (s+1) (r+1) tm (na+1) (nb+1) B1 q hT1 (by simpa using hsz) (by rw [Array.getElem?_setIfInBounds_ne hk,Array.getElem?_setIfInBounds_self_of_lt h0lt];rfl) (Array.getElem?_setIfInBounds_self_of_lt (by simpa using hklt)) hc2
       (.inl ⟨na,rfl,hna⟩) (.inl ⟨nb,rfl,hnb⟩) (by omega) (by rw [Array.append_assoc];exact hO.setTwo h0lt hklt (.inl rfl) (.inr rfl) (fun j h1 h2=>by rw [<- Array.append_assoc,hd2 j,hd1 j h1 h2])) hM2 (by omega)
   ·obtain ⟨b',w',es,hgo',hd',hg'⟩:=hstep _ hSs
    have hc' : w'.heap[c]?=some (.chan 0 #[] false s r tm):=(hd'.aside.block c hCt).trans hc1
    obtain ⟨B1,b1,hM1⟩:=hM.evS hk (fn:=g.frame.fn) (pos:=g.frame.place) hd'.quiet hd'.evs
    have hrt:=runT_crowd_go (P:=P) (sl:=sl') (i:=i) hi (by rw [hk0];exact hgo')
    rw [crowd_set (fun j x hj hx=>by
     by_cases hj0:j=0
     ·subst hj0;rw [ha] at hx;cases hx;exact hA.woken hc'
     ·exact wk_rf (others_no j x hj0 hj hx))] at hrt
    refine ⟨_,_,hst.trans hrt,(vs.length+2,ra+(n' + 1)+sumTo sz q),.right _ (by omega),?_⟩
    exact .opn vs _ a b' w' sl' _ s r tm ra (n' + 1) B1 q (hd'.aside.tape.trans hT1) (by simpa using hsz) (by rw [Array.getElem?_setIfInBounds_ne hk];exact ha) (Array.getElem?_setIfInBounds_self_of_lt hklt) hc'
     (hA.rely (RelM.trans _ _ _ hAs (RelM.aside hd'.aside))) (.inl ⟨n',rfl,hg'⟩) (by omega) (hO.setOne h0lt hklt (.inr rfl) fun j _ hj=>Deaf_other t (Ne.symm hj) _ ofEvents_g) hM1 (by omega)
  ·simp [parked] at hg
 ·-- ANOTHER LEAVES
  have hq:=hO.old i g (by omega) hik hi
  obtain ⟨g',es,n,hm,hrt,hq',hlt'⟩:=pick_slip (w:=w.at d) (sl:=sl') hi (by omega) hg hq (fun j x hj hx g g'=>by
   by_cases hj0:j=0
   ·subst hj0;rw [ha] at hx;cases hx;exact hA.woken hc1
   ·by_cases hjk:j=k
    ·subst hjk;rw [hb] at hx;cases hx;exact hB.woken hc1
    ·exact wk_rf (others_no j x hj0 hjk hx))
  obtain ⟨m1,m2⟩:=mute_evs (t:=t) (i:=i) (fn:=g.frame.fn) (pos:=g.frame.place) hm B
  have hlt2:i<gs.size:=(Array.getElem?_eq_some_iff.1 hi).1
  refine ⟨_,_,hst.trans hrt,(vs.length+2,ra+rb+sumTo sz (upd q i n)),.right _ (by rw [<- hsz];omega),?_⟩
  exact .opn vs _ a b (w.at d) sl' _ s r tm ra rb B (upd q i n) hT1 (by simpa using hsz) (by rw [Array.getElem?_setIfInBounds_ne hi0];exact ha) (by rw [Array.getElem?_setIfInBounds_ne hik];exact hb) hc1 (hA.rely hAs) (hB.rely hSs) hpos
   (hO.slip hlt2 hq') (hM.appMute m1 (Deaf_other t hi0 _ ofEvents_g) (Deaf_other t hik _ ofEvents_g) m2) hB0
end
end Go.Proofs.YtgnbibinclepcaaGreatDoor.Lf
set_option linter.unusedVariables false
set_option linter.unusedSimpArgs false
namespace Go.Proofs.YtgnbibinclepcaaGreatDoor.Lf
open Go.Conc
open Go.ConcN (sumTo upd sumTo_upd upd_ne upd_same)
section
variable {P : Program} {c Ct Cp : Nat} {z : Value} {Fin : Goroutine -> World -> Prop} {k B0 sz : Nat} {T : Nat -> Question -> Nat}
theorem leavers_set0 {t u:Trace} {gs:Array Goroutine} {q:Nat->Nat} {g' : Goroutine} (hL:Leavers P t gs q) (h0:0<gs.size) (hu:∀ op ∈ u,op.g=0):Leavers P (t ++ u) (gs.setIfInBounds 0 g') q :=
 ⟨fun j x hj hx=>by
  rw [Array.getElem?_setIfInBounds_ne (by omega)] at hx
  rw [Deaf_other t (g':=0) (by omega) _ hu]
  exact hL.old j x hj hx,fun j hj=>by
  have hj' : gs.size<=j:=by simpa using hj
  rw [Deaf_other t (g':=0) (by omega) _ hu]
  exact hL.above j hj'⟩
theorem step_shut' (hk:k ≠ 0) (hcB:c<B0) {gs:Array Goroutine} {a:Goroutine} {w:World} {sl:Option (Nat × Nat)} {t:Trace} {s r:Nat} {tm:Bool} {n B m:Nat} {q:Nat->Nat}
  (hT:w.tape=T) (hsz:gs.size=sz) (ha:gs[0]?=some a) (hc:w.heap[c]?=some (.chan 0 #[] true s r tm)) (hA:Goes P true (RelM c Ct) (DM c Ct Cp) (StopM P c Ct Cp z Fin []) n a w)
  (hL:Leavers P t gs q) (hS:Shut (InBlock Ct) (SrP c Cp) k B c m t) (hB0:B0<=B) :
  ∃ m' ops,stepT P (crowd gs w sl)=(.next m',ops)/\(PAim P Fin B0 sz T m' (t ++ ops) ∨ ∃ μ',Lt2 μ' (1,n+sumTo sz q)/\PInv P c Ct Cp z Fin k B0 sz T μ' m' (t ++ ops)):=by
 have hra:a.status=.running:=hA.running (fun _ _=>StopM.running) w (RelM.refl c Ct w)
 have h0lt:0<gs.size:=(Array.getElem?_eq_some_iff.1 ha).1
 obtain ⟨i,g,d,sl',hi,hg,hst⟩:=crowd_pick (P:=P) (w:=w) (sl:=sl) (leavers_awake hL ha hra) ⟨0,a,ha,hra⟩
 have hAs:RelM c Ct w (w.at d):=RelM.at c Ct w d
 have hc1:(w.at d).heap[c]?=some (.chan 0 #[] true s r tm):=hc
 have hT1:(w.at d).tape=T:=hT
 have others:∀ (j:Nat) (x:Goroutine),j ≠ 0->gs[j]?=some x->x.status=.running ∨ x.status=.finished:=fun j x h1 hx=>(hL.old j x (by omega) hx).status
 rcases Nat.eq_zero_or_pos i with rfl|hpos
 ·obtain rfl:g=a:=by rw [ha] at hi;exact (Option.some.inj hi).symm
  rcases hA.cases with hstop|⟨n',rfl,hstep⟩
  ·have hat:=hstop _ hAs
   obtain ⟨es,hcomm,hqes,hes⟩:=hat.comm
   obtain ⟨B1,b1,hM1⟩:=hS.1.evM (fn:=g.frame.fn) (pos:=g.frame.place) hqes hes
   have hS1:Shut (InBlock Ct) (SrP c Cp) k B1 c m (t ++ MemOp.ofEvents 0 g.frame.fn g.frame.place es):=(hS.mono b1).keep hM1 fun op hop=>.inl (by rw [ofEvents_g op hop];exact Ne.symm hk)
   have hp:partners (gs.setIfInBounds 0 ph) c true=[]:=Go.Conc.partners_nil fun j x hx=>by
    rcases getElem?_stand gs 0 j x hx with ⟨_,rfl⟩|⟨hj,hx'⟩
    ·exact offersAt_ph _ _
    ·exact no_offers (others j x hj hx') _ _
   have hrt:=crowd_recv_closed (sl:=sl') hi hcomm hc1 hp
   rw [finishComm_recv] at hrt
   refine ⟨_,_,hst.trans hrt,.inl ?_⟩
   have hfin:=hat.nil _ (RelM.refl c Ct _)
   refine ⟨_,_,_,_,q,B1,rfl,by simpa using hsz,Array.getElem?_setIfInBounds_self_of_lt h0lt,hfin,leavers_set0 hL h0lt fun op hop=>?_,by omega,?_,hT1⟩
   ·rcases Array.mem_append.1 hop with h|h
    ·exact ofEvents_g op h
    ·simp only [List.mem_toArray,List.mem_cons,List.not_mem_nil,or_false] at h
     subst h;rfl
   ·rw [<- Array.append_assoc]
    exact hS1.take hk _ _ (by omega)
  ·obtain ⟨a',w',es,hgo',hd',hg'⟩:=hstep _ hAs
   obtain ⟨B1,b1,hM1⟩:=hS.1.evM (fn:=g.frame.fn) (pos:=g.frame.place) hd'.quiet hd'.evs
   have hS1:Shut (InBlock Ct) (SrP c Cp) k B1 c m (t ++ MemOp.ofEvents 0 g.frame.fn g.frame.place es):=(hS.mono b1).keep hM1 fun op hop=>.inl (by rw [ofEvents_g op hop];exact Ne.symm hk)
   have hrt:=runT_crowd_go (P:=P) (sl:=sl') (i:=0) hi (show stepG P (0 == 0) g (w.at d)=_ from hgo')
   rw [crowd_set (fun j x hj hx=>wk_rf (others j x hj hx))] at hrt
   refine ⟨_,_,hst.trans hrt,.inr ⟨(1,n' + sumTo sz q),.right _ (by omega),?_⟩⟩
   exact .shut _ a' w' sl' _ s r tm n' B1 m q (hd'.tape.trans hT1) (by simpa using hsz) (Array.getElem?_setIfInBounds_self_of_lt h0lt) (hd'.ch.trans hc1) hg' (leavers_set0 hL h0lt ofEvents_g) hS1 (by omega)
 ·have hq:=hL.old i g hpos hi
  have hlt2:i<gs.size:=(Array.getElem?_eq_some_iff.1 hi).1
  obtain ⟨g',es,n2,hm,hrt,hq',hlt'⟩:=pick_slip (w:=w.at d) (sl:=sl') hi hpos hg hq (fun j x hj hx g g'=>by
   by_cases hj0:j=0
   ·subst hj0;rw [ha] at hx;cases hx;exact wk_rf (.inl hra)
   ·exact wk_rf (others j x hj0 hx))
  obtain ⟨m1,m2⟩:=mute_evs (t:=t) (i:=i) (fn:=g.frame.fn) (pos:=g.frame.place) hm B
  refine ⟨_,_,hst.trans hrt,.inr ⟨(1,n+sumTo sz (upd q i n2)),.right _ (by rw [<- hsz];omega),?_⟩⟩
  exact .shut _ a (w.at d) sl' _ s r tm n B m (upd q i n2) hT1 (by simpa using hsz) (by rw [Array.getElem?_setIfInBounds_ne (by omega)];exact ha) hc1 (Goes.rely RelM.trans hA hAs)
   ⟨fun j x hj hx=>by
    by_cases hji:i=j
    ·subst hji
     rw [Array.getElem?_setIfInBounds_self_of_lt hlt2] at hx
     obtain rfl:=Option.some.inj hx
     rw [upd_same];exact hq'
    ·rw [Array.getElem?_setIfInBounds_ne hji] at hx
     rw [upd_ne q n2 (Ne.symm hji),Deaf_other t hji _ ofEvents_g]
     exact hL.old j x hj hx,fun j hj=>by
    have:i ≠ j:=by simp at hj;omega
    rw [Deaf_other t this _ ofEvents_g]
    exact hL.above j (by simpa using hj)⟩
   (hS.keep (hS.1.appMute m1 (Deaf_other t (by omega) _ ofEvents_g) m2) fun op hop=>.inr (m1 op hop)) hB0
theorem phase (hk:k ≠ 0) (hCt:c ≠ Ct) (hCp:c ≠ Cp) {vs:List Value} {gs:Array Goroutine} {a b:Goroutine} {w:World} {sl:Option (Nat × Nat)} {t:Trace} {s r:Nat} {tm:Bool} {B:Nat} {q:Nat->Nat} (hcB:c<B)
  (ha:gs[0]?=some a) (hb:gs[k]?=some b) (hc:w.heap[c]?=some (.chan 0 #[] false s r tm)) (hA:RecvsM P c Ct Cp z Fin vs a w) (hB:SendsS P c Ct Cp vs b w)
  (hO:Others P t gs q k) (hM:Mid (InBlock Ct) (SrP c Cp) k B t) :
  ∃ (N:Nat) (gs' : Array Goroutine) (a' : Goroutine) (w' : World) (sl' : Option (Nat × Nat)) (t' : Trace) (q' : Nat->Nat) (B' : Nat),
   runNT P N (crowd gs w sl) t=(.next (crowd gs' w' sl'),t')/\gs'.size=gs.size/\gs'[0]?=some a' /\ Fin a' w' /\ Leavers P t' gs' q' /\ B<=B' /\ Past NoShun B' t' /\ w'.tape=w.tape:=by
 obtain ⟨na,hna⟩:=(recvsM_iff P c Ct Cp z Fin vs _ _).1 hA
 obtain ⟨nb,hnb⟩:=(sendsS_iff P c Ct Cp vs _ _).1 hB
 obtain ⟨N,m',t',h1,gs',a',w',sl',q',B',rfl,h2,h3,h4,h5,h6,h7,h8⟩:=to_aim (P:=P) (Inv:=PInv P c Ct Cp z Fin k B gs.size w.tape) (Aim:=PAim P Fin B gs.size w.tape) (fun μ m t hI=>by
  cases hI with
  | opn vs gs a b w sl t s r tm ra rb B q hT hsz ha hb hc hA hB hpos hO hM hB0 =>
   obtain ⟨m',ops,h1,h2⟩:=step_opn' (sl:=sl) hk hCt hCp hcB hT hsz ha hb hc hA hB hpos hO hM hB0
   exact ⟨m',ops,h1,.inr h2⟩
  | shut gs a w sl t s r tm n B m q hT hsz ha hc hA hL hS hB0=>exact step_shut' (sl:=sl) hk hcB hT hsz ha hc hA hL hS hB0) _ _ _
  (.opn vs gs a b w sl t s r tm (na+1) (nb+1) B q rfl rfl ha hb hc (.inl ⟨na,rfl,hna⟩) (.inl ⟨nb,rfl,hnb⟩) (by omega) hO hM (Nat.le_refl _))
 exact ⟨N,gs',a',w',sl',t',q',B',h1,h2,h3,h4,h5,h6,h7,h8⟩
end
end Go.Proofs.YtgnbibinclepcaaGreatDoor.Lf
set_option linter.unusedVariables false
namespace Go.Proofs.YtgnbibinclepcaaGreatDoor.Lf
open Go.Conc
def allOrd (m:Region.Mode) (ops:Array Oper):Nat->Array Bool->List Nat->List (List Nat)
 | 0,_,acc=>[acc.reverse]
 | f+1,listed,acc=>if (Region.ready m ops listed).isEmpty then [acc.reverse] else (Region.ready m ops listed).flatMap fun i=>allOrd m ops f (listed.setIfInBounds i true) (i::acc)
theorem go_mem (m:Region.Mode) (ops:Array Oper):∀ (f t:Nat) (listed:Array Bool) (acc:List Nat),Region.linearise.go m ops f t listed acc ∈ allOrd m ops f listed acc:=by
 intro f
 induction f with
 | zero=>intro t listed acc;simp [Region.linearise.go,allOrd]
 | succ f ih =>
  intro t listed acc
  simp only [Region.linearise.go,allOrd]
  change (match (Region.ready m ops listed)[t % (Region.ready m ops listed).length]? with
   | some i=>Region.linearise.go m ops f (t / (Region.ready m ops listed).length) (listed.setIfInBounds i true) (i::acc)
   | none=>acc.reverse) ∈ _
  cases hr:Region.ready m ops listed with
  | nil=>simp
  | cons x xs =>
   have hlt:t % (x::xs).length<(x::xs).length:=Nat.mod_lt _ (by simp)
   rw [List.getElem?_eq_getElem hlt]
   simp only [List.isEmpty_cons,Bool.false_eq_true,if_false,List.mem_flatMap]
   exact ⟨_,List.getElem_mem hlt,ih _ _ _⟩
theorem schedule_mem (ops:Array Oper) (t:Nat):Region.schedule true ops t ∈ allOrd .any ops ops.size (Array.replicate ops.size false) []:=by
 simp only [Region.schedule,Bool.true_or,if_true]
 exact go_mem _ _ _ _ _ _
end Go.Proofs.YtgnbibinclepcaaGreatDoor.Lf
