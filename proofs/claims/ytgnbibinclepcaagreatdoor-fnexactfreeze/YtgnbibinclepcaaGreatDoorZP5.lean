
import Derived.Test.YtgnbibinclepcaaGreatDoorZP4
import Derived.Test.YtgnbibinclepcaaGreatDoorProg
import Derived.Test.YtgnbibinclepcaaGreatDoorZP2
set_option maxRecDepth 1000000
namespace Go.Proofs.YtgnbibinclepcaaGreatDoor
theorem Tryz.cf:Go.Proofs.YtgnbibinclepcaaGreatDoor.Lf.CF Tryz.prog:=Go.Proofs.YtgnbibinclepcaaGreatDoor.Lf.cf_of (by kernel_rfl)
end Go.Proofs.YtgnbibinclepcaaGreatDoor
set_option linter.unusedVariables false
set_option linter.unusedSimpArgs false
namespace Go.Proofs.YtgnbibinclepcaaGreatDoor.Lf
variable {P : Program}
open Go.Conc
open Go.ConcN (sumTo upd sumTo_upd upd_ne upd_same)
def Runs (P:Program) (Stop:Goroutine->World->Prop) (g:Goroutine) (w:World):Prop :=
 ∀ (T:Nat->Question->Nat) (d:Nat) (gs:Array Goroutine) (sl:Option (Nat × Nat)) (t:Trace) (q:Nat->Nat) (B:Nat),gs[0]?=some g->Leavers P t gs q->Past NoShun B t →
  ∃ (N:Nat) (gs' : Array Goroutine) (a' : Goroutine) (w' : World) (sl' : Option (Nat × Nat)) (t' : Trace) (q' : Nat->Nat) (B' : Nat),
   runNT P N (crowd gs (w.re T d) sl) t=(.next (crowd gs' w' sl'),t')/\gs'[0]?=some a' /\ Stop a' w' /\ Leavers P t' gs' q' /\ B<=B' /\ Past NoShun B' t' /\ w'.tape=T
theorem re_self {w:World} {T:Nat->Question->Nat} (h:w.tape=T):w.re T w.drawn=w:=by subst h;rfl
theorem runs_of_tree {Stop:Goroutine->World->Prop} (hB:Blind Stop) {g:Goroutine} {w:World} (h:Tree P Stop g w):Runs P Stop g w:=by
 intro T d gs sl t q B h0 hL hP
 obtain ⟨N,gs',a',w',sl',t',q',B',h1,_,h3,h4,h5,h6,h7,h8⟩:=tree_beside hB h T d gs sl t q B h0 hL hP
 exact ⟨N,gs',a',w',sl',t',q',B',h1,h3,h4,h5,h6,h7,h8⟩
theorem Runs.bind {S S' : Goroutine->World->Prop} {g:Goroutine} {w:World} (h:Runs P S g w) (k:∀ g w,S g w->Runs P S' g w):Runs P S' g w:=by
 intro T d gs sl t q B h0 hL hP
 obtain ⟨N,gs1,a1,w1,sl1,t1,q1,B1,e1,e2,e3,e4,e5,e6,e7⟩:=h T d gs sl t q B h0 hL hP
 obtain ⟨N2,gs2,a2,w2,sl2,t2,q2,B2,f1,f2,f3,f4,f5,f6,f7⟩:=k a1 w1 e3 T w1.drawn gs1 sl1 t1 q1 B1 e2 e4 e6
 rw [re_self e7] at f1
 exact ⟨N+N2,gs2,a2,w2,sl2,t2,q2,B2,by rw [runNT_add,e1];exact f1,f2,f3,f4,Nat.le_trans e5 f5,f6,f7⟩
theorem Runs.stop {S:Goroutine->World->Prop} (hB:Blind S) {g:Goroutine} {w:World} (h:S g w):Runs P S g w:=runs_of_tree hB (.stop h)
theorem runT_spawnT {gs:Array Goroutine} {sl:Option (Nat × Nat)} {g a b:Goroutine} {w w1:World} {es:Array Event} (h0:gs[0]?=some g) (hs:stepG P true g w=.spawn a b w1 es) :
  runT P (crowd gs w sl) 0=(.next (crowd ((gs.setIfInBounds 0 a).push b) w1 sl),MemOp.ofEvents 0 g.frame.fn g.frame.place es ++ #[{ g:=0,fn:=g.frame.fn,pos:=g.frame.place,act:=.go gs.size },{ g:=gs.size,fn:=b.frame.fn,pos:=g.frame.place,act:=.start }]):=by
 obtain ⟨hlt,rfl⟩:=Array.getElem?_eq_some_iff.1 h0
 have hsw:=swapAt_of_lt hlt { (default:Goroutine) with status:=.finished }
 show runT P { world:=w,gs:=gs,rest:={ timers:=#[],alone:=none,slice:=sl } } 0=_
 unfold runT
 simp only [hsw,beq_self_eq_true,hs,GStep.es,set_setIfInBounds hlt]
 simp [crowd]
 rw [Array.push_eq_append,Array.push_eq_append,Array.append_assoc]
 rfl
theorem runs_spawn {Stop:Goroutine->World->Prop} {g:Goroutine} {w:World} (hr:Run g)
  (h:∀ T d,∃ (a b:Goroutine) (w1:World) (es:Array Event) (c Ct Cp:Nat) (z:Value) (vs:List Value) (s r:Nat) (tm:Bool),stepG P true g (w.re T d)=.spawn a b w1 es/\Quiet es/\w1.tape=T/\c ≠ Ct/\c ≠ Cp ∧
   w1.heap[c]?=some (.chan 0 #[] false s r tm)/\RecvsM P c Ct Cp z Stop vs a w1/\SendsS P c Ct Cp vs b w1):Runs P Stop g w:=by
 intro T
 have own:∀ (d' : Nat) (gs:Array Goroutine) (sl' : Option (Nat × Nat)) (t:Trace) (q:Nat->Nat) (B:Nat) (d:Nat) (sl:Option (Nat × Nat)),gs[0]?=some g->Leavers P t gs q->Past NoShun B t->stepT P (crowd gs (w.re T d) sl)=runT P (crowd gs ((w.re T d).at d') sl') 0 →
   ∃ (N:Nat) (gs' : Array Goroutine) (a' : Goroutine) (w'' : World) (sl' : Option (Nat × Nat)) (t' : Trace) (q' : Nat->Nat) (B' : Nat),
    runNT P N (crowd gs (w.re T d) sl) t=(.next (crowd gs' w'' sl'),t')/\gs'[0]?=some a' /\ Stop a' w'' /\ Leavers P t' gs' q' /\ B<=B' /\ Past NoShun B' t' /\ w''.tape=T:=by
  intro d' gs sl' t q B d sl h0 hL hP hst
  obtain ⟨a,b,w1,es,c,Ct,Cp,z,vs,s,r,tm,e1,e2,e3,e4,e5,e6,e7,e8⟩:=h T d'
  have hlt:0<gs.size:=(Array.getElem?_eq_some_iff.1 h0).1
  have hrt:=runT_spawnT (sl:=sl') h0 e1
  obtain ⟨B1,b1,hl1⟩:=ops_low (MemOp.ofEvents 0 g.frame.fn g.frame.place es) B
  have hP1:Past NoShun (B1+c+1) (t ++ MemOp.ofEvents 0 g.frame.fn g.frame.place es):=(hP.mono (by omega)).app0 ofEvents_g (fun _ _ _ _ h=>h.elim) (by rw [Deaf_own];exact e2 _) (fun op hop=>MemAct.low_mono (by omega) (hl1 op hop))
  have hk0:Deaf (t ++ MemOp.ofEvents 0 g.frame.fn g.frame.place es) gs.size=0:=by
   rw [Deaf_other t (g':=0) (by omega) _ ofEvents_g]
   exact hL.above _ (Nat.le_refl _)
  have hM:=Past.fork (So:=InBlock Ct) (Sr:=SrP c Cp) hP1 hk0 g.frame.fn g.frame.place b.frame.fn
  have hq:∀ j,Deaf (t ++ MemOp.ofEvents 0 g.frame.fn g.frame.place es ++ #[{ g:=0,fn:=g.frame.fn,pos:=g.frame.place,act:=.go gs.size },{ g:=gs.size,fn:=b.frame.fn,pos:=g.frame.place,act:=.start }]) j=Deaf (t ++ MemOp.ofEvents 0 g.frame.fn g.frame.place es) j:=fun j=>Deaf_quiet (by
   intro op hop n
   simp only [List.mem_toArray,List.mem_cons,List.not_mem_nil,or_false] at hop
   rcases hop with rfl|rfl <;> rfl)
  have hO:Others P (t ++ MemOp.ofEvents 0 g.frame.fn g.frame.place es ++ #[{ g:=0,fn:=g.frame.fn,pos:=g.frame.place,act:=.go gs.size },{ g:=gs.size,fn:=b.frame.fn,pos:=g.frame.place,act:=.start }]) ((gs.setIfInBounds 0 a).push b) q gs.size:=by
   refine ⟨fun j x hj hjk hx=>?_,fun j hj=>?_⟩
   ·rw [hq j,Deaf_other t (g':=0) (by omega) _ ofEvents_g]
    have hjl:j<gs.size:=by
     have:=(Array.getElem?_eq_some_iff.1 hx).1
     simp at this;omega
    rw [Array.getElem?_push_lt (by simpa using hjl),Array.getElem_setIfInBounds_ne (by simpa using hjl) (by omega)] at hx
    exact hL.old j x hj (by rw [Array.getElem?_eq_getElem hjl];exact hx)
   ·have hj' : gs.size+1<=j:=by simpa using hj
    rw [hq j,Deaf_other t (g':=0) (by omega) _ ofEvents_g]
    exact hL.above j (by omega)
  obtain ⟨N,gs',a',w',sl2,t',q',B',f1,_,f3,f4,f5,f6,f7,f8⟩:=phase (sl:=sl') (Fin:=Stop) (k:=gs.size) (by omega) e4 e5 (gs:=(gs.setIfInBounds 0 a).push b) (a:=a) (b:=b) (by omega:c<B1+c+1)
   (by rw [Array.getElem?_push_lt (by simpa using hlt)];simp) (by rw [show gs.size=(gs.setIfInBounds 0 a).size by simp];exact Array.getElem?_push_size) e6 e7 e8 hO hM
  refine ⟨N+1,gs',a',w',sl2,t',q',B',?_,f3,f4,f5,by omega,f7,f8.trans e3⟩
  simp only [runNT,hst]
  rw [show (w.re T d).at d' = w.re T d' from rfl,hrt]
  simp only [<- Array.append_assoc]
  exact f1
 have key:∀ (M:Nat) (d:Nat) (gs:Array Goroutine) (sl:Option (Nat × Nat)) (t:Trace) (q:Nat->Nat) (B:Nat),sumTo gs.size q<=M->gs[0]?=some g->Leavers P t gs q->Past NoShun B t →
   ∃ (N:Nat) (gs' : Array Goroutine) (a' : Goroutine) (w'' : World) (sl' : Option (Nat × Nat)) (t' : Trace) (q' : Nat->Nat) (B' : Nat),
    runNT P N (crowd gs (w.re T d) sl) t=(.next (crowd gs' w'' sl'),t')/\gs'[0]?=some a' /\ Stop a' w'' /\ Leavers P t' gs' q' /\ B<=B' /\ Past NoShun B' t' /\ w''.tape=T:=by
  intro M
  induction M with
  | zero =>
   intro d gs sl t q B hM h0 hL hP
   rcases leavers_pick (w:=w.re T d) (sl:=sl) h0 hr.1 hL hP with ⟨d',sl',hst⟩|⟨d',sl',gs',ops,q',_,_,_,_,_,hlt⟩
   ·exact own d' gs sl' t q B d sl h0 hL hP hst
   ·omega
  | succ M ihM =>
   intro d gs sl t q B hM h0 hL hP
   rcases leavers_pick (w:=w.re T d) (sl:=sl) h0 hr.1 hL hP with ⟨d',sl',hst⟩|⟨d',sl',gs',ops,q',e1,e2,e3,e4,e5,hlt⟩
   ·exact own d' gs sl' t q B d sl h0 hL hP hst
   ·obtain ⟨N,gs2,a2,w2,sl2,t2,q2,B2,f1,f3⟩:=ihM d' gs' sl' (t ++ ops) q' B (by omega) e3 e4 e5
    refine ⟨N+1,gs2,a2,w2,sl2,t2,q2,B2,?_,f3⟩
    simp only [runNT,e1]
    exact f1
 exact fun d gs sl t q B h0 hL hP=>key _ d gs sl t q B (Nat.le_refl _) h0 hL hP
end Go.Proofs.YtgnbibinclepcaaGreatDoor.Lf
