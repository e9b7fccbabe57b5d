
import GoSem.Step
import Derived.Laws.Sem
import Derived.Conc.Beside
namespace Go.Proofs.YtgnbibinclepcaaGreatDoor.Lf
def _root_.Go.Halt.live:Halt->Prop
 | .panic _ | .goexit | .unsupported (.initOrder _)=>True
 | _=>False
def _root_.Go.Halt.loud:Halt->Prop
 | .panic _ | .goexit=>True
 | _=>False
def Tame (P:Program) {α:Type} (ok:α->Prop):Sem α->Nat->Prop
 | .pure a,n=>match n with|0=>ok a|_+1=>False
 | .load _ _ k,n=>∀ v,Tame P ok (k v) n
 | .store _ _ _ k,n=>Tame P ok k n
 | .new _ k,n=>∀ r,Tame P ok (k r) n
 | .shape _ k,n=>∀ s,Tame P ok (k s) n
 | .freeze _ _ k,n=>Tame P ok k n
 | .frozen _ k,n=>∀ b,Tame P ok (k b) n
 | .getObj _ k,n=>∀ o,Tame P ok (k o) n
 | .setObj _ _ k,n=>Tame P ok k n
 | .choose _ k,n=>∀ a,Tame P ok (k a) n
 | .sys _ k,n=>(∀ r,Tame P ok (k r) n)/\∃ h,k .wouldBlock=.halt h/\¬ h.live
 | .program k,n=>Tame P ok (k P) n
 | .mark .disable k,n=>Tame P ok k (n+1)
 | .mark .enable k,n=>match n with|0=>False|n+1=>Tame P ok k n
 | .mark _ k,n=>Tame P ok k n
 | .halt h,n=>match n with|0=>True|_+1=>¬ h.loud
variable {P : Program} {α β : Type}
theorem Tame.bind' {ok:α->Prop} {ok' : β->Prop} {f:α->Sem β} {x:Sem α} {n:Nat} (h:Tame P ok x n) (g:∀ a,ok a->Tame P ok' (f a) 0):Tame P ok' (x.bind f) n:=by
 induction x generalizing n with
 | pure a=>cases n with|zero=>exact g _ h|succ n=>exact h.elim
 | load m a k ih=>exact fun v=>ih v (h v)
 | store m a v k ih=>exact ih h
 | new o k ih=>exact fun v=>ih v (h v)
 | shape o k ih=>exact fun v=>ih v (h v)
 | freeze a n k ih=>exact ih h
 | frozen a k ih=>exact fun v=>ih v (h v)
 | getObj a k ih=>exact fun v=>ih v (h v)
 | setObj a o k ih=>exact ih h
 | choose q k ih=>exact fun v=>ih v (h v)
 | sys c k ih=>exact ⟨fun v=>ih v (h.1 v),h.2.elim fun s e=>⟨s,by show (k .wouldBlock).bind f=_;rw [e.1];rfl,e.2⟩⟩
 | program k ih=>exact ih P h
 | mark m k ih =>
  cases m with
  | enable=>cases n with|zero=>exact h.elim|succ n=>exact ih (n:=n) h
  | disable=>exact ih (n:=n+1) h
  | _=>exact ih (n:=n) h
 | halt _=>exact h
abbrev T (P:Program) {α:Type} (x:Sem α):Prop:=Tame P (fun _=>True) x 0
theorem Tame.bind {ok' : β->Prop} {f:α->Sem β} {x:Sem α} (h:T P x) (g:∀ a,Tame P ok' (f a) 0):Tame P ok' (x >>= f) 0:=Tame.bind' h fun a _=>g a
theorem Tame.bindOk {ok:α->Prop} {ok' : β->Prop} {f:α->Sem β} {x:Sem α} (h:Tame P ok x 0) (g:∀ a,ok a->Tame P ok' (f a) 0):Tame P ok' (x >>= f) 0:=Tame.bind' h g
theorem Tame.map {ok' : β->Prop} {f:α->β} {x:Sem α} (h:T P x) (g:∀ a,ok' (f a)):Tame P ok' (f <$> x) 0:=Tame.bind' h fun a _=>g a
theorem Tame.pureT {a:α}:T P (Pure.pure a:Sem α):=trivial
theorem Tame.ite {ok:α->Prop} {c:Prop} [Decidable c] {x y:Sem α} (hx:Tame P ok x 0) (hy:Tame P ok y 0):Tame P ok (if c then x else y) 0:=by split <;> assumption
theorem t_load (a:Addr) (m:Mode):T P (load a m):=fun _=>trivial
theorem t_store (a:Addr) (v:Value) (m:Mode):T P (store a v m):=trivial
theorem t_new (o:Obj):T P (newObj o):=fun _=>trivial
theorem t_shape (r:Nat):T P (shape r):=fun _=>trivial
theorem t_freeze (a:Addr) (n:Nat):T P (freeze a n):=trivial
theorem t_frozen (a:Addr):T P (frozen a):=fun _=>trivial
theorem t_getObj (r:Nat):T P (getObj r):=fun _=>trivial
theorem t_setObj (r:Nat) (o:Obj):T P (setObj r o):=trivial
theorem t_choose (q:Question):T P (choose q):=fun _=>trivial
theorem t_program:T P program:=trivial
theorem t_stuck (s:String) {ok:α->Prop}:Tame P ok (stuck s:Sem α) 0:=trivial
theorem t_unsupported (u:Unsupported) {ok:α->Prop}:Tame P ok (unsupported u:Sem α) 0:=trivial
theorem t_goPanic (v:Value) {ok:α->Prop}:Tame P ok (goPanic v:Sem α) 0:=trivial
theorem t_throw (s:String) {ok:α->Prop}:Tame P ok (throw s:Sem α) 0:=trivial
theorem t_noRoom:T P (mark .noRoom):=trivial
theorem t_extern (f:FuncId):T P (mark (.extern f)):=trivial
/-! ### loops -/
theorem t_mapM_list {γ:Type} (f:γ->Sem β) (h:∀ a,T P (f a)):∀ l:List γ,T P (l.mapM f)
 | []=>trivial
 | a::l=>by
  rw [List.mapM_cons]
  exact Tame.bind (h a) fun _=>Tame.bind (t_mapM_list f h l) fun _=>trivial
theorem t_mapM {γ:Type} (f:γ->Sem β) (h:∀ a,T P (f a)) (l:Array γ):T P (l.mapM f):=by
 rw [Array.mapM_eq_mapM_toList]
 exact Tame.map (t_mapM_list f h _) fun _=>trivial
theorem t_forIn_list {γ σ:Type} (f:γ->σ->Sem (ForInStep σ)) (h:∀ a s,T P (f a s)):∀ (l:List γ) (s:σ),T P (forIn l s f)
 | [],_=>trivial
 | a::l,s=>by
  rw [List.forIn_cons]
  refine Tame.bind (h a s) fun r=>?_
  cases r with
  | done _=>trivial
  | yield _=>exact t_forIn_list f h l _
theorem t_forIn'_list {γ σ:Type}:∀ (l:List γ) (f:(a:γ)->a ∈ l->σ->Sem (ForInStep σ)) (_:∀ a h s,T P (f a h s)) (s:σ),T P (forIn' l s f)
 | [],_,_,_=>trivial
 | a::l,f,h,s=>by
  rw [List.forIn'_cons]
  refine Tame.bind (h a _ s) fun r=>?_
  cases r with
  | done _=>trivial
  | yield _=>exact t_forIn'_list l _ (fun a _ s=>h a _ s) _
theorem t_forIn_array {γ σ:Type} (f:γ->σ->Sem (ForInStep σ)) (h:∀ a s,T P (f a s)) (l:Array γ) (s:σ):T P (forIn l s f):=by
 rw [<- Array.forIn_toList]
 exact t_forIn_list f h _ _
theorem t_forIn_range {σ:Type} (f:Nat->σ->Sem (ForInStep σ)) (h:∀ a s,T P (f a s)) (l:Std.Legacy.Range) (s:σ):T P (forIn l s f):=by
 rw [Std.Legacy.Range.forIn_eq_forIn_range']
 exact t_forIn_list f h _ _
end Go.Proofs.YtgnbibinclepcaaGreatDoor.Lf
namespace Go.Proofs.YtgnbibinclepcaaGreatDoor.Lf
variable {P : Program} {α β : Type}
theorem t_foldlM {γ σ:Type} (f:σ->γ->Sem σ) (h:∀ s a,T P (f s a)):∀ (l:List γ) (s:σ),T P (l.foldlM f s)
 | [],_=>trivial
 | a::l,s=>by
  rw [List.foldlM_cons]
  exact Tame.bind (h s a) fun _=>t_foldlM f h l _
end Go.Proofs.YtgnbibinclepcaaGreatDoor.Lf
namespace Go.Proofs.YtgnbibinclepcaaGreatDoor.Lf
variable {P : Program} {α β : Type}
open Go.Conc
def _root_.Go.World.re (w:World) (T:Nat->Question->Nat) (j:Nat):World:={ w with tape:=T,drawn:=j }
def _root_.Go.Result.world {α:Type}:Result α->World | .ok _ w=>w | .halt _ w=>w
def _root_.Go.Result.re {α:Type} (r:Result α) (T:Nat->Question->Nat) (j:Nat):Result α :=
 match r with | .ok a w=>.ok a (w.re T j) | .halt h w=>.halt h (w.re T j)
def _root_.Go.Result.live {α:Type}:Result α->Prop | .ok _ _=>True | .halt h _=>h.live
def _root_.Go.Result.loud {α:Type}:Result α->Prop | .ok _ _=>True | .halt h _=>h.loud
def Agree (w w₁:World) (T:Nat->Question->Nat) (j:Nat):Prop:=∀ i,w.drawn+i<w₁.drawn->T (j+i)=w.tape (w.drawn+i)
@[simp] theorem re_heap (w:World) (T:Nat->Question->Nat) (j:Nat):(w.re T j).heap=w.heap:=rfl
theorem farLoad_re (w:World) (T:Nat->Question->Nat) (j:Nat) (a:Addr) (b:Bool):(w.re T j).farLoad P a b=w.farLoad P a b:=rfl
theorem seen_re (w:World) (T:Nat->Question->Nat) (j:Nat) (at_:Addr) (u:TypeId) (k:Addr) (b:Bool):World.seen P (w.re T j) at_ u k b=World.seen P w at_ u k b:=rfl
theorem viewStore_re (w:World) (T:Nat->Question->Nat) (j:Nat) (at_:Addr) (u:TypeId) (k:Addr) (v:Value) (b:Bool) :
  World.viewStore P (w.re T j) at_ u k v b=(World.viewStore P w at_ u k v b).map fun x=>(x.1.re T j,x.2):=by
 unfold World.viewStore
 simp only [seen_re]
 cases tight P P.depth u with
 | false=>rfl
 | true =>
  simp only [Bool.not_true,Bool.false_eq_true,if_false]
  cases World.seen P w at_ u k b with
  | error e=>rfl
  | ok p =>
   obtain ⟨c,e,f,fi,li,ce⟩:=p
   simp only [bind,Except.bind]
   cases v.bytes? with
   | none=>rfl
   | some bs =>
    dsimp only
    split
    ·rfl
    ·generalize List.foldlM (m:=Except String) _ c ce=q
     cases q <;> rfl
theorem viewStore_same {w w₁:World} {l:List Addr} {at_:Addr} {u:TypeId} {k:Addr} {v:Value} {b:Bool} (h:World.viewStore P w at_ u k v b=.ok (w₁,l)):w₁.drawn=w.drawn/\w₁.tape=w.tape:=by
 unfold World.viewStore at h
 cases ht:tight P P.depth u with
 | false=>rw [ht] at h;cases h
 | true =>
  simp only [ht,Bool.not_true,Bool.false_eq_true,if_false] at h
  cases hs:World.seen P w at_ u k b with
  | error e=>rw [hs] at h;cases h
  | ok p =>
   obtain ⟨c,e,f,fi,li,ce⟩:=p
   simp only [hs,bind,Except.bind] at h
   cases hb:v.bytes? with
   | none=>rw [hb] at h;cases h
   | some bs =>
    simp only [hb] at h
    split at h
    ·cases h
    ·generalize List.foldlM (m:=Except String) _ c ce=q at h
     cases q with
     | error e=>cases h
     | ok c'=>cases h;exact ⟨rfl,rfl⟩
structure Local (P:Program) {α:Type} (x:Sem α) (w:World) (es:Array Event):Prop where
 run:∀ r es',x.runT P w es=(r,es')->r.live->w.drawn<=r.world.drawn/\r.world.tape=w.tape ∧
  ∀ T j,Agree w r.world T j->x.runT P (w.re T j) es=(r.re T (j+(r.world.drawn - w.drawn)),es')
theorem agree_sub {w w₁ w₂:World} {T:Nat->Question->Nat} {j:Nat} (h:Agree w w₂ T j) (ht:w₁.tape=w.tape) (hd:w.drawn<=w₁.drawn):Agree w₁ w₂ T (j+(w₁.drawn - w.drawn)):=by
 intro i hi
 have:=h (w₁.drawn - w.drawn+i) (by omega)
 rw [ht,show w₁.drawn+i=w.drawn+(w₁.drawn - w.drawn+i) by omega,← this]
 congr 1
 omega
theorem ask_re {α:Type} (a:Ask α):∀ (w:World),w.drawn<=(w.ask a).2.drawn/\(w.ask a).2.tape=w.tape/\(w.ask a).2.heap=w.heap/\(w.ask a).2.output=w.output/\(w.ask a).2.os=w.os ∧
  ∀ T j,Agree w (w.ask a).2 T j->(w.re T j).ask a=((w.ask a).1,(w.ask a).2.re T (j+((w.ask a).2.drawn - w.drawn))):=by
 induction a with
 | done a=>exact fun w=>⟨Nat.le_refl _,rfl,rfl,rfl,rfl,fun T j _=>by simp [World.ask,World.re]⟩
 | ask what range k ih =>
  intro w
  unfold World.ask
  dsimp only
  by_cases hq:(Question.extern what range).forced=true
  ·simp only [hq,if_true]
   exact ih 0 w
  ·simp only [hq,if_false,Bool.false_eq_true]
   obtain ⟨h1,h2,h3,h4,h5,h6⟩:=ih ((Question.extern what range).cut (w.tape w.drawn (Question.extern what range))) { w with drawn:=w.drawn+1 }
   dsimp only at h1 h2 h3 h4 h5 h6
   refine ⟨by omega,h2,h3,h4,h5,fun T j hT=>?_⟩
   have e0:T j=w.tape w.drawn:=hT 0 (by omega)
   have h7:=h6 T (j+1) (by
    intro i hi
    have:=hT (1+i) (by dsimp only at hi;omega)
    rw [show j+1+i=j+(1+i) by omega,this]
    show _=w.tape (w.drawn+1+i)
    congr 1;omega)
   show World.ask { w with tape:=T,drawn:=j+1 } (k ((Question.extern what range).cut (T j (Question.extern what range))))=_
   rw [e0]
   refine h7.trans ?_
   congr 2
   omega
theorem sys_re (w:World) (c:Sys) (r:SysRet) (w₁:World) (h:w.sys c=(r,w₁)) (hr:r ≠ .wouldBlock) :
  w.drawn<=w₁.drawn/\w₁.tape=w.tape/\∀ T j,Agree w w₁ T j->(w.re T j).sys c=(r,w₁.re T (j+(w₁.drawn - w.drawn))):=by
 obtain ⟨h1,h2,_,_,_,h6⟩:=ask_re (Kernel.perform c w.os) w
 unfold World.sys at h
 generalize hq:w.ask (Kernel.perform c w.os)=q at h h1 h2 h6
 obtain ⟨⟨r',os'⟩,w'⟩:=q
 dsimp only at h h1 h2 h6
 cases r' with
 | wouldBlock=>simp only [Prod.mk.injEq] at h;exact absurd h.1.symm hr
 | _ =>
  simp only [Prod.mk.injEq] at h
  obtain ⟨rfl,rfl⟩:=h
  refine ⟨h1,h2,fun T j hT=>?_⟩
  have:=h6 T j hT
  unfold World.sys
  rw [show (w.re T j).os=w.os from rfl,this]
  rfl
theorem tame_loc {ok:α->Prop} {x:Sem α}:∀ {n:Nat} (_:Tame P ok x n) (w:World) (es:Array Event),Local P x w es:=by
 induction x with
 | pure a =>
  intro n h w es
  refine ⟨fun r es' e _=>?_⟩
  simp only [Sem.runT,Prod.mk.injEq] at e
  obtain ⟨rfl,rfl⟩:=e
  exact ⟨Nat.le_refl _,rfl,fun T j _=>by simp [Sem.runT,Result.re,Result.world,World.re]⟩
 | load m a k ih =>
  intro n h w es
  refine ⟨fun r es' e hl=>?_⟩
  simp only [Sem.runT] at e
  cases hc:w.cell? a with
  | some v =>
   rw [hc] at e
   obtain ⟨h1,h2,h3⟩:=(ih v (h v) w _).run r es' e hl
   refine ⟨h1,h2,fun T j hT=>?_⟩
   simp only [Sem.runT]
   rw [show (w.re T j).cell? a=w.cell? a from rfl,hc]
   exact h3 T j hT
  | none =>
   rw [hc] at e
   dsimp only at e
   cases hf:w.farLoad P a (m == .atomic) with
   | ok p =>
    obtain ⟨v,t⟩:=p
    rw [hf] at e
    obtain ⟨h1,h2,h3⟩:=(ih v (h v) w _).run r es' e hl
    refine ⟨h1,h2,fun T j hT=>?_⟩
    simp only [Sem.runT]
    rw [show (w.re T j).cell? a=w.cell? a from rfl,hc,farLoad_re,hf]
    exact h3 T j hT
   | error hh =>
    rw [hf] at e
    simp only [Prod.mk.injEq] at e
    obtain ⟨rfl,rfl⟩:=e
    refine ⟨Nat.le_refl _,rfl,fun T j _=>?_⟩
    simp only [Sem.runT]
    rw [show (w.re T j).cell? a=w.cell? a from rfl,hc,farLoad_re,hf]
    simp [Result.re,Result.world,World.re]
 | store m a v k ih =>
  intro n h w es
  refine ⟨fun r es' e hl=>?_⟩
  have plain:∀ (hv:Sem.runT P (.store m a v k) w es=(match w.cell? a with
    | some _=>if w.frozen? a then (.halt (.unsupported (.unsafePointer "a write to bytes that a string shares")) w,es) else k.runT P (w.setCell a v) (es.push ⟨.cell a,true,m == .atomic⟩)
    | none=>match w.farStore P a v (m == .atomic) with
     | .ok (w,touched)=>k.runT P w (es ++ touched.toArray.map (⟨.cell ·,true,m == .atomic⟩))
     | .error h=>(.halt h w,es))) (hv' : ∀ T j,Sem.runT P (.store m a v k) (w.re T j) es=(match w.cell? a with
    | some _=>if w.frozen? a then (.halt (.unsupported (.unsafePointer "a write to bytes that a string shares")) (w.re T j),es) else k.runT P ((w.re T j).setCell a v) (es.push ⟨.cell a,true,m == .atomic⟩)
    | none=>match (w.re T j).farStore P a v (m == .atomic) with
     | .ok (w,touched)=>k.runT P w (es ++ touched.toArray.map (⟨.cell ·,true,m == .atomic⟩))
     | .error h=>(.halt h (w.re T j),es))),w.drawn<=r.world.drawn/\r.world.tape=w.tape/\∀ T j,Agree w r.world T j->Sem.runT P (.store m a v k) (w.re T j) es=(r.re T (j+(r.world.drawn - w.drawn)),es'):=by
   intro hv hv'
   rw [hv] at e
   simp only [hv']
   cases hc:w.cell? a with
   | some _ =>
    simp only [hc] at e ⊢
    cases hz:w.frozen? a with
    | true =>
     simp only [hz,if_true,Prod.mk.injEq] at e
     obtain ⟨rfl,_⟩:=e
     exact hl.elim
    | false =>
     simp only [hz,Bool.false_eq_true,if_false] at e ⊢
     obtain ⟨h1,h2,h3⟩:=(ih h (w.setCell a v) _).run r es' e hl
     exact ⟨h1,h2,fun T j hT=>h3 T j hT⟩
   | none =>
    simp only [hc] at e ⊢
    unfold World.farStore at e ⊢
    simp only [re_heap]
    cases ho:w.heap[a.block]? with
    | none =>
     simp only [ho,Prod.mk.injEq] at e
     obtain ⟨rfl,_⟩:=e
     simp only [World.noCell,ho] at hl
     exact hl.elim
    | some o =>
     cases o with
     | view at_ u =>
      simp only [ho] at e ⊢
      simp only [viewStore_re]
      cases hvs:World.viewStore P w at_ u a v (m == .atomic) with
      | error why =>
       simp only [hvs,Prod.mk.injEq] at e
       obtain ⟨rfl,_⟩:=e
       exact hl.elim
      | ok p =>
       obtain ⟨w₁,l⟩:=p
       obtain ⟨d1,d2⟩:=viewStore_same hvs
       simp only [hvs] at e ⊢
       obtain ⟨h1,h2,h3⟩:=(ih h w₁ _).run r es' e hl
       rw [d1] at h1
       refine ⟨h1,h2.trans d2,fun T j hT=>?_⟩
       have:=h3 T j (fun i hi=>by rw [d1] at hi ⊢;rw [d2];exact hT i hi)
       rw [d1] at this
       exact this
     | pending c t =>
      simp only [ho,Prod.mk.injEq] at e ⊢
      obtain ⟨rfl,rfl⟩:=e
      exact ⟨Nat.le_refl _,rfl,fun T j _=>by simp [Result.re,Result.world,World.re,World.noCell,ho]⟩
     | _ =>
      simp only [ho,Prod.mk.injEq] at e
      obtain ⟨rfl,_⟩:=e
      simp only [World.noCell,ho] at hl
      exact hl.elim
  cases v with
  | agg _=>simp only [Sem.runT,Prod.mk.injEq] at e;obtain ⟨rfl,_⟩:=e;exact hl.elim
  | tuple _=>simp only [Sem.runT,Prod.mk.injEq] at e;obtain ⟨rfl,_⟩:=e;exact hl.elim
  | _=>exact plain rfl (fun _ _=>rfl)
 | new o k ih =>
  intro n h w es
  refine ⟨fun r es' e hl=>?_⟩
  obtain ⟨h1,h2,h3⟩:=(ih w.heap.size (h _) { w with heap:=w.heap.push o } es).run r es' e hl
  exact ⟨h1,h2,fun T j hT=>h3 T j hT⟩
 | shape o k ih =>
  intro n h w es
  refine ⟨fun r es' e hl=>?_⟩
  obtain ⟨h1,h2,h3⟩:=(ih (w.shape? o) (h _) w es).run r es' e hl
  exact ⟨h1,h2,fun T j hT=>h3 T j hT⟩
 | freeze a m k ih =>
  intro n h w es
  refine ⟨fun r es' e hl=>?_⟩
  have e1:(w.freeze a m).drawn=w.drawn:=by unfold World.freeze;split <;> rfl
  have e2:(w.freeze a m).tape=w.tape:=by unfold World.freeze;split <;> rfl
  obtain ⟨h1,h2,h3⟩:=(ih h (w.freeze a m) es).run r es' e hl
  rw [e1] at h1
  rw [e2] at h2
  refine ⟨h1,h2,fun T j hT=>?_⟩
  have:=h3 T j (by intro i hi;rw [e1] at hi ⊢;rw [e2];exact hT i hi)
  rw [e1] at this
  simp only [Sem.runT]
  rw [show (w.re T j).freeze a m=(w.freeze a m).re T j by unfold World.freeze;split <;> rfl]
  exact this
 | frozen a k ih =>
  intro n h w es
  refine ⟨fun r es' e hl=>?_⟩
  obtain ⟨h1,h2,h3⟩:=(ih (w.frozen? a) (h _) w es).run r es' e hl
  exact ⟨h1,h2,fun T j hT=>h3 T j hT⟩
 | getObj a k ih =>
  intro n h w es
  refine ⟨fun r es' e hl=>?_⟩
  simp only [Sem.runT] at e ⊢
  simp only [re_heap]
  cases ho:w.heap[a]? with
  | none=>simp only [ho,Prod.mk.injEq] at e;obtain ⟨rfl,_⟩:=e;exact hl.elim
  | some o =>
   cases o with
   | cells c t f=>simp only [ho,Prod.mk.injEq] at e;obtain ⟨rfl,_⟩:=e;exact hl.elim
   | _ =>
    simp only [ho] at e ⊢
    obtain ⟨h1,h2,h3⟩:=(ih _ (h _) w _).run r es' e hl
    exact ⟨h1,h2,fun T j hT=>h3 T j hT⟩
 | setObj a o k ih =>
  intro n h w es
  refine ⟨fun r es' e hl=>?_⟩
  simp only [Sem.runT] at e ⊢
  simp only [re_heap]
  cases ho:w.heap[a]? with
  | none=>simp only [ho,Prod.mk.injEq] at e;obtain ⟨rfl,_⟩:=e;exact hl.elim
  | some o' =>
   cases o' with
   | cells c t f=>simp only [ho,Prod.mk.injEq] at e;obtain ⟨rfl,_⟩:=e;exact hl.elim
   | _ =>
    simp only [ho] at e ⊢
    obtain ⟨h1,h2,h3⟩:=(ih h { w with heap:=w.heap.setIfInBounds a o } _).run r es' e hl
    exact ⟨h1,h2,fun T j hT=>h3 T j hT⟩
 | choose q k ih =>
  intro n h w es
  refine ⟨fun r es' e hl=>?_⟩
  simp only [Sem.runT] at e ⊢
  by_cases hq:q.forced=true
  ·simp only [hq,if_true] at e ⊢
   obtain ⟨h1,h2,h3⟩:=(ih 0 (h _) w es).run r es' e hl
   exact ⟨h1,h2,fun T j hT=>h3 T j hT⟩
  ·simp only [hq,if_false,Bool.false_eq_true] at e ⊢
   obtain ⟨h1,h2,h3⟩:=(ih _ (h _) { w with drawn:=w.drawn+1 } es).run r es' e hl
   dsimp only at h1 h2
   refine ⟨by omega,h2,fun T j hT=>?_⟩
   have e0:T j=w.tape w.drawn:=hT 0 (by omega)
   have h7:=h3 T (j+1) (by
    intro i hi
    have:=hT (1+i) (by dsimp only at hi;omega)
    rw [show j+1+i=j+(1+i) by omega,this]
    show _=w.tape (w.drawn+1+i)
    congr 1;omega)
   show (k (q.cut (T j q))).runT P ((w.re T j).re T (j+1)) es=_
   rw [e0]
   refine h7.trans ?_
   congr 2
   dsimp only
   omega
 | sys c k ih =>
  intro n h w es
  refine ⟨fun r es' e hl=>?_⟩
  simp only [Sem.runT] at e ⊢
  generalize hs:w.sys c=q at e
  obtain ⟨v,w₁⟩:=q
  dsimp only at e
  by_cases hv:v=.wouldBlock
  ·subst hv
   obtain ⟨hh,e1,e2⟩:=h.2
   rw [e1] at e
   simp only [Sem.runT,Prod.mk.injEq] at e
   obtain ⟨rfl,_⟩:=e
   exact absurd hl e2
  ·obtain ⟨s1,s2,s3⟩:=sys_re w c v w₁ hs hv
   obtain ⟨h1,h2,h3⟩:=(ih v (h.1 v) w₁ _).run r es' e hl
   refine ⟨by omega,h2.trans s2,fun T j hT=>?_⟩
   have g:=s3 T j (fun i hi=>hT i (by omega))
   rw [g]
   have:=h3 T (j+(w₁.drawn - w.drawn)) (agree_sub hT s2 s1)
   refine this.trans ?_
   congr 2
   omega
 | program k ih =>
  intro n h w es
  exact ⟨fun r es' e hl=>(ih P h w es).run r es' e hl⟩
 | mark m k ih =>
  intro n h w es
  have hk:∃ n',Tame P ok k n':=by
   cases m with
   | enable=>cases n with|zero=>exact h.elim|succ n=>exact ⟨n,h⟩
   | disable=>exact ⟨n+1,h⟩
   | _=>exact ⟨n,h⟩
  obtain ⟨n',h'⟩:=hk
  exact ⟨fun r es' e hl=>(ih h' w _).run r es' e hl⟩
 | halt hh =>
  intro n h w es
  refine ⟨fun r es' e _=>?_⟩
  simp only [Sem.runT,Prod.mk.injEq] at e
  obtain ⟨rfl,rfl⟩:=e
  exact ⟨Nat.le_refl _,rfl,fun T j _=>by simp [Sem.runT,Result.re,Result.world,World.re]⟩
end Go.Proofs.YtgnbibinclepcaaGreatDoor.Lf
namespace Go.Proofs.YtgnbibinclepcaaGreatDoor.Lf
variable {P : Program} {α β : Type}
open Go.Conc
theorem deafBehind_app (d:Nat) (a b:Array Event):deafBehind d (a ++ b)=deafBehind (deafBehind d a) b:=by
 obtain ⟨a⟩:=a
 obtain ⟨b⟩:=b
 simp [deafBehind]
theorem tame_deaf {ok:α->Prop} {x:Sem α}:∀ {n:Nat} (_:Tame P ok x n) (w:World) (es:Array Event) (r:Result α) (es' : Array Event),
  x.runT P w es=(r,es')->r.loud->(∀ a w',r=.ok a w' -> ok a)/\∃ new,es' = es ++ new/\∀ d,deafBehind (d+n) new=d:=by
 have still:∀ {n:Nat} {k:Sem α} {w:World} {es add:Array Event} {r:Result α} {es' : Array Event},(∀ e ∈ add,e.loc ≠ .mark .disable/\e.loc ≠ .mark .enable) →
   ((∀ a w',r=.ok a w' -> ok a)/\∃ new,es' = (es ++ add) ++ new/\∀ d,deafBehind (d+n) new=d) →
   (∀ a w',r=.ok a w' -> ok a)/\∃ new,es' = es ++ new/\∀ d,deafBehind (d+n) new=d:=by
  rintro n k w es add r es' hadd ⟨h1,new,rfl,h2⟩
  refine ⟨h1,add ++ new,by rw [Array.append_assoc],fun d=>?_⟩
  rw [deafBehind_app,deafBehind_still hadd]
  exact h2 d
 have still1:∀ {n:Nat} {w:World} {es:Array Event} {ev:Event} {r:Result α} {es' : Array Event},
   ((∀ a w',r=.ok a w' -> ok a)/\∃ new,es' = es.push ev ++ new/\∀ d,deafBehind (d+n) new=d)->(ev.loc ≠ .mark .disable/\ev.loc ≠ .mark .enable) →
   (∀ a w',r=.ok a w' -> ok a)/\∃ new,es' = es ++ new/\∀ d,deafBehind (d+n) new=d:=by
  intro n w es ev r es' h he
  rw [Array.push_eq_append] at h
  exact still (k:=.halt .goexit) (w:=w) (by intro e hm;rw [List.mem_toArray.1 hm |> List.mem_singleton.1];exact he) h
 induction x with
 | pure a =>
  intro n h w es r es' e _
  simp only [Sem.runT,Prod.mk.injEq] at e
  obtain ⟨rfl,rfl⟩:=e
  cases n with
  | zero=>exact ⟨fun a w' e=>by cases e;exact h,#[],by simp,fun d=>rfl⟩
  | succ n=>exact h.elim
 | load m a k ih =>
  intro n h w es r es' e hl
  simp only [Sem.runT] at e
  split at e
  ·exact still1 (w:=w) (ih _ (h _) _ _ r es' e hl) (by simp)
  ·split at e
   ·exact still (k:=k default) (w:=w) (by simp) (ih _ (h _) _ _ r es' e hl)
   ·simp only [Prod.mk.injEq] at e
    obtain ⟨rfl,rfl⟩:=e
    rename_i hh hf
    exfalso
    unfold World.farLoad at hf
    split at hf
    ·split at hf <;> cases hf
     exact hl
    ·cases hf
     revert hl
     unfold World.noCell
     split <;> exact fun h=>h
 | store m a v k ih =>
  intro n h w es r es' e hl
  have plain:(match w.cell? a with
    | some _=>if w.frozen? a then ((.halt (.unsupported (.unsafePointer "a write to bytes that a string shares")) w:Result α),es) else k.runT P (w.setCell a v) (es.push ⟨.cell a,true,m == .atomic⟩)
    | none=>match w.farStore P a v (m == .atomic) with
     | .ok (w,touched)=>k.runT P w (es ++ touched.toArray.map (⟨.cell ·,true,m == .atomic⟩))
     | .error h=>(.halt h w,es))=(r,es')->(∀ a w',r=.ok a w' -> ok a)/\∃ new,es' = es ++ new/\∀ d,deafBehind (d+n) new=d:=by
   intro e
   split at e
   ·split at e
    ·simp only [Prod.mk.injEq] at e
     obtain ⟨rfl,rfl⟩:=e
     exact hl.elim
    ·exact still1 (w:=w) (ih h _ _ r es' e hl) (by simp)
   ·split at e
    ·exact still (k:=k) (w:=w) (by simp) (ih h _ _ r es' e hl)
    ·simp only [Prod.mk.injEq] at e
     obtain ⟨rfl,rfl⟩:=e
     rename_i hh hf
     exfalso
     unfold World.farStore at hf
     split at hf
     ·split at hf <;> cases hf
      exact hl
     ·cases hf
      revert hl
      unfold World.noCell
      split <;> exact fun h=>h
  cases v with
  | agg _=>simp only [Sem.runT,Prod.mk.injEq] at e;obtain ⟨rfl,_⟩:=e;exact hl.elim
  | tuple _=>simp only [Sem.runT,Prod.mk.injEq] at e;obtain ⟨rfl,_⟩:=e;exact hl.elim
  | _=>exact plain e
 | new o k ih=>exact fun h w es r es' e hl=>ih _ (h _) _ _ r es' e hl
 | shape o k ih=>exact fun h w es r es' e hl=>ih _ (h _) _ _ r es' e hl
 | freeze a m k ih=>exact fun h w es r es' e hl=>ih h _ _ r es' e hl
 | frozen a k ih=>exact fun h w es r es' e hl=>ih _ (h _) _ _ r es' e hl
 | getObj a k ih =>
  intro n h w es r es' e hl
  simp only [Sem.runT] at e
  split at e
  ·simp only [Prod.mk.injEq] at e;obtain ⟨rfl,_⟩:=e;exact hl.elim
  ·exact still1 (w:=w) (ih _ (h _) _ _ r es' e hl) (by simp)
  ·simp only [Prod.mk.injEq] at e;obtain ⟨rfl,_⟩:=e;exact hl.elim
 | setObj a o k ih =>
  intro n h w es r es' e hl
  simp only [Sem.runT] at e
  split at e
  ·simp only [Prod.mk.injEq] at e;obtain ⟨rfl,_⟩:=e;exact hl.elim
  ·exact still1 (w:=w) (ih h _ _ r es' e hl) (by simp)
  ·simp only [Prod.mk.injEq] at e;obtain ⟨rfl,_⟩:=e;exact hl.elim
 | choose q k ih =>
  intro n h w es r es' e hl
  simp only [Sem.runT] at e
  split at e
  ·exact ih _ (h _) _ _ r es' e hl
  ·exact ih _ (h _) _ _ r es' e hl
 | sys c k ih =>
  intro n h w es r es' e hl
  simp only [Sem.runT] at e
  exact still1 (w:=w) (ih _ (h.1 _) _ _ r es' e hl) (by simp)
 | program k ih=>exact fun h w es r es' e hl=>ih _ h _ _ r es' e hl
 | mark m k ih =>
  intro n h w es r es' e hl
  simp only [Sem.runT] at e
  by_cases hd:m=.disable
  ·subst hd
   obtain ⟨h1,new,rfl,h2⟩:=ih (n:=n+1) h _ _ r es' e hl
   refine ⟨h1,#[⟨.mark .disable,false,true⟩] ++ new,by rw [<- Array.append_assoc,← Array.push_eq_append],fun d=>?_⟩
   rw [deafBehind_app]
   exact h2 d
  ·by_cases he:m=.enable
   ·subst he
    cases n with
    | zero=>exact h.elim
    | succ n =>
     obtain ⟨h1,new,rfl,h2⟩:=ih (n:=n) h _ _ r es' e hl
     refine ⟨h1,#[⟨.mark .enable,false,true⟩] ++ new,by rw [<- Array.append_assoc,← Array.push_eq_append],fun d=>?_⟩
     rw [deafBehind_app]
     exact h2 d
   ·have h' : Tame P ok k n:=by
     cases m with
     | enable=>exact absurd rfl he
     | disable=>exact absurd rfl hd
     | _=>exact h
    exact still1 (w:=w) (ih h' _ _ r es' e hl) (by simp [hd,he])
 | halt hh =>
  intro n h w es r es' e hl
  simp only [Sem.runT,Prod.mk.injEq] at e
  obtain ⟨rfl,rfl⟩:=e
  refine ⟨fun a w' e=>(by cases e),#[],by simp,fun d=>?_⟩
  cases n with
  | zero=>rfl
  | succ n=>exact absurd hl h
end Go.Proofs.YtgnbibinclepcaaGreatDoor.Lf
namespace Go.Proofs.YtgnbibinclepcaaGreatDoor.Lf
variable {P : Program} {α β : Type}
open Go.Conc
def MarkSync (e:Event):Prop:=∀ m,e.loc=.mark m->e.sync=true
theorem runT_marks (x:Sem α):∀ (w:World) (es:Array Event),(∀ e ∈ es,MarkSync e)->∀ e ∈ (x.runT P w es).2,MarkSync e:=by
 have push:∀ {es:Array Event} {ev:Event},(∀ e ∈ es,MarkSync e)->MarkSync ev->∀ e ∈ es.push ev,MarkSync e:=by
  intro es ev h he e hm
  rcases Array.mem_push.1 hm with hm|rfl
  ·exact h e hm
  ·exact he
 have app:∀ {es:Array Event} {l:List Addr} {wr sy:Bool},(∀ e ∈ es,MarkSync e)->∀ e ∈ es ++ l.toArray.map (fun a=>(⟨.cell a,wr,sy⟩:Event)),MarkSync e:=by
  intro es l wr sy h e hm
  rcases Array.mem_append.1 hm with hm|hm
  ·exact h e hm
  ·obtain ⟨a,_,rfl⟩:=Array.mem_map.1 hm
   exact fun m hm=>by cases hm
 induction x with
 | pure a=>exact fun w es h=>h
 | load m a k ih =>
  intro w es h
  simp only [Sem.runT]
  split
  ·exact ih _ _ _ (push h fun m hm=>by cases hm)
  ·split
   ·exact ih _ _ _ (app h)
   ·exact h
 | store m a v k ih =>
  intro w es h
  have plain:∀ e ∈ ((match w.cell? a with
    | some _=>if w.frozen? a then (.halt (.unsupported (.unsafePointer "a write to bytes that a string shares")) w,es) else k.runT P (w.setCell a v) (es.push ⟨.cell a,true,m == Mode.atomic⟩)
    | none=>match w.farStore P a v (m == Mode.atomic) with
     | .ok (w,touched)=>k.runT P w (es ++ touched.toArray.map (⟨.cell ·,true,m == Mode.atomic⟩))
     | .error h=>(.halt h w,es)):Result α × Array Event).2,MarkSync e:=by
   split
   ·split
    ·exact h
    ·exact ih _ _ (push h fun m hm=>by cases hm)
   ·split
    ·exact ih _ _ (app h)
    ·exact h
  cases v with
  | agg _=>exact h
  | tuple _=>exact h
  | _=>exact plain
 | new o k ih=>exact fun w es h=>ih _ _ _ h
 | shape o k ih=>exact fun w es h=>ih _ _ _ h
 | freeze a m k ih=>exact fun w es h=>ih _ _ h
 | frozen a k ih=>exact fun w es h=>ih _ _ _ h
 | getObj a k ih =>
  intro w es h
  simp only [Sem.runT]
  split
  ·exact h
  ·exact ih _ _ _ (push h fun m hm=>by cases hm)
  ·exact h
 | setObj a o k ih =>
  intro w es h
  simp only [Sem.runT]
  split
  ·exact h
  ·exact ih _ _ (push h fun m hm=>by cases hm)
  ·exact h
 | choose q k ih =>
  intro w es h
  simp only [Sem.runT]
  split
  ·exact ih _ _ _ h
  ·exact ih _ _ _ h
 | sys c k ih =>
  intro w es h
  exact ih _ _ _ (push h fun m hm=>by cases hm)
 | program k ih=>exact fun w es h=>ih _ _ _ h
 | mark m k ih =>
  intro w es h
  exact ih _ _ (push h fun m hm=>rfl)
 | halt hh=>exact fun w es h=>h
theorem deaf_seen (fn:FuncId) (es:Array Event) (h:∀ e ∈ es,MarkSync e) (d:Nat):deafBehind d (seen P fn es)=deafBehind d es:=by
 obtain ⟨l⟩:=es
 unfold seen
 simp only [List.foldl_toArray']
 generalize (P.funcs[fn]?).any (·.norace)=q0
 have key:∀ (l:List Event) (q:Bool) (kept:Array Event),(∀ e ∈ l,MarkSync e) →
   deafBehind d (l.foldl (fun (x:Bool × Array Event) e=>match e.loc with
    | .mark (.extern f)=>((P.funcs[f]?).any (·.norace),x.2)
    | _=>(x.1,if x.1 && !e.sync then x.2 else x.2.push e)) (q,kept)).2=deafBehind (deafBehind d kept) l.toArray:=by
  intro l
  induction l with
  | nil=>intro q kept _;simp [deafBehind]
  | cons e l ih =>
   intro q kept hl
   have he:=hl e (by simp)
   have hl' : ∀ e ∈ l,MarkSync e:=fun x hx=>hl x (by simp [hx])
   rw [List.foldl_cons,ConcR.deafBehind_cons]
   obtain ⟨loc,wr,sy⟩:=e
   by_cases hx:∃ f,loc=.mark (.extern f)
   ·obtain ⟨f,rfl⟩:=hx
    rw [ih _ _ hl']
    rfl
   ·have e1:(match (generalizing:=false) loc with
      | .mark (.extern f)=>((P.funcs[f]?).any (·.norace),kept)
      | _=>(q,if q && !sy then kept else kept.push ⟨loc,wr,sy⟩))=(q,if q && !sy then kept else kept.push ⟨loc,wr,sy⟩):=by
     split
     ·rename_i f;exact absurd ⟨f,rfl⟩ hx
     ·rfl
    dsimp only at e1 ⊢
    rw [e1,ih _ _ hl']
    cases hs:q && !sy with
    | false=>simp only [Bool.false_eq_true,if_false];rw [Array.push_eq_append,deafBehind_app]
    | true =>
     simp only [if_true]
     have:deafBehind (deafBehind d kept) #[⟨loc,wr,sy⟩]=deafBehind d kept:=by
      refine deafBehind_still (fun e hm=>?_) _
      rw [List.mem_toArray.1 hm |> List.mem_singleton.1]
      have hsy:sy=false:=by simpa using (Bool.and_eq_true_iff.1 hs).2
      refine ⟨fun hm=>?_,fun hm=>?_⟩ <;> · have:=he _ hm;dsimp only at this;rw [hsy] at this;cases this
     rw [this]
 have:=key l q0 #[] (fun e he=>h e (by simpa using he))
 refine Eq.trans ?_ this
 rfl
end Go.Proofs.YtgnbibinclepcaaGreatDoor.Lf
namespace Go.Proofs.YtgnbibinclepcaaGreatDoor.Lf
variable {P : Program}
theorem t_askRoom (bytes:Nat):T P (askRoom bytes):=by
 unfold askRoom;try dsimp only
 repeat' (first|with_reducible exact Tame.pureT|with_reducible apply Tame.bind|with_reducible apply t_noRoom|with_reducible apply Tame.map|with_reducible apply t_forIn_array|with_reducible apply t_forIn_range|with_reducible apply t_forIn_list|with_reducible apply t_mapM|with_reducible apply t_mapM_list|with_reducible apply Tame.ite|intro _|split|exact True.intro|dsimp only)
theorem t_viewAt (r:Nat):T P (viewAt r):=by
 unfold viewAt;try dsimp only
 repeat' (first|with_reducible exact Tame.pureT|with_reducible apply Tame.bind|with_reducible apply t_getObj|with_reducible apply t_shape|with_reducible apply Tame.map|with_reducible apply t_forIn_array|with_reducible apply t_forIn_range|with_reducible apply t_forIn_list|with_reducible apply t_mapM|with_reducible apply t_mapM_list|with_reducible apply Tame.ite|intro _|split|exact True.intro|dsimp only)
theorem t_numberAt (r:Nat):T P (numberAt r):=by
 unfold numberAt;try dsimp only
 repeat' (first|with_reducible exact Tame.pureT|with_reducible apply Tame.bind|with_reducible apply t_getObj|with_reducible apply t_shape|with_reducible apply Tame.map|with_reducible apply t_forIn_array|with_reducible apply t_forIn_range|with_reducible apply t_forIn_list|with_reducible apply t_mapM|with_reducible apply t_mapM_list|with_reducible apply Tame.ite|intro _|split|exact True.intro|dsimp only)
theorem t_cellsIn (r:Nat):T P (cellsIn r):=by
 unfold cellsIn;try dsimp only
 repeat' (first|with_reducible exact Tame.pureT|with_reducible apply Tame.bind|with_reducible apply t_getObj|with_reducible apply t_shape|with_reducible apply Tame.map|with_reducible apply t_forIn_array|with_reducible apply t_forIn_range|with_reducible apply t_forIn_list|with_reducible apply t_mapM|with_reducible apply t_mapM_list|with_reducible apply Tame.ite|intro _|split|exact True.intro|dsimp only)
theorem t_asNumber (a:Addr) (lost:Bool):T P (asNumber a lost):=by
 unfold asNumber;try dsimp only
 repeat' (first|with_reducible exact Tame.pureT|with_reducible apply Tame.bind|with_reducible apply t_new|with_reducible apply Tame.map|with_reducible apply t_forIn_array|with_reducible apply t_forIn_range|with_reducible apply t_forIn_list|with_reducible apply t_mapM|with_reducible apply t_mapM_list|with_reducible apply Tame.ite|intro _|split|exact True.intro|dsimp only)
theorem t_behindNumber (n:Addr):T P (behindNumber n):=by
 unfold behindNumber;try dsimp only
 repeat' (first|with_reducible exact Tame.pureT|with_reducible apply Tame.bind|with_reducible apply t_numberAt|with_reducible apply Tame.map|with_reducible apply t_forIn_array|with_reducible apply t_forIn_range|with_reducible apply t_forIn_list|with_reducible apply t_mapM|with_reducible apply t_mapM_list|with_reducible apply Tame.ite|intro _|split|exact True.intro|dsimp only)
theorem t_noView (a:Addr):T P (noView a):=by
 unfold noView;try dsimp only
 repeat' (first|with_reducible exact Tame.pureT|with_reducible apply Tame.bind|with_reducible apply t_unsupported|with_reducible apply t_viewAt|with_reducible apply Tame.map|with_reducible apply t_forIn_array|with_reducible apply t_forIn_range|with_reducible apply t_forIn_list|with_reducible apply t_mapM|with_reducible apply t_mapM_list|with_reducible apply Tame.ite|intro _|split|exact True.intro|dsimp only)
theorem t_markStringish (a:Addr):T P (markStringish a):=by
 unfold markStringish;try dsimp only
 repeat' (first|with_reducible exact Tame.pureT|with_reducible apply Tame.bind|with_reducible apply t_freeze|with_reducible apply t_shape|with_reducible apply Tame.map|with_reducible apply t_forIn_array|with_reducible apply t_forIn_range|with_reducible apply t_forIn_list|with_reducible apply t_mapM|with_reducible apply t_mapM_list|with_reducible apply Tame.ite|intro _|split|exact True.intro|dsimp only)
theorem t_stringish (a:Addr):T P (stringish a):=by
 unfold stringish;try dsimp only
 repeat' (first|with_reducible exact Tame.pureT|with_reducible apply Tame.bind|with_reducible apply t_frozen|with_reducible apply t_shape|with_reducible apply Tame.map|with_reducible apply t_forIn_array|with_reducible apply t_forIn_range|with_reducible apply t_forIn_list|with_reducible apply t_mapM|with_reducible apply t_mapM_list|with_reducible apply Tame.ite|intro _|split|exact True.intro|dsimp only)
theorem t_mayBeOne (a b:Addr):T P (mayBeOne a b):=by
 unfold mayBeOne;try dsimp only
 repeat' (first|with_reducible exact Tame.pureT|with_reducible apply Tame.bind|with_reducible apply t_shape|with_reducible apply t_stringish|with_reducible apply Tame.map|with_reducible apply t_forIn_array|with_reducible apply t_forIn_range|with_reducible apply t_forIn_list|with_reducible apply t_mapM|with_reducible apply t_mapM_list|with_reducible apply Tame.ite|intro _|split|exact True.intro|dsimp only)
theorem t_sameAddr (a b:Addr):T P (sameAddr a b):=by
 unfold sameAddr;try dsimp only
 repeat' (first|with_reducible exact Tame.pureT|with_reducible apply Tame.bind|with_reducible apply t_choose|with_reducible apply t_frozen|with_reducible apply t_mayBeOne|with_reducible apply t_noView|with_reducible apply t_unsupported|with_reducible apply Tame.map|with_reducible apply t_forIn_array|with_reducible apply t_forIn_range|with_reducible apply t_forIn_list|with_reducible apply t_mapM|with_reducible apply t_mapM_list|with_reducible apply Tame.ite|intro _|split|exact True.intro|dsimp only)
theorem t_samePointer:∀ x0 x1,T P (samePointer x0 x1):=by
 intro x0 x1;unfold samePointer;try dsimp only
 repeat' (first|with_reducible exact Tame.pureT|with_reducible apply Tame.bind|with_reducible apply t_sameAddr|with_reducible apply Tame.map|with_reducible apply t_forIn_array|with_reducible apply t_forIn_range|with_reducible apply t_forIn_list|with_reducible apply t_mapM|with_reducible apply t_mapM_list|with_reducible apply Tame.ite|intro _|split|exact True.intro|dsimp only)
theorem t_typeInfo (t:TypeId):T P (typeInfo t):=by
 unfold typeInfo;try dsimp only
 repeat' (first|with_reducible exact Tame.pureT|with_reducible apply Tame.bind|with_reducible apply t_program|with_reducible apply t_stuck|with_reducible apply Tame.map|with_reducible apply t_forIn_array|with_reducible apply t_forIn_range|with_reducible apply t_forIn_list|with_reducible apply t_mapM|with_reducible apply t_mapM_list|with_reducible apply Tame.ite|intro _|split|exact True.intro|dsimp only)
theorem t_underlying (t:TypeId):T P (underlying t):=by
 unfold underlying;try dsimp only
 repeat' (first|with_reducible exact Tame.pureT|with_reducible apply Tame.bind|with_reducible apply t_program|with_reducible apply t_stuck|with_reducible apply Tame.map|with_reducible apply t_forIn_array|with_reducible apply t_forIn_range|with_reducible apply t_forIn_list|with_reducible apply t_mapM|with_reducible apply t_mapM_list|with_reducible apply Tame.ite|intro _|split|exact True.intro|dsimp only)
theorem t_globalAddr (name:String):T P (globalAddr name):=by
 unfold globalAddr;try dsimp only
 repeat' (first|with_reducible exact Tame.pureT|with_reducible apply Tame.bind|with_reducible apply t_program|with_reducible apply t_stuck|with_reducible apply Tame.map|with_reducible apply t_forIn_array|with_reducible apply t_forIn_range|with_reducible apply t_forIn_list|with_reducible apply t_mapM|with_reducible apply t_mapM_list|with_reducible apply Tame.ite|intro _|split|exact True.intro|dsimp only)
theorem t_typeStr (t:TypeId):T P (typeStr t):=by
 unfold typeStr;try dsimp only
 repeat' (first|with_reducible exact Tame.pureT|with_reducible apply Tame.bind|with_reducible apply t_typeInfo|with_reducible apply t_unsupported|with_reducible apply Tame.map|with_reducible apply t_forIn_array|with_reducible apply t_forIn_range|with_reducible apply t_forIn_list|with_reducible apply t_mapM|with_reducible apply t_mapM_list|with_reducible apply Tame.ite|intro _|split|exact True.intro|dsimp only)
theorem t_zeroValue (t:TypeId):T P (zeroValue t):=by
 unfold zeroValue;try dsimp only
 repeat' (first|with_reducible exact Tame.pureT|with_reducible apply Tame.bind|with_reducible apply t_typeInfo|with_reducible apply t_unsupported|with_reducible apply Tame.map|with_reducible apply t_forIn_array|with_reducible apply t_forIn_range|with_reducible apply t_forIn_list|with_reducible apply t_mapM|with_reducible apply t_mapM_list|with_reducible apply Tame.ite|intro _|split|exact True.intro|dsimp only)
theorem t_sizeOf (t:TypeId):T P (sizeOf t):=by
 unfold sizeOf;try dsimp only
 repeat' (first|with_reducible exact Tame.pureT|with_reducible apply Tame.bind|with_reducible apply t_typeInfo|with_reducible apply Tame.map|with_reducible apply t_forIn_array|with_reducible apply t_forIn_range|with_reducible apply t_forIn_list|with_reducible apply t_mapM|with_reducible apply t_mapM_list|with_reducible apply Tame.ite|intro _|split|exact True.intro|dsimp only)
theorem t_isAgg (t:TypeId):T P (isAgg t):=by
 unfold isAgg;try dsimp only
 repeat' (first|with_reducible exact Tame.pureT|with_reducible apply Tame.bind|with_reducible apply t_underlying|with_reducible apply Tame.map|with_reducible apply t_forIn_array|with_reducible apply t_forIn_range|with_reducible apply t_forIn_list|with_reducible apply t_mapM|with_reducible apply t_mapM_list|with_reducible apply Tame.ite|intro _|split|exact True.intro|dsimp only)
theorem t_loadCellsFrom (a:Addr):∀ (n i:Nat) (acc:Array Value),T P (loadCellsFrom a i n acc)
 | 0,_,_=>trivial
 | n+1,i,acc=>by
  unfold loadCellsFrom
  exact Tame.bind (t_load _ _) fun _=>t_loadCellsFrom a n _ _
theorem t_loadCells (a:Addr) (n:Nat):T P (loadCells a n):=by
 unfold loadCells;try dsimp only
 repeat' (first|with_reducible exact Tame.pureT|with_reducible apply Tame.bind|with_reducible apply t_loadCellsFrom|with_reducible apply Tame.map|with_reducible apply t_forIn_array|with_reducible apply t_forIn_range|with_reducible apply t_forIn_list|with_reducible apply t_mapM|with_reducible apply t_mapM_list|with_reducible apply Tame.ite|intro _|split|exact True.intro|dsimp only)
theorem t_storeCells (a:Addr):∀ (vs:List Value) (i:Nat),T P (storeCells a vs i)
 | [],_=>trivial
 | v::rest,i=>by
  unfold storeCells
  exact Tame.bind (t_store _ _ _) fun _=>t_storeCells a rest _
theorem t_loadVar (t:TypeId) (a:Addr):T P (loadVar t a):=by
 unfold loadVar;try dsimp only
 repeat' (first|with_reducible exact Tame.pureT|with_reducible apply Tame.bind|with_reducible apply t_isAgg|with_reducible apply t_load|with_reducible apply t_loadCells|with_reducible apply t_sizeOf|with_reducible apply Tame.map|with_reducible apply t_forIn_array|with_reducible apply t_forIn_range|with_reducible apply t_forIn_list|with_reducible apply t_mapM|with_reducible apply t_mapM_list|with_reducible apply Tame.ite|intro _|split|exact True.intro|dsimp only)
theorem t_storeVar (t:TypeId) (a:Addr) (v:Value):T P (storeVar t a v):=by
 unfold storeVar;try dsimp only
 repeat' (first|with_reducible exact Tame.pureT|with_reducible apply Tame.bind|with_reducible apply t_sizeOf|with_reducible apply t_storeCells|with_reducible apply t_stuck|with_reducible apply Tame.map|with_reducible apply t_forIn_array|with_reducible apply t_forIn_range|with_reducible apply t_forIn_list|with_reducible apply t_mapM|with_reducible apply t_mapM_list|with_reducible apply Tame.ite|intro _|split|exact True.intro|dsimp only)
theorem t_newRow (elem:TypeId) (cells:Array Value):T P (newRow elem cells):=by
 unfold newRow;try dsimp only
 repeat' (first|with_reducible exact Tame.pureT|with_reducible apply Tame.bind|with_reducible apply t_new|with_reducible apply Tame.map|with_reducible apply t_forIn_array|with_reducible apply t_forIn_range|with_reducible apply t_forIn_list|with_reducible apply t_mapM|with_reducible apply t_mapM_list|with_reducible apply Tame.ite|intro _|split|exact True.intro|dsimp only)
theorem t_newVar (t:TypeId) (v:Value):T P (newVar t v):=by
 unfold newVar;try dsimp only
 repeat' (first|with_reducible exact Tame.pureT|with_reducible apply Tame.bind|with_reducible apply t_newRow|with_reducible apply Tame.map|with_reducible apply t_forIn_array|with_reducible apply t_forIn_range|with_reducible apply t_forIn_list|with_reducible apply t_mapM|with_reducible apply t_mapM_list|with_reducible apply Tame.ite|intro _|split|exact True.intro|dsimp only)
theorem t_elemOf (t:TypeId):T P (elemOf t):=by
 unfold elemOf;try dsimp only
 repeat' (first|with_reducible exact Tame.pureT|with_reducible apply Tame.bind|with_reducible apply t_stuck|with_reducible apply t_underlying|with_reducible apply Tame.map|with_reducible apply t_forIn_array|with_reducible apply t_forIn_range|with_reducible apply t_forIn_list|with_reducible apply t_mapM|with_reducible apply t_mapM_list|with_reducible apply Tame.ite|intro _|split|exact True.intro|dsimp only)
theorem t_part (t:TypeId) (cs:Array Value) (off:Nat):T P (part t cs off):=by
 unfold part;try dsimp only
 repeat' (first|with_reducible exact Tame.pureT|with_reducible apply Tame.bind|with_reducible apply t_isAgg|with_reducible apply t_sizeOf|with_reducible apply t_stuck|with_reducible apply Tame.map|with_reducible apply t_forIn_array|with_reducible apply t_forIn_range|with_reducible apply t_forIn_list|with_reducible apply t_mapM|with_reducible apply t_mapM_list|with_reducible apply Tame.ite|intro _|split|exact True.intro|dsimp only)
theorem t_runtimePanic {α:Type} {ok:α->Prop}  (e:RuntimeError):Tame P ok (runtimePanic e:Sem α) 0:=by
 unfold runtimePanic;try dsimp only
 repeat' (first|with_reducible exact Tame.pureT|with_reducible apply Tame.bind|with_reducible apply t_elemOf|with_reducible apply t_goPanic|with_reducible apply t_newVar|with_reducible apply t_program|with_reducible apply Tame.map|with_reducible apply t_forIn_array|with_reducible apply t_forIn_range|with_reducible apply t_forIn_list|with_reducible apply t_mapM|with_reducible apply t_mapM_list|with_reducible apply Tame.ite|intro _|split|exact True.intro|dsimp only)
theorem t_boundsPanic {α:Type} {ok:α->Prop}  (k:IntKind) (x y:Int) (code:BoundsCode):Tame P ok (boundsPanic k x y code:Sem α) 0:=by
 unfold boundsPanic;try dsimp only
 repeat' (first|with_reducible exact Tame.pureT|with_reducible apply Tame.bind|with_reducible apply t_choose|with_reducible apply t_runtimePanic|with_reducible apply Tame.map|with_reducible apply t_forIn_array|with_reducible apply t_forIn_range|with_reducible apply t_forIn_list|with_reducible apply t_mapM|with_reducible apply t_mapM_list|with_reducible apply Tame.ite|intro _|split|exact True.intro|dsimp only)
theorem t_asIntOf:∀ x0,T P (asIntOf x0):=by
 intro x0;unfold asIntOf;try dsimp only
 repeat' (first|with_reducible exact Tame.pureT|with_reducible apply Tame.bind|with_reducible apply t_stuck|with_reducible apply t_unsupported|with_reducible apply Tame.map|with_reducible apply t_forIn_array|with_reducible apply t_forIn_range|with_reducible apply t_forIn_list|with_reducible apply t_mapM|with_reducible apply t_mapM_list|with_reducible apply Tame.ite|intro _|split|exact True.intro|dsimp only)
theorem t_asInt (v:Value):T P (asInt v):=by
 unfold asInt;try dsimp only
 repeat' (first|with_reducible exact Tame.pureT|with_reducible apply Tame.bind|with_reducible apply t_asIntOf|with_reducible apply Tame.map|with_reducible apply t_forIn_array|with_reducible apply t_forIn_range|with_reducible apply t_forIn_list|with_reducible apply t_mapM|with_reducible apply t_mapM_list|with_reducible apply Tame.ite|intro _|split|exact True.intro|dsimp only)
theorem t_asBool:∀ x0,T P (asBool x0):=by
 intro x0;unfold asBool;try dsimp only
 repeat' (first|with_reducible exact Tame.pureT|with_reducible apply Tame.bind|with_reducible apply t_stuck|with_reducible apply Tame.map|with_reducible apply t_forIn_array|with_reducible apply t_forIn_range|with_reducible apply t_forIn_list|with_reducible apply t_mapM|with_reducible apply t_mapM_list|with_reducible apply Tame.ite|intro _|split|exact True.intro|dsimp only)
theorem t_asString:∀ x0,T P (asString x0):=by
 intro x0;unfold asString;try dsimp only
 repeat' (first|with_reducible exact Tame.pureT|with_reducible apply Tame.bind|with_reducible apply t_stuck|with_reducible apply Tame.map|with_reducible apply t_forIn_array|with_reducible apply t_forIn_range|with_reducible apply t_forIn_list|with_reducible apply t_mapM|with_reducible apply t_mapM_list|with_reducible apply Tame.ite|intro _|split|exact True.intro|dsimp only)
theorem t_asAgg:∀ x0,T P (asAgg x0):=by
 intro x0;unfold asAgg;try dsimp only
 repeat' (first|with_reducible exact Tame.pureT|with_reducible apply Tame.bind|with_reducible apply t_stuck|with_reducible apply Tame.map|with_reducible apply t_forIn_array|with_reducible apply t_forIn_range|with_reducible apply t_forIn_list|with_reducible apply t_mapM|with_reducible apply t_mapM_list|with_reducible apply Tame.ite|intro _|split|exact True.intro|dsimp only)
theorem t_asAddr:∀ x0,T P (asAddr x0):=by
 intro x0;unfold asAddr;try dsimp only
 repeat' (first|with_reducible exact Tame.pureT|with_reducible apply Tame.bind|with_reducible apply t_runtimePanic|with_reducible apply t_stuck|with_reducible apply Tame.map|with_reducible apply t_forIn_array|with_reducible apply t_forIn_range|with_reducible apply t_forIn_list|with_reducible apply t_mapM|with_reducible apply t_mapM_list|with_reducible apply Tame.ite|intro _|split|exact True.intro|dsimp only)
end Go.Proofs.YtgnbibinclepcaaGreatDoor.Lf
