
import Derived.Test.YtgnbibinclepcaaGreatDoorZLfOps
import Derived.KernelRfl
import Derived.Test.YtgnbibinclepcaaGreatDoorZP0
set_option linter.unusedVariables false
namespace Go.Proofs.YtgnbibinclepcaaGreatDoor.Lf
variable {P : Program}
def okN:Next->Prop
 | .value _ | .skip | .enter .. | .round .. | .defer _ | .recover | .spawn _ | .comm ..=>True
 | .row r _=>r = "runtime.print$piece"
 | .coroswitch _ e=>e=true
 | _=>False
def CF (P:Program):Prop:=∀ f args,Tame P okN (callFunc f args) 0
theorem t_v {x:Sem Value} (h:T P x):Tame P okN (x >>= fun v=>(pure (.value v):Sem Next)) 0:=Tame.bind h fun _=>trivial
theorem t_u {x:Sem Unit} (h:T P x):Tame P okN (x >>= fun _=>(pure .skip:Sem Next)) 0:=Tame.bind h fun _=>trivial
theorem t_movedNumber (t:TypeId) (x y:Value):T P (movedNumber t x y):=by
 unfold movedNumber;try dsimp only
 repeat' (first|with_reducible exact Tame.pureT|with_reducible apply Tame.bind|with_reducible apply t_Builtin_unsafeAdd_|with_reducible apply t_Conv_unsafePointer|with_reducible apply t_asNumber|with_reducible apply t_behindNumber|with_reducible apply t_underlying|with_reducible apply t_unsupported|with_reducible apply Tame.map|with_reducible apply t_forIn_array|with_reducible apply t_forIn_range|with_reducible apply t_forIn_list|with_reducible apply t_mapM|with_reducible apply t_mapM_list|with_reducible apply Tame.ite|intro _|split|exact True.intro|dsimp only)
theorem t_movedPointer (t:TypeId) (x y:Value):T P (movedPointer t x y):=by
 unfold movedPointer;try dsimp only
 repeat' (first|with_reducible exact Tame.pureT|with_reducible apply Tame.bind|with_reducible apply t_Builtin_unsafeAdd_|with_reducible apply t_numberAt|with_reducible apply t_unsupported|with_reducible apply Tame.map|with_reducible apply t_forIn_array|with_reducible apply t_forIn_range|with_reducible apply t_forIn_list|with_reducible apply t_mapM|with_reducible apply t_mapM_list|with_reducible apply Tame.ite|intro _|split|exact True.intro|dsimp only)
theorem t_eqGuard (op:BinOp) (t:TypeId) (x y:Operand) (a b:Value):T P (eqGuard op t x y a b):=by
 unfold eqGuard;try dsimp only
 repeat' (first|with_reducible exact Tame.pureT|with_reducible apply Tame.bind|with_reducible apply t_Op_eqGuardIn|with_reducible apply t_part|with_reducible apply t_program|with_reducible apply t_unsupported|with_reducible apply Tame.map|with_reducible apply t_forIn_array|with_reducible apply t_forIn_range|with_reducible apply t_forIn_list|with_reducible apply t_mapM|with_reducible apply t_mapM_list|with_reducible apply Tame.ite|intro _|split|exact True.intro|dsimp only)
theorem t_binOp (op:BinOp) (xType:TypeId) (x y:Value):T P (binOp op xType x y):=by
 unfold binOp;try dsimp only
 repeat' (first|with_reducible exact Tame.pureT|with_reducible apply Tame.bind|with_reducible apply t_Conv_unsafePointer|with_reducible apply t_Op_Complex_add|with_reducible apply t_Op_Complex_mul|with_reducible apply t_Op_Complex_quo|with_reducible apply t_Op_Complex_sub|with_reducible apply t_Op_addrCmp|with_reducible apply t_Op_addrMod|with_reducible apply t_Op_addrSub|with_reducible apply t_Op_complexOp|with_reducible apply t_Op_equal|with_reducible apply t_Op_floatArith|with_reducible apply t_Op_floatCmp|with_reducible apply t_Op_intArith|with_reducible apply t_Op_intBits|with_reducible apply t_Op_intCmp|with_reducible apply t_Op_intDiv|with_reducible apply t_Op_shift|with_reducible apply t_Op_stringOp|with_reducible apply t_behindNumber|with_reducible apply t_movedNumber|with_reducible apply t_movedPointer|with_reducible apply t_stuck|with_reducible apply t_underlying|with_reducible apply t_unsupported|with_reducible apply Tame.map|with_reducible apply t_forIn_array|with_reducible apply t_forIn_range|with_reducible apply t_forIn_list|with_reducible apply t_mapM|with_reducible apply t_mapM_list|with_reducible apply Tame.ite|intro _|split|exact True.intro|dsimp only)
theorem t_convert (src dst:TypeId) (x:Value):T P (convert src dst x):=by
 unfold convert;try dsimp only
 repeat' (first|with_reducible exact Tame.pureT|with_reducible apply Tame.bind|with_reducible apply t_Conv_bytesToString|with_reducible apply t_Conv_complexToComplex|with_reducible apply t_Conv_floatToFloat|with_reducible apply t_Conv_floatToInt|with_reducible apply t_Conv_intToFloat|with_reducible apply t_Conv_intToInt|with_reducible apply t_Conv_intToString|with_reducible apply t_Conv_runesToString|with_reducible apply t_Conv_stringToBytes|with_reducible apply t_Conv_stringToRunes|with_reducible apply t_Conv_unsafePointer|with_reducible apply t_Instr_slice|with_reducible apply t_markStringish|with_reducible apply t_stuck|with_reducible apply t_underlying|with_reducible apply t_unsupported|with_reducible apply Tame.map|with_reducible apply t_forIn_array|with_reducible apply t_forIn_range|with_reducible apply t_forIn_list|with_reducible apply t_mapM|with_reducible apply t_mapM_list|with_reducible apply Tame.ite|intro _|split|exact True.intro|dsimp only)
theorem t_resolve (ρ:Operand->Value) (c:Call) (type:TypeId):T P (resolve ρ c type):=by
 unfold resolve;try dsimp only
 repeat' (first|with_reducible exact Tame.pureT|with_reducible apply Tame.bind|with_reducible apply t_Deferred_ofValue|with_reducible apply t_method|with_reducible apply Tame.map|with_reducible apply t_forIn_array|with_reducible apply t_forIn_range|with_reducible apply t_forIn_list|with_reducible apply t_mapM|with_reducible apply t_mapM_list|with_reducible apply Tame.ite|intro _|split|exact True.intro|dsimp only)
end Go.Proofs.YtgnbibinclepcaaGreatDoor.Lf
namespace Go.Proofs.YtgnbibinclepcaaGreatDoor.Lf
variable {P : Program}
theorem t_writeFd (fd:Nat) (b:ByteArray):T P (writeFd fd b):=by
 refine ⟨fun r=>?_,_,rfl,fun h=>h⟩
 cases r <;> trivial
theorem t_piece (a b:Array TypeId) (args:Array Value):Tame P okN (Extern.PrintPieces.piece a b args) 0:=by
 have tail:∀ (first last:Bool) (p:ByteArray),Tame P okN (do
   writeFd 2 p
   if !last then return .row "runtime.print$piece" (#[.bool false] ++ args.extract 2 args.size)
   if !first then
    mark .disable
    store (printLock (← program)) (.bool false) .atomic
    mark .enable
   pure (.value (.tuple #[]))) 0:=by
  intro first last p
  refine Tame.bind (t_writeFd _ _) fun _=>?_
  split
  ·exact rfl
  ·split
   ·show Tame P okN _ 1
    exact trivial
   ·exact trivial
 unfold Extern.PrintPieces.piece
 split
 ·split
  ·dsimp only
   generalize (args.size == 2)=last at *
   rename_i first _ _ p _
   split
   ·exact trivial
   ·split
    ·intro v
     cases v with
     | bool b =>
      cases b
      ·cases last
       ·exact tail first false p
       ·exact tail first true p
      ·exact fun h=>h
     | _=>exact fun h=>h
    ·exact tail first last p
  ·trivial
 ·trivial
theorem t_printMarked (ln:Bool) (consts:Array Bool) (ts:Array TypeId) (args:Array Value):Tame P okN (Builtin.printMarked ln consts ts args) 0:=by
 unfold Builtin.printMarked
 refine Tame.bind ?_ fun _=>?_
 ·unfold Builtin.pieces Builtin.printOne
  refine Tame.bind ?_ fun _=>?_
  ·rw [Std.Legacy.Range.forIn'_eq_forIn'_range']
   refine t_forIn'_list _ _ (fun a _ s=>?_) _
   repeat' (first|with_reducible exact Tame.pureT|with_reducible apply Tame.bind|with_reducible apply t_typeInfo|with_reducible apply t_unsupported|with_reducible apply t_stuck|with_reducible apply t_forIn_range|with_reducible apply t_forIn_array|with_reducible apply Tame.ite|intro _|split|dsimp only)
  ·split <;> trivial
 ·split
  ·trivial
  ·exact t_piece _ _ _
theorem t_builtin (b:Builtin) (ts:Array TypeId) (t:TypeId) (cs:Array Bool) (args:Array Value):Tame P okN (builtin b ts t cs args) 0:=by
 cases b
 all_goals first
  | exact t_printMarked _ _ _ _
  | exact rfl
  | exact trivial
  | exact t_v (t_Builtin_append_ _ _ _)
  | exact t_v (t_Builtin_cap_ _ _ _)
  | exact t_v (t_Builtin_clear_ _ _ _)
  | exact t_v (t_Builtin_close_ _ _ _)
  | exact t_v (t_Builtin_complex_ _ _ _)
  | exact t_v (t_Builtin_copy_ _ _ _)
  | exact t_v (t_Builtin_delete_ _ _ _)
  | exact t_v (t_Builtin_imag_ _ _ _)
  | exact t_v (t_Builtin_len_ _ _ _)
  | exact t_v (t_Builtin_max_ _ _ _)
  | exact t_v (t_Builtin_min_ _ _ _)
  | exact t_v (t_Instr_panic _)
  | exact t_v (t_Builtin_real_ _ _ _)
  | exact t_v (t_Builtin_unsafeAdd_ _ _ _)
  | exact t_v (t_Builtin_unsafeSlice_ _ _ _)
  | exact t_v (t_Builtin_unsafeSliceData_ _ _ _)
  | exact t_v (t_Builtin_unsafeString_ _ _ _)
  | exact t_v (t_Builtin_unsafeStringData_ _ _ _)
  | exact Tame.bind (t_typeInfo _) fun _=>trivial
theorem t_callMethod (h:CF P) (r:Value) (n:String) (args:Array Value):Tame P okN (callMethod r n args) 0:=by
 unfold callMethod
 split
 ·exact Tame.bind t_program fun _=>Tame.bind (t_method _ _ _ _) fun _=>h _ _
 ·exact t_runtimePanic _
 ·trivial
theorem t_yield (l:Nat) (args:Array Value):Tame P okN (Instr.yield l args) 0:=by
 unfold Instr.yield
 refine Tame.bind (t_Instr_getLoop _) fun _=>?_
 split <;> trivial
theorem t_invoke (h:CF P) (t:Target) (args:Array Value):Tame P okN (invoke t args) 0:=by
 unfold invoke
 split
 ·exact t_runtimePanic _
 ·exact t_builtin _ _ _ _ _
 ·exact h _ _
 ·split
  ·exact t_callMethod h _ _ _
  ·trivial
 ·split
  ·refine Tame.bind (t_underlying _) fun _=>?_
   split <;> exact t_callMethod h _ _ _
  ·trivial
 ·split
  ·exact Tame.bind (t_receiverVia _ _ _ _) fun _=>h _ _
  ·trivial
 ·exact t_yield _ _
 ·trivial
 ·exact rfl
end Go.Proofs.YtgnbibinclepcaaGreatDoor.Lf
set_option linter.unusedVariables false
namespace Go.Proofs.YtgnbibinclepcaaGreatDoor.Lf
variable {P : Program}
theorem t_execOp (h:CF P) (ρ:Operand->Value) (o:Oper):Tame P okN (execOp ρ o) 0:=by
 unfold execOp
 cases o.op with
 | call c=>exact Tame.bind (t_resolve _ _ _) fun _=>t_invoke h _ _
 | go c=>exact Tame.bind (t_resolve _ _ _) fun _=>trivial
 | defer c=>exact Tame.bind (t_resolve _ _ _) fun _=>trivial
 | nilCheck x =>
  dsimp only
  split
  ·exact t_runtimePanic _
  ·exact t_runtimePanic _
  ·exact t_runtimePanic _
  ·split
   ·exact t_runtimePanic _
   ·refine Tame.bind t_program fun _=>Tame.bind (t_nilAhead _ _ _ _) fun _=>?_
    split <;> trivial
   ·trivial
  ·trivial
 | pick c a b=>exact Tame.bind (t_asBool _) fun _=>trivial
 | recv t c ok =>
  dsimp only
  refine Tame.bind (t_underlying _) fun _=>?_
  split
  ·exact Tame.bind (t_zeroValue _) fun _=>trivial
  ·trivial
 | select cases b =>
  refine Tame.bind (t_mapM _ (fun _=>Tame.bind (t_zeroValue _) fun _=>Tame.pureT) _) fun _=>trivial
 | send a b=>exact trivial
 | move x=>exact trivial
 | assign x=>exact trivial
 | alloc e=>exact t_v (t_Instr_alloc _ _ _)
 | box e x=>exact t_v (t_Instr_box _ _)
 | build t p=>exact t_v (t_Instr_build _ _)
 | buildSlice t l p=>exact t_v (t_Instr_buildSlice _ _ _)
 | load t a=>exact t_v (t_Instr_loadAt _ _)
 | store t a x=>exact t_u (t_Instr_storeAt _ _ _)
 | ready g=>exact t_u (t_Instr_ready _)
 | waits g=>exact t_v (t_Instr_waits _)
 | binOp op t x y _=>exact t_v (Tame.bind (t_eqGuard _ _ _ _ _ _) fun _=>t_binOp _ _ _ _)
 | unOp op t x=>exact t_v (t_Op_unary _ _)
 | convert s d x=>exact t_v (t_convert _ _ _)
 | sliceToArrayPointer a x=>exact t_v (t_Instr_arrayAt _ _)
 | makeInterface t x=>exact t_v (t_Instr_makeInterface _ _)
 | makeFunc f a b=>exact t_v (t_Instr_makeFunc _ _ _)
 | makeMap t r=>exact t_v (t_Instr_makeMap _ _)
 | makeChan t s=>exact t_v (t_Instr_makeChan _ _)
 | makeSlice t l c=>exact t_v (t_Instr_makeSlice _ _ _)
 | slice t x lo hi mx=>exact t_v (t_Instr_sliceAt _ _ _ _ _)
 | fieldAddr s x f=>exact t_v (t_Instr_fieldAt _ _ _)
 | field t x f=>exact t_v (t_Instr_field _ _ _)
 | indexAddr t x i=>exact t_v (t_Instr_indexAt _ _ _)
 | index t x i=>exact t_v (t_Instr_index _ _ _)
 | lookup t x i ok=>exact t_v (t_Instr_lookup _ _ _ _)
 | mapUpdate t m k x=>exact t_u (t_Instr_mapUpdate _ _ _ _)
 | insert t m k x=>exact t_u (t_Instr_mapUpdate _ _ _ _)
 | mapEntry t m k=>exact t_v (t_Instr_mapEntry _ _ _)
 | entryStore t m s x=>exact t_u (t_Instr_entryStore _ _ _ _)
 | range t x=>exact t_v (t_Instr_range _ _)
 | next i s=>exact t_v (t_Instr_next _ _ _)
 | entry i=>exact t_v (t_Instr_entry _)
 | typeAssert x a b ok=>exact t_v (t_Instr_typeAssert _ _ _ _)
 | extract t i=>exact t_v (t_Instr_extract _ _)
 | panic x=>exact t_v (t_Instr_panic _)
theorem next_piece:Extern.next "runtime.print$piece" = some (Extern.PrintPieces.piece #[] #[]):=by kernel_rfl
end Go.Proofs.YtgnbibinclepcaaGreatDoor.Lf
set_option linter.unusedVariables false
set_option linter.unusedSimpArgs false
namespace Go.Proofs.YtgnbibinclepcaaGreatDoor.Lf
variable {P : Program} {α β : Type}
open Go.Conc
def FitItem:Item->Prop
 | .call ..=>False
 | .extern row _=>row = "runtime.print$piece"
 | _=>True
def FitFrame (fr:Frame):Prop:=∀ x ∈ fr.todo,FitItem x
def Fit (g:Goroutine):Prop:=FitFrame g.frame/\∀ f ∈ g.callers,FitFrame f
def bkOf (fr:Frame) (cs:List Frame):CallKind:=(cs.getLast?.getD fr).kind
def Quiet (es:Array Event):Prop:=∀ d,deafBehind d es=d
def _root_.Go.GStep.going:GStep->Prop
 | .go g _ _=>g.status=.running/\g.dying=none
 | .comm g _ _ _ _ _=>g.dying=none
 | .coroswitch g _ _ _ _=>g.dying=none
 | _=>False
def _root_.Go.GStep.wld:GStep->World
 | .go _ w _ | .comm _ _ _ _ w _ | .spawn _ _ w _ | .count _ w _ | .timer _ _ w _ | .alone _ _ w _ | .newcoro _ _ _ w _ | .coroswitch _ _ _ w _ | .collect _ w _ | .watch _ w _ | .ended _ w _=>w
def _root_.Go.GStep.re (s:GStep) (T:Nat->Question->Nat) (j:Nat):GStep :=
 match s with
 | .go g w es=>.go g (w.re T j) es
 | .comm g c b sh w es=>.comm g c b sh (w.re T j) es
 | .coroswitch g c e w es=>.coroswitch g c e (w.re T j) es
 | s=>s
def Dies (dy:Option Dying) (k:CallKind) (g:Goroutine):Prop:=(g.dying=dy/\(dy.isSome=true->bkOf g.frame g.callers=k)) ∨ ∃ d,g.dying=some d/\d.calling=false
def _root_.Go.GStep.kind (dy:Option Dying) (k:CallKind):GStep->Prop
 | .go g _ es=>Dies dy k g/\(g.status=.running/\g.dying=none->Quiet es)/\(g.status=.running ∨ g.status=.blocked ∨ g.status=.waiting ∨ g.status=.finished)/\(g.status=.running->Fit g)
 | .comm g _ _ _ _ es=>Dies dy k g/\g.status=.running/\(g.dying=none->Quiet es)/\Fit g
 | .spawn _ _ _ _=>True
 | .coroswitch g _ e _ es=>e=true/\Dies dy k g/\g.status=.running/\(g.dying=none->Quiet es)/\Fit g
 | .ended _ _ _=>True
 | _=>False
structure Sound (P:Program) (dy:Option Dying) (k:CallKind) (f:World->GStep) (w:World):Prop where
 loc:(f w).going->w.drawn<=(f w).wld.drawn/\(f w).wld.tape=w.tape/\∀ T j,Agree w (f w).wld T j->f (w.re T j)=(f w).re T (j+((f w).wld.drawn - w.drawn))
 kind:(f w).kind dy k
variable {dy : Option Dying} {k0 : CallKind}
theorem Sound.go {g:Goroutine} {w:World} {es:Array Event} (h:(GStep.go g w es).kind dy k0):Sound P dy k0 (fun w=>.go g w es) w :=
 ⟨fun _=>⟨Nat.le_refl _,rfl,fun T j _=>by simp [GStep.re,GStep.wld,World.re]⟩,h⟩
theorem Sound.comm {g:Goroutine} {c:Array CommCase} {b:Bool} {sh:CommShape} {w:World} {es:Array Event} (h:(GStep.comm g c b sh w es).kind dy k0):Sound P dy k0 (fun w=>.comm g c b sh w es) w :=
 ⟨fun _=>⟨Nat.le_refl _,rfl,fun T j _=>by simp [GStep.re,GStep.wld,World.re]⟩,h⟩
theorem Sound.coro {g:Goroutine} {c:Nat} {e:Bool} {w:World} {es:Array Event} (h:(GStep.coroswitch g c e w es).kind dy k0):Sound P dy k0 (fun w=>.coroswitch g c e w es) w :=
 ⟨fun _=>⟨Nat.le_refl _,rfl,fun T j _=>by simp [GStep.re,GStep.wld,World.re]⟩,h⟩
theorem Sound.still {f:World->GStep} {w:World} (h:¬ (f w).going) (hk:(f w).kind dy k0):Sound P dy k0 f w:=⟨fun g=>absurd g h,hk⟩
theorem Sound.ended {o:World->Outcome} {u:World->World} {es:World->Array Event} {w:World}:Sound P dy k0 (fun w=>.ended (o w) (u w) (es w)) w:=.still (fun h=>h) trivial
def _root_.Go.Result.put {α:Type} (r:Result α) (w:World):Result α:=match r with | .ok v _=>.ok v w | .halt h _=>.halt h w
theorem Sound.core {ok:α->Prop} {s:Sem α} (hs:Tame P ok s 0) {f G:World->GStep} {w:World} {r:Result α} {es:Array Event} (hr:s.runT P w #[]=(r,es)) (hl:r.live)
  (g1:∀ w' w1,s.runT P w' #[]=(r.put w1,es)->f w' = G w1) (g2:∀ w1,Sound P dy k0 G w1):Sound P dy k0 f w:=by
 obtain ⟨l1,l2,l3⟩:=(tame_loc hs w #[]).run r es hr hl
 have e0:f w=G r.world:=g1 w r.world (by rw [hr];cases r <;> rfl)
 refine ⟨fun hg=>?_,?_⟩
 ·rw [e0] at hg ⊢
  obtain ⟨m1,m2,m3⟩:=(g2 r.world).loc hg
  refine ⟨by omega,m2.trans l2,fun T j hT=>?_⟩
  have a1:=l3 T j (fun i hi=>hT i (by omega))
  have a2:=m3 T (j+(r.world.drawn - w.drawn)) (agree_sub hT l2 l1)
  rw [g1 _ (r.world.re T (j+(r.world.drawn - w.drawn))) (by rw [a1];cases r <;> rfl),a2]
  congr 1
  omega
 ·rw [e0]
  exact (g2 r.world).kind
theorem Sound.run {ok:α->Prop} {s:Sem α} (hs:Tame P ok s 0) {f:World->GStep} {w:World}
  (h1:∀ v es,ok v->Quiet es->(∀ e ∈ es,MarkSync e)->∃ G:World->GStep,(∀ w' w1,s.runT P w' #[]=(.ok v w1,es)->f w' = G w1)/\∀ w1,Sound P dy k0 G w1)
  (h2:∀ h es,h.live->(h.loud->Quiet es)->(∀ e ∈ es,MarkSync e)->∃ G:World->GStep,(∀ w' w1,s.runT P w' #[]=(.halt h w1,es)->f w' = G w1)/\∀ w1,Sound P dy k0 G w1)
  (h3:∀ h es w' w1,¬ h.live->s.runT P w' #[]=(.halt h w1,es)->¬ (f w').going/\(f w').kind dy k0):Sound P dy k0 f w:=by
 have hm:=runT_marks (P:=P) s w #[] (by simp)
 generalize hr:s.runT P w #[]=q at hm
 obtain ⟨r,es⟩:=q
 have hq:r.loud->(∀ a w',r=.ok a w' -> ok a)/\Quiet es:=fun hl=>by
  obtain ⟨a1,new,a2,a3⟩:=tame_deaf hs w #[] r es hr hl
  exact ⟨a1,by intro d;rw [a2];simpa using a3 d⟩
 cases r with
 | ok v w1 =>
  obtain ⟨G,g1,g2⟩:=h1 v es ((hq trivial).1 v w1 rfl) (hq trivial).2 hm
  exact .core hs hr trivial g1 g2
 | halt h w1 =>
  by_cases hl:h.live
  ·obtain ⟨G,g1,g2⟩:=h2 h es hl (fun lo=>(hq lo).2) hm
   exact .core hs hr hl g1 g2
  ·obtain ⟨x1,x2⟩:=h3 h es w w1 hl hr
   exact .still x1 x2
theorem Sound.run1 {ok:α->Prop} {s:Sem α} (hs:Tame P ok s 0) {f:World->GStep} {w:World}
  (h1:∀ v es,ok v->Quiet es->(∀ e ∈ es,MarkSync e)->∃ G:World->GStep,(∀ w' w1,s.runT P w' #[]=(.ok v w1,es)->f w' = G w1)/\∀ w1,Sound P dy k0 G w1)
  (h3:∀ h es w' w1,s.runT P w' #[]=(.halt h w1,es)->¬ (f w').going/\(f w').kind dy k0):Sound P dy k0 f w:=by
 have hm:=runT_marks (P:=P) s w #[] (by simp)
 generalize hr:s.runT P w #[]=q at hm
 obtain ⟨r,es⟩:=q
 cases r with
 | ok v w1 =>
  obtain ⟨a1,new,a2,a3⟩:=tame_deaf hs w #[] _ es hr trivial
  obtain ⟨G,g1,g2⟩:=h1 v es (a1 v w1 rfl) (by intro d;rw [a2];simpa using a3 d) hm
  exact .core hs hr trivial g1 g2
 | halt h w1 =>
  obtain ⟨x1,x2⟩:=h3 h es w w1 hr
  exact .still x1 x2
/-! ### frames -/
theorem fit_tail {fr:Frame} {x:Item} {k:List Item} (h:FitFrame fr) (e:fr.todo=x::k):∀ y ∈ k,FitItem y:=fun y hy=>h y (by rw [e];simp [hy])
theorem fit_finish {fr:Frame} (v:Value) (h:FitFrame fr):FitFrame (fr.finish v):=by
 obtain ⟨fn,tmps,todo,defers,mode,kind,ro⟩:=fr
 cases todo with
 | nil=>exact h
 | cons x k =>
  have hk:∀ y ∈ k,FitItem y:=fit_tail h rfl
  cases x with
  | inRegion ops l =>
   cases l with
   | nil=>exact h
   | cons i rest =>
    intro y hy
    simp only [Frame.finish,List.mem_cons] at hy
    rcases hy with rfl|hy
    ·trivial
    ·exact hk y hy
  | inRangeFunc l =>
   intro y hy
   simp only [Frame.finish,List.mem_cons] at hy
   rcases hy with rfl|hy
   ·trivial
   ·exact hk y hy
  | beginRound=>exact hk
  | call d wr re sv=>exact (h (.call d wr re sv) (by simp)).elim
  | extern r a=>exact hk
  | _=>exact h
theorem fit_raise {fr:Frame} {c:List PanicEntry} (h:FitFrame fr):FitFrame (fr.raise c):=by
 unfold Frame.raise
 split <;> exact h
theorem kind_raise (fr:Frame) (c:List PanicEntry):(fr.raise c).kind=fr.kind:=by
 unfold Frame.raise
 split <;> rfl
theorem kind_finish (fr:Frame) (v:Value):(fr.finish v).kind=fr.kind:=by
 unfold Frame.finish;split <;> rfl
theorem bk_push (fr a:Frame) (cs:List Frame):bkOf a (fr::cs)=bkOf fr cs:=by
 unfold bkOf
 cases cs with
 | nil=>rfl
 | cons c cs=>rw [List.getLast?_cons_cons];cases h:(c::cs).getLast? with
  | none=>simp at h
  | some x=>rfl
theorem bk_same {a b:Frame} (cs:List Frame) (h:a.kind=b.kind):bkOf a cs=bkOf b cs:=by
 unfold bkOf
 cases h' : cs.getLast? with
 | none=>exact h
 | some x=>rfl
end Go.Proofs.YtgnbibinclepcaaGreatDoor.Lf
set_option linter.unusedVariables false
set_option linter.unusedSimpArgs false
namespace Go.Proofs.YtgnbibinclepcaaGreatDoor.Lf
variable {P : Program} {α β : Type} {dy : Option Dying} {k0 : CallKind}
open Go.Conc
theorem quiet_nil:Quiet #[]:=fun _=>rfl
theorem quiet_app {a b:Array Event} (h:Quiet a) (h' : Quiet b):Quiet (a ++ b):=fun d=>by rw [deafBehind_app,h,h']
theorem quiet_seen {fn:FuncId} {es:Array Event} (h:Quiet es) (hm:∀ e ∈ es,MarkSync e):Quiet (seen P fn es):=fun d=>by rw [deaf_seen fn es hm,h]
theorem Sound.after {f:World->GStep} {w:World} {es:Array Event} (h:Sound P dy k0 f w) (hq:Quiet es):Sound P dy k0 (fun w=>(f w).after es) w:=by
 have hw:∀ s:GStep,(s.after es).wld=s.wld:=fun s=>by cases s <;> rfl
 have hg:∀ s:GStep,(s.after es).going ↔ s.going:=fun s=>by cases s <;> rfl
 refine ⟨fun g=>?_,?_⟩
 ·obtain ⟨m1,m2,m3⟩:=h.loc ((hg _).1 g)
  rw [hw]
  refine ⟨m1,m2,fun T j hT=>?_⟩
  rw [m3 T j hT]
  generalize f w=s
  cases s <;> rfl
 ·have:=h.kind
  revert this
  generalize f w=s
  cases s with
  | go g w es'=>exact fun ⟨a,b,c⟩=>⟨a,fun r=>quiet_app hq (b r),c⟩
  | comm g c b sh w es'=>exact fun ⟨a,b,c,d⟩=>⟨a,b,fun r=>quiet_app hq (c r),d⟩
  | coroswitch g c e w es'=>exact fun ⟨x,a,b,c,d⟩=>⟨x,a,b,fun r=>quiet_app hq (c r),d⟩
  | _=>exact fun h=>h
theorem Still.after {s:GStep} {es:Array Event} (h:¬ s.going/\s.kind dy k0) (hs:∀ g w es',s=.go g w es' -> ¬ (g.status=.running/\g.dying=none)):¬ (s.after es).going/\(s.after es).kind dy k0:=by
 cases s with
 | go g w es'=>exact ⟨h.1,h.2.1,fun r=>absurd r (hs g w es' rfl),h.2.2.2⟩
 | comm g c b sh w es'=>exact ⟨h.1,h.2.1,h.2.2.1,fun r=>absurd r h.1,h.2.2.2.2⟩
 | coroswitch g c e w es'=>exact ⟨h.1,h.2.1,h.2.2.1,h.2.2.2.1,fun r=>absurd r h.1,h.2.2.2.2.2⟩
 | _=>exact h
theorem Sound.to {fr:Frame} {cs:List Frame} {w:World} {st:GoStatus} (hk:dy.isSome=true->bkOf fr cs=k0) (hf:FitFrame fr) (hc:∀ f ∈ cs,FitFrame f)
  (hs:st=.running ∨ st=.blocked ∨ st=.waiting ∨ st=.finished):Sound P dy k0 (fun w=>.go { frame:=fr,callers:=cs,status:=st,dying:=dy } w) w :=
 .go ⟨.inl ⟨rfl,hk⟩,fun _=>quiet_nil,hs,fun _=>⟨hf,hc⟩⟩
theorem fit_enter (f:FuncId) (args:Array Value) (k:CallKind):FitFrame (Frame.enter P f args k):=by
 intro x hx
 simp only [Frame.enter,List.mem_singleton] at hx
 subst hx
 trivial
theorem fit_round (l:Nat) (f:FuncId) (t:Array Value) (a b:Code) (k:CallKind):FitFrame (Frame.round l f t a b k):=by
 intro x hx
 simp only [Frame.round,List.mem_cons,List.not_mem_nil,or_false] at hx
 rcases hx with rfl|rfl|rfl <;> trivial
theorem fit_row {row:String} (h:row = "runtime.print$piece") (args:Array Value) (k:CallKind):FitFrame (Frame.ofRow P row args k):=by
 intro x hx
 simp only [Frame.ofRow,List.mem_singleton] at hx
 subst hx
 exact h
theorem doReturn_sound {fr:Frame} {cs:List Frame} {v:Value} {w:World} (hk:dy.isSome=true->bkOf fr cs=k0/\k0=.report) (hf:FitFrame fr) (hc:∀ f ∈ cs,FitFrame f) :
  Sound P dy k0 (fun w=>doReturn P true fr cs dy v w) w:=by
 cases cs with
 | cons c rest =>
  have hc0:=hc c (by simp)
  have hc1:∀ f ∈ rest,FitFrame f:=fun f hf=>hc f (by simp [hf])
  have hb:∀ a:Frame,a.kind=c.kind->dy.isSome=true->bkOf a rest=k0:=fun a ha hd=>by
   rw [bk_same rest ha,← bk_push c fr rest];exact (hk hd).1
  unfold doReturn
  cases hkd:fr.kind with
  | normal=>exact .to (hb _ (kind_finish _ _)) (fit_finish v hc0) hc1 (.inl rfl)
  | wrapped=>exact .to (hb _ (kind_finish _ _)) (fit_finish v hc0) hc1 (.inl rfl)
  | early=>exact .to (hb _ rfl) hc0 hc1 (.inl rfl)
  | _ =>
   simp only [hkd]
   refine .to (hb _ ?_) ?_ hc1 (.inl rfl)
   ·split
    ·split <;> rfl
    ·rfl
   ·split
    ·split <;> exact hc0
    ·exact hc0
 | nil =>
  cases dy with
  | none =>
   unfold doReturn
   dsimp only
   simp only [Bool.not_true,Bool.false_eq_true,if_false]
   split
   ·simp_all
   ·exact .ended
   ·split
    ·exact .to (fun h=>(by cases h)) (fit_enter _ _ _) (by simp) (.inl rfl)
    ·exact .ended
  | some d =>
   have hr:fr.kind=.report:=(hk rfl).1.trans (hk rfl).2
   unfold doReturn
   simp only [hr]
   split
   ·rename_i e
    cases e
    exact .still (fun h=>(by cases h.2)) ⟨.inr ⟨_,rfl,rfl⟩,fun h=>(by cases h.2),.inl rfl,fun _=>⟨hf,by simp⟩⟩
   ·exact .ended
   ·simp_all
end Go.Proofs.YtgnbibinclepcaaGreatDoor.Lf
set_option linter.unusedVariables false
set_option linter.unusedSimpArgs false
namespace Go.Proofs.YtgnbibinclepcaaGreatDoor.Lf
variable {P : Program} {α β : Type} {dy : Option Dying} {k0 : CallKind}
open Go.Conc
def Alike (cs cs' : List Frame):Prop:=cs'.map (fun f=>(f.todo,f.kind))=cs.map (fun f=>(f.todo,f.kind))
theorem Alike.fit {cs cs' : List Frame} (h:Alike cs cs') (hf:∀ f ∈ cs,FitFrame f):∀ f ∈ cs',FitFrame f:=by
 intro f hm
 have:(f.todo,f.kind) ∈ cs.map (fun f=>(f.todo,f.kind)):=by
  rw [<- h];exact List.mem_map.2 ⟨f,hm,rfl⟩
 obtain ⟨g,hg,e⟩:=List.mem_map.1 this
 have e1:g.todo=f.todo:=congrArg Prod.fst e
 intro x hx
 exact hf g hg x (by rw [e1];exact hx)
theorem Alike.bk {cs cs' : List Frame} (h:Alike cs cs') (a:Frame):bkOf a cs' = bkOf a cs:=by
 have e:cs'.getLast?.map (fun f=>(f.todo,f.kind))=cs.getLast?.map (fun f=>(f.todo,f.kind)):=by
  rw [<- List.getLast?_map,← List.getLast?_map,h]
 unfold bkOf
 cases h1:cs'.getLast? with
 | none=>cases h2:cs.getLast? with
  | none=>rfl
  | some y=>rw [h1,h2] at e;cases e
 | some x=>cases h2:cs.getLast? with
  | none=>rw [h1,h2] at e;cases e
  | some y =>
   rw [h1,h2] at e
   exact congrArg Prod.snd (Option.some.inj e)
theorem tryRecover_alike:∀ (cs:List Frame) (fr:Frame) (v:Value) (cs' : List Frame),tryRecover fr cs=some (v,cs')->Alike cs cs':=by
 intro cs
 induction cs with
 | nil=>intro fr v cs' h;unfold tryRecover at h;split at h <;> simp_all
 | cons c rest ih =>
  intro fr v cs' h
  unfold tryRecover at h
  split at h
  ·rename_i e
   cases e
   split at h
   ·simp only [Option.some.injEq,Prod.mk.injEq] at h
    obtain ⟨_,rfl⟩:=h
    rfl
   ·cases h
  ·rename_i e
   cases e
   obtain ⟨⟨v',r'⟩,h1,h2⟩:=Option.map_eq_some_iff.1 h
   simp only [Prod.mk.injEq] at h2
   obtain ⟨_,rfl⟩:=h2
   have:=ih _ _ _ h1
   unfold Alike at this ⊢
   simp [this]
  ·cases h
theorem tryRecoverLoop_alike:∀ (cs:List Frame) (l:Nat) (v:Value) (cs' : List Frame),tryRecoverLoop l cs=some (v,cs')->Alike cs cs':=by
 intro cs
 induction cs with
 | nil=>intro l v cs' h;cases h
 | cons c rest ih =>
  intro l v cs' h
  unfold tryRecoverLoop at h
  obtain ⟨⟨v',r'⟩,h1,h2⟩:=Option.map_eq_some_iff.1 h
  simp only [Prod.mk.injEq] at h2
  obtain ⟨_,rfl⟩:=h2
  have key:Alike rest r':=by
   split at h1
   ·exact ih _ _ _ h1
   ·split at h1
    ·exact tryRecover_alike _ _ _ _ h1
    ·exact ih _ _ _ h1
   ·exact ih _ _ _ h1
  unfold Alike at key ⊢
  simp [key]
theorem still_dieOf {fr:Frame} (hf:FitFrame fr) (a:List ByteArray) (m:String) (b:Bool) (w:World):¬ (dieOf fr a m b w).going/\(dieOf fr a m b w).kind dy k0/\∀ g w' es,dieOf fr a m b w=.go g w' es->¬ (g.status=.running/\g.dying=none) :=
 ⟨fun h=>(by cases h.2),⟨.inr ⟨_,rfl,rfl⟩,fun h=>(by cases h.2),.inl rfl,fun _=>⟨hf,by simp⟩⟩,fun g w' es h=>by cases h;exact fun h=>(by cases h.2)⟩
theorem still_endThrow {fr:Frame} (hf:FitFrame fr) (m:String) (w:World):¬ (endThrow fr m w).going/\(endThrow fr m w).kind dy k0/\∀ g w' es,endThrow fr m w=.go g w' es->¬ (g.status=.running/\g.dying=none):=still_dieOf hf _ _ _ _
theorem still_endFatal {fr:Frame} (hf:FitFrame fr) (cs:List Frame) (d:Option Dying) (m:String) (w:World):¬ (endFatal P fr cs d m w).going/\(endFatal P fr cs d m w).kind dy k0/\∀ g w' es,endFatal P fr cs d m w=.go g w' es->¬ (g.status=.running/\g.dying=none):=by
 unfold endFatal
 dsimp only
 split
 ·exact still_dieOf hf _ _ _ _
 ·exact ⟨fun h=>h,trivial,fun _ _ _ h=>by cases h⟩
 ·exact ⟨fun h=>h,trivial,fun _ _ _ h=>by cases h⟩
theorem still_ended (o:Outcome) (w:World):¬ (GStep.ended o w).going/\(GStep.ended o w).kind dy k0/\∀ g w' es,GStep.ended o w=.go g w' es->¬ (g.status=.running/\g.dying=none):=⟨fun h=>h,trivial,fun _ _ _ h=>by cases h⟩
theorem still_status {fr:Frame} {cs:List Frame} {w:World} {st:GoStatus} (hk:dy.isSome=true->bkOf fr cs=k0) (hs:st=.blocked ∨ st=.waiting) :
  ¬ (GStep.go { frame:=fr,callers:=cs,status:=st,dying:=dy } w).going/\(GStep.go { frame:=fr,callers:=cs,status:=st,dying:=dy } w).kind dy k0 ∧
   ∀ g w' es,GStep.go { frame:=fr,callers:=cs,status:=st,dying:=dy } w=.go g w' es->¬ (g.status=.running/\g.dying=none):=by
 have:st ≠ .running:=by rcases hs with rfl|rfl <;> simp
 exact ⟨fun h=>this h.1,⟨.inl ⟨rfl,hk⟩,fun h=>absurd h.1 this,by rcases hs with rfl|rfl <;> simp,fun h=>absurd h this⟩,fun g w' es h=>by cases h;exact fun h=>this h.1⟩
theorem Sound.stillAfter {f:World->GStep} {w:World} {es:World->Array Event} (h:¬ (f w).going/\(f w).kind dy k0/\∀ g w' es,f w=.go g w' es->¬ (g.status=.running/\g.dying=none)) :
  Sound P dy k0 (fun w=>(f w).after (es w)) w:=by
 obtain ⟨a,b⟩:=Still.after (es:=es w) ⟨h.1,h.2.1⟩ h.2.2
 exact .still a b
theorem callDeferred_sound (hcf:CF P) {fr:Frame} {cs:List Frame} {d:Deferred} {w:World} (hk:dy.isSome=true->bkOf fr cs=k0) (hf:FitFrame fr) (hc:∀ f ∈ cs,FitFrame f) :
  Sound P dy k0 (fun w=>callDeferred P fr cs dy d w) w:=by
 have hcons:∀ f ∈ fr::cs,FitFrame f:=by
  intro f hm
  rcases List.mem_cons.1 hm with rfl|hm
  ·exact hf
  ·exact hc f hm
 have hpush:∀ a:Frame,dy.isSome=true->bkOf a (fr::cs)=k0:=fun a hd=>by rw [bk_push];exact hk hd
 by_cases hn:((d.target matches .nil) && (fr.mode matches .panicking _))=true
 ·have e:∀ w,callDeferred P fr cs dy d w=.ended (.unsupported (.noEntry "machine/Return: a deferred call of a nil function value, made while the frame is unwinding") (fr.pos P)) w:=fun w=>by
   unfold callDeferred;exact if_pos hn
  refine .still ?_ ?_ <;> rw [e]
  ·exact fun h=>h
  ·trivial
 ·refine Sound.run (t_invoke hcf d.target d.args) ?_ ?_ ?_
  ·intro v es hv hq hm
   have key:∀ K:World->GStep,(∀ w' w1,(invoke d.target d.args).runT P w' #[]=(.ok v w1,es)->callDeferred P fr cs dy d w' = (K w1).after (seen P fr.fn es))->(∀ w1,Sound P dy k0 K w1) →
     ∃ G:World->GStep,(∀ w' w1,(invoke d.target d.args).runT P w' #[]=(.ok v w1,es)->callDeferred P fr cs dy d w' = G w1)/\∀ w1,Sound P dy k0 G w1 :=
    fun K h1 h2=>⟨_,h1,fun w1=>(h2 w1).after (quiet_seen hq hm)⟩
   cases v with
   | enter f args=>exact key _ (fun w' w1 e=>by unfold callDeferred;refine (if_neg hn).trans ?_;rw [e];try rfl) fun w1=>.to (hpush _) (fit_enter _ _ _) hcons (.inl rfl)
   | round l f t a b=>exact key _ (fun w' w1 e=>by unfold callDeferred;refine (if_neg hn).trans ?_;rw [e];try rfl) fun w1=>.to (hpush _) (fit_round _ _ _ _ _ _) hcons (.inl rfl)
   | row r a=>exact key _ (fun w' w1 e=>by unfold callDeferred;refine (if_neg hn).trans ?_;rw [e];try rfl) fun w1=>.to (hpush _) (fit_row hv _ _) hcons (.inl rfl)
   | recover =>
    cases ht:tryRecover fr cs with
    | none=>exact key (fun w1=>.go { frame:=fr,callers:=cs,status:=.running,dying:=dy } w1) (fun w' w1 e=>by unfold callDeferred;refine (if_neg hn).trans ?_;rw [e];dsimp only;rw [ht];cases fr.mode <;> rfl) fun w1=>.to hk hf hc (.inl rfl)
    | some q =>
     obtain ⟨v',cs'⟩:=q
     have hA:=tryRecover_alike _ _ _ _ ht
     by_cases hm' : fr.mode=.returning
     ·exact key (fun w1=>.go { frame:=fr,callers:=cs',status:=.running,dying:=dy } w1) (fun w' w1 e=>by unfold callDeferred;refine (if_neg hn).trans ?_;rw [e];dsimp only;rw [ht,hm'];try rfl) fun w1=>.to (fun hd=>by rw [hA.bk];exact hk hd) hf (hA.fit hc) (.inl rfl)
     ·exact key (fun w1=>.go { frame:=fr,callers:=cs,status:=.running,dying:=dy } w1) (fun w' w1 e=>by
       unfold callDeferred;refine (if_neg hn).trans ?_;rw [e];dsimp only;rw [ht]
       cases hmm:fr.mode <;> first|rfl|exact absurd hmm hm') fun w1=>.to hk hf hc (.inl rfl)
   | coroswitch c x =>
    cases hv
    exact key _ (fun w' w1 e=>by unfold callDeferred;refine (if_neg hn).trans ?_;rw [e];try rfl) fun w1=>.coro ⟨rfl,.inl ⟨rfl,hk⟩,rfl,fun _=>quiet_nil,hf,hc⟩
   | value _=>exact key _ (fun w' w1 e=>by unfold callDeferred;refine (if_neg hn).trans ?_;rw [e];try rfl) fun w1=>.to hk hf hc (.inl rfl)
   | skip=>exact key _ (fun w' w1 e=>by unfold callDeferred;refine (if_neg hn).trans ?_;rw [e];try rfl) fun w1=>.to hk hf hc (.inl rfl)
   | defer _=>exact key _ (fun w' w1 e=>by unfold callDeferred;refine (if_neg hn).trans ?_;rw [e];try rfl) fun w1=>.to hk hf hc (.inl rfl)
   | spawn _=>exact key _ (fun w' w1 e=>by unfold callDeferred;refine (if_neg hn).trans ?_;rw [e];try rfl) fun w1=>.to hk hf hc (.inl rfl)
   | comm _ _ _=>exact key _ (fun w' w1 e=>by unfold callDeferred;refine (if_neg hn).trans ?_;rw [e];try rfl) fun w1=>.to hk hf hc (.inl rfl)
   | _=>exact hv.elim
  ·intro h es hl hq hm
   cases h with
   | panic v=>exact ⟨_,fun w' w1 e=>(by unfold callDeferred;refine (if_neg hn).trans ?_;rw [e];try rfl),fun w1=>Sound.after (.to (fun hd=>by rw [bk_same cs (kind_raise _ _)];exact hk hd) (fit_raise hf) hc (.inl rfl)) (quiet_seen (hq trivial) hm)⟩
   | goexit=>exact ⟨_,fun w' w1 e=>(by unfold callDeferred;refine (if_neg hn).trans ?_;rw [e];try rfl),fun w1=>Sound.after (.to (fun hd=>by rw [bk_same cs (kind_raise _ _)];exact hk hd) (fit_raise hf) hc (.inl rfl)) (quiet_seen (hq trivial) hm)⟩
   | unsupported u=>exact ⟨_,fun w' w1 e=>(by unfold callDeferred;refine (if_neg hn).trans ?_;rw [e];try rfl),fun w1=>.stillAfter (still_ended _ _)⟩
   | _=>exact hl.elim
  ·intro h es w' w1 hl e
   have key:∀ s:GStep,callDeferred P fr cs dy d w' = s->(∃ (s0:GStep) (es0:Array Event),s=s0.after es0/\¬ s0.going/\s0.kind dy k0/\∀ g w' es,s0=.go g w' es->¬ (g.status=.running/\g.dying=none)) →
     ¬ (callDeferred P fr cs dy d w').going/\(callDeferred P fr cs dy d w').kind dy k0:=by
    rintro s h1 ⟨s0,es0,rfl,a,b,c⟩
    rw [h1]
    exact Still.after ⟨a,b⟩ c
   cases h with
   | panic v=>exact absurd trivial hl
   | goexit=>exact absurd trivial hl
   | blocked=>exact key _ (by unfold callDeferred;refine (if_neg hn).trans ?_;rw [e];try rfl) ⟨_,_,rfl,still_status (fr:={ fr with defers:=d::fr.defers }) (fun hd=>(bk_same (a:={ fr with defers:=d::fr.defers }) (b:=fr) cs rfl).trans (hk hd)) (.inl rfl)⟩
   | waiting=>exact key _ (by unfold callDeferred;refine (if_neg hn).trans ?_;rw [e];try rfl) ⟨_,_,rfl,still_status (fr:={ fr with defers:=d::fr.defers }) (fun hd=>(bk_same (a:={ fr with defers:=d::fr.defers }) (b:=fr) cs rfl).trans (hk hd)) (.inr rfl)⟩
   | fatal m=>exact key _ (by unfold callDeferred;refine (if_neg hn).trans ?_;rw [e];try rfl) ⟨_,_,rfl,still_endFatal hf _ _ _ _⟩
   | throw m=>exact key _ (by unfold callDeferred;refine (if_neg hn).trans ?_;rw [e];try rfl) ⟨_,_,rfl,still_endThrow hf _ _⟩
   | exit c=>exact key _ (by unfold callDeferred;refine (if_neg hn).trans ?_;rw [e];try rfl) ⟨_,_,rfl,still_ended _ _⟩
   | stuck c=>exact key _ (by unfold callDeferred;refine (if_neg hn).trans ?_;rw [e];try rfl) ⟨_,_,rfl,still_ended _ _⟩
   | unsupported c=>exact key _ (by unfold callDeferred;refine (if_neg hn).trans ?_;rw [e];try rfl) ⟨_,_,rfl,still_ended _ _⟩
end Go.Proofs.YtgnbibinclepcaaGreatDoor.Lf
set_option linter.unusedVariables false
set_option linter.unusedSimpArgs false
namespace Go.Proofs.YtgnbibinclepcaaGreatDoor.Lf
variable {P : Program} {α β : Type} {dy : Option Dying} {k0 : CallKind}
open Go.Conc
theorem found_re (w:World) (T:Nat->Question->Nat) (j:Nat):∀ (n:Nat) (f:FuncId),P.found (w.re T j) n f=P.found w n f:=by
 intro n
 induction n with
 | zero=>intro f;rfl
 | succ n ih =>
  intro f
  unfold Program.found
  simp only [ih,re_heap,show (w.re T j).shape?=w.shape? from rfl]
theorem brought_re (w:World) (T:Nat->Question->Nat) (j:Nat):∀ (n:Nat) (a b:List FuncId),P.brought (w.re T j) n a b=P.brought w n a b:=by
 intro n
 induction n with
 | zero=>intro a b;rfl
 | succ n ih =>
  intro a b
  cases a with
  | nil=>rfl
  | cons f a =>
   unfold Program.brought
   dsimp only
   simp only [ih,re_heap]
theorem Sound.of_eq {f X:World->GStep} {w:World} (h:Sound P dy k0 X w) (e:f w=X w) (e' : ∀ T j,f (w.re T j)=X (w.re T j)):Sound P dy k0 f w :=
 ⟨fun hg=>by rw [e] at hg ⊢;obtain ⟨a,b,c⟩:=h.loc hg;exact ⟨a,b,fun T j hT=>(e' T j).trans (c T j hT)⟩,by rw [e];exact h.kind⟩
theorem Sound.draw {f X:World->GStep} {w:World} (h:Sound P dy k0 X { w with drawn:=w.drawn+1 }) (e:f w=X { w with drawn:=w.drawn+1 })
  (e' : ∀ T j,T j=w.tape w.drawn->f (w.re T j)=X (({ w with drawn:=w.drawn+1 }:World).re T (j+1))):Sound P dy k0 f w:=by
 refine ⟨fun hg=>?_,by rw [e];exact h.kind⟩
 rw [e] at hg ⊢
 obtain ⟨a,b,c⟩:=h.loc hg
 dsimp only at a b c
 refine ⟨by omega,b,fun T j hT=>?_⟩
 have e0:T j=w.tape w.drawn:=hT 0 (by omega)
 rw [e' T j e0]
 have:=c T (j+1) (by
  intro i hi
  have:=hT (1+i) (by dsimp only at hi;omega)
  rw [show j+1+i=j+(1+i) by omega,this]
  show _=w.tape (w.drawn+1+i)
  congr 1;omega)
 refine this.trans ?_
 congr 1
 omega
def laidX (fr:Frame) (cs:List Frame) (dy:Option Dying) (g:Nat) (o:Outcome) (w:World):GStep :=
 match w.heap[g]? with
 | some (.pending c elem)=>.go { frame:=fr,callers:=cs,status:=.running,dying:=dy } { w with heap:=w.heap.setIfInBounds g (.cells c elem) }
 | _=>.ended o w
theorem laidX_sound {fr:Frame} {cs:List Frame} {g:Nat} {o:Outcome} {w:World} (hk:dy.isSome=true->bkOf fr cs=k0) (hf:FitFrame fr) (hc:∀ f ∈ cs,FitFrame f):Sound P dy k0 (laidX fr cs dy g o) w:=by
 unfold laidX
 cases ho:w.heap[g]? with
 | none=>exact .still (by rw [ho];exact fun h=>h) (by rw [ho];trivial)
 | some ob =>
  cases ob with
  | pending c t =>
   refine .of_eq (X:=fun w=>.go { frame:=fr,callers:=cs,status:=.running,dying:=dy } { w with heap:=w.heap.setIfInBounds g (.cells c t) }) ?_ (by rw [ho]) (fun T j=>by rw [re_heap,ho])
   exact ⟨fun _=>⟨Nat.le_refl _,rfl,fun T j _=>by simp [GStep.re,GStep.wld,World.re]⟩,⟨.inl ⟨rfl,hk⟩,fun _=>quiet_nil,.inl rfl,fun _=>⟨hf,hc⟩⟩⟩
  | _=>exact .still (by rw [ho];exact fun h=>h) (by rw [ho];trivial)
theorem early_sound {fr:Frame} {cs:List Frame} {g:Nat} {w:World} (hk:dy.isSome=true->bkOf fr cs=k0) (hf:FitFrame fr) (hc:∀ f ∈ cs,FitFrame f):Sound P dy k0 (fun w=>early P fr cs dy g w) w:=by
 have hL:∀ o w,Sound P dy k0 (laidX fr cs dy g o) w:=fun o w=>laidX_sound hk hf hc
 have hT:∀ (f:FuncId) (l:List FuncId) (w:World),Sound P dy k0 (fun w=>.go { frame:=Frame.enter P f #[] .early,callers:=l.map (Frame.enter P · #[] .early) ++ fr::cs,status:=.running,dying:=dy } w) w:=by
  intro f l w
  refine .to (fun hd=>?_) (fit_enter _ _ _) ?_ (.inl rfl)
  ·refine Eq.trans ?_ (hk hd)
   unfold bkOf
   rw [List.getLast?_append]
   have:=bk_push fr (Frame.enter P f #[] .early) cs
   unfold bkOf at this
   cases h:(fr::cs).getLast? with
   | none=>simp at h
   | some x=>rw [h] at this;exact this
  ·intro x hx
   rcases List.mem_append.1 hx with hx|hx
   ·obtain ⟨y,_,rfl⟩:=List.mem_map.1 hx
    exact fit_enter _ _ _
   ·rcases List.mem_cons.1 hx with rfl|hx
    ·exact hf
    ·exact hc x hx
 have hs:∀ T j,(w.re T j).shape?=w.shape?:=fun _ _=>rfl
 cases c0:P.follows .staticDataAhead with
 | false=>exact .of_eq (hL (.stuck "early: the variable does not wait" (fr.pos P)) w) (by unfold early laidX;simp only [c0,Bool.not_false,if_true];try rfl) (fun T j=>by unfold early laidX;simp only [c0,Bool.not_false,if_true];try rfl)
 | true =>
  cases c1:P.stepOf g with
  | none=>exact .still (by unfold early;simp only [c0,c1,Bool.not_true,Bool.false_eq_true,if_false];exact fun h=>h) (by unfold early;simp only [c0,c1,Bool.not_true,Bool.false_eq_true,if_false];trivial)
  | some f =>
   cases c2:(P.code? f).any P.atRunTime with
   | true=>exact .of_eq (hL (.stuck "early: the variable does not wait" (fr.pos P)) w) (by unfold early laidX;simp only [c0,c1,c2,Bool.not_true,Bool.false_eq_true,if_false,if_true];try rfl) (fun T j=>by unfold early laidX;simp only [c0,c1,c2,Bool.not_true,Bool.false_eq_true,if_false,if_true];try rfl)
   | false =>
    cases c3:(((P.code? f).bind fun c=>(readies c).getLast?).bind w.shape?).isSome with
    | true=>exact .of_eq (hL (.stuck "early: the variable does not wait" (fr.pos P)) w) (by unfold early laidX;simp only [c0,c1,c2,c3,Bool.not_true,Bool.false_eq_true,if_false,if_true];try rfl) (fun T j=>by unfold early laidX;simp only [c0,c1,c2,hs,c3,Bool.not_true,Bool.false_eq_true,if_false,if_true];try rfl)
    | false =>
     cases c4:P.found w P.funcs.size f with
     | unknown=>exact .still (by unfold early;simp only [c0,c1,c2,c3,c4,Bool.not_true,Bool.false_eq_true,if_false];exact fun h=>h) (by unfold early;simp only [c0,c1,c2,c3,c4,Bool.not_true,Bool.false_eq_true,if_false];trivial)
     | notYet =>
      cases c5:fr.kind == .early with
      | true=>exact .still (by unfold early;simp only [c0,c1,c2,c3,c4,c5,Bool.not_true,Bool.false_eq_true,if_false];exact fun h=>h) (by unfold early;simp only [c0,c1,c2,c3,c4,c5,Bool.not_true,Bool.false_eq_true,if_false];trivial)
      | false=>exact .of_eq (hL (.stuck "early: the variable does not wait" (fr.pos P)) w) (by unfold early laidX;simp only [c0,c1,c2,c3,c4,c5,Bool.not_true,Bool.false_eq_true,if_false];try rfl) (fun T j=>by unfold early laidX;simp only [c0,c1,c2,hs,c3,found_re,c4,c5,Bool.not_true,Bool.false_eq_true,if_false];try rfl)
     | either =>
      cases c5:fr.kind == .early with
      | true=>exact .of_eq (hT f _ w) (by unfold early;simp only [c0,c1,c2,c3,c4,c5,Bool.not_true,Bool.false_eq_true,if_false];rfl) (fun T j=>by unfold early;simp only [c0,c1,c2,hs,c3,found_re,brought_re,c4,c5,Bool.not_true,Bool.false_eq_true,if_false];try rfl)
      | false =>
       cases c6:(P.code? f).any P.plainData with
       | true=>exact .of_eq (hT f _ w) (by unfold early;simp only [c0,c1,c2,c3,c4,c5,c6,Bool.not_true,Bool.false_eq_true,if_false,if_true];rfl) (fun T j=>by unfold early;simp only [c0,c1,c2,hs,c3,found_re,brought_re,c4,c5,c6,Bool.not_true,Bool.false_eq_true,if_false,if_true];try rfl)
       | false =>
        cases c7:(P.code? f).any P.bareCopy with
        | false=>exact .of_eq (hL (.stuck "early: the variable does not wait" (fr.pos P)) w) (by unfold early laidX;simp only [c0,c1,c2,c3,c4,c5,c6,c7,Bool.not_true,Bool.not_false,Bool.false_eq_true,if_false,if_true];try rfl) (fun T j=>by unfold early laidX;simp only [c0,c1,c2,hs,c3,found_re,c4,c5,c6,c7,Bool.not_true,Bool.not_false,Bool.false_eq_true,if_false,if_true];try rfl)
        | true =>
         have hq:(Question.early g).forced=false:=rfl
         have one:∀ w',w'.shape?=w.shape? -> P.found w' P.funcs.size f=.either->(Question.early g).cut (w'.tape w'.drawn (Question.early g))=0->early P fr cs dy g w' = laidX fr cs dy g (.stuck "early: the variable does not wait" (fr.pos P)) { w' with drawn:=w'.drawn+1 }:=by
          intro w' h1 h2 h3
          unfold early laidX
          simp only [c0,c1,c2,h1,c3,h2,c5,c6,c7,Bool.not_true,Bool.false_eq_true,if_false,choose,Sem.run,hq,h3]
          rfl
         have two:∀ w',w'.shape?=w.shape? -> P.found w' P.funcs.size f=.either->(Question.early g).cut (w'.tape w'.drawn (Question.early g)) ≠ 0->early P fr cs dy g w' = .go { frame:=Frame.enter P f #[] .early,callers:=([]:List FuncId).map (Frame.enter P · #[] .early) ++ fr::cs,status:=.running,dying:=dy } { w' with drawn:=w'.drawn+1 }:=by
          intro w' h1 h2 h3
          unfold early
          simp only [c0,c1,c2,h1,c3,h2,c5,c6,c7,Bool.not_true,Bool.false_eq_true,if_false,choose,Sem.run,hq]
         by_cases hz:(Question.early g).cut (w.tape w.drawn (Question.early g))=0
         ·exact .draw (hL _ _) (one w rfl c4 hz) (fun T j hj=>one (w.re T j) rfl ((found_re w T j _ _).trans c4) (by show (Question.early g).cut (T j (Question.early g))=0;rw [hj];exact hz))
         ·exact .draw (hT f _ _) (two w rfl c4 hz) (fun T j hj=>two (w.re T j) rfl ((found_re w T j _ _).trans c4) (by show ¬ (Question.early g).cut (T j (Question.early g))=0;rw [hj];exact hz))
end Go.Proofs.YtgnbibinclepcaaGreatDoor.Lf
set_option linter.unusedVariables false
set_option linter.unusedSimpArgs false
namespace Go.Proofs.YtgnbibinclepcaaGreatDoor.Lf
variable {P : Program} {α β : Type} {dy : Option Dying} {k0 : CallKind}
open Go.Conc
theorem apply_sound {fr:Frame} {cs:List Frame} {s:Sem Next} (hs:Tame P okN s 0) {w:World} (hk:dy.isSome=true->bkOf fr cs=k0) (hf:FitFrame fr) (hc:∀ f ∈ cs,FitFrame f) :
  Sound P dy k0 (fun w=>stepG.apply P true fr cs dy s w) w:=by
 have hcons:∀ f ∈ fr::cs,FitFrame f:=by
  intro f hm
  rcases List.mem_cons.1 hm with rfl|hm
  ·exact hf
  ·exact hc f hm
 have hpush:∀ a:Frame,dy.isSome=true->bkOf a (fr::cs)=k0:=fun a hd=>by rw [bk_push];exact hk hd
 have hfin:∀ v,dy.isSome=true->bkOf (fr.finish v) cs=k0:=fun v hd=>(bk_same cs (kind_finish fr v)).trans (hk hd)
 have hrai:∀ c,dy.isSome=true->bkOf (fr.raise c) cs=k0:=fun v hd=>(bk_same cs (kind_raise fr v)).trans (hk hd)
 -- what is listed
 have hqs:∀ {es:Array Event},Quiet es->(∀ e ∈ es,MarkSync e)->Quiet (seen P fr.fn (if fr.kind == CallKind.early then #[] else es)):=by
  intro es h1 h2
  split
  ·exact quiet_seen quiet_nil (by simp)
  ·exact quiet_seen h1 h2
 refine Sound.run hs ?_ ?_ ?_
 ·intro v es hv hq hm
  have key:∀ K:World->GStep,(∀ w' w1,s.runT P w' #[]=(.ok v w1,es)->stepG.apply P true fr cs dy s w' = (K w1).after (seen P fr.fn (if fr.kind == CallKind.early then #[] else es)))->(∀ w1,Sound P dy k0 K w1) →
    ∃ G:World->GStep,(∀ w' w1,s.runT P w' #[]=(.ok v w1,es)->stepG.apply P true fr cs dy s w' = G w1)/\∀ w1,Sound P dy k0 G w1 :=
   fun K h1 h2=>⟨_,h1,fun w1=>(h2 w1).after (hqs hq hm)⟩
  cases v with
  | value v=>exact key _ (fun w' w1 e=>by unfold stepG.apply;rw [if_pos rfl,e];try rfl) fun w1=>.to (hfin v) (fit_finish _ hf) hc (.inl rfl)
  | skip=>exact key _ (fun w' w1 e=>by unfold stepG.apply;rw [if_pos rfl,e];try rfl) fun w1=>.to (hfin undef) (fit_finish _ hf) hc (.inl rfl)
  | enter f args=>exact key _ (fun w' w1 e=>by unfold stepG.apply;rw [if_pos rfl,e];try rfl) fun w1=>.to (hpush _) (fit_enter _ _ _) hcons (.inl rfl)
  | round l f t a b=>exact key _ (fun w' w1 e=>by unfold stepG.apply;rw [if_pos rfl,e];try rfl) fun w1=>.to (hpush _) (fit_round _ _ _ _ _ _) hcons (.inl rfl)
  | row r a =>
   by_cases hx:∃ r' a' k,fr.todo=.extern r' a' :: k
   ·obtain ⟨r',a',k,ht⟩:=hx
    refine key (fun w1=>.go { frame:={ fr with todo:=.extern r a::k },callers:=cs,status:=.running,dying:=dy } w1) (fun w' w1 e=>by unfold stepG.apply;rw [if_pos rfl,e];dsimp only;rw [ht]) fun w1=>.to (fun hd=>(bk_same (a:={ fr with todo:=.extern r a::k }) (b:=fr) cs rfl).trans (hk hd)) ?_ hc (.inl rfl)
    intro x hx
    rcases List.mem_cons.1 hx with rfl|hx
    ·exact hv
    ·exact fit_tail hf ht x hx
   ·have hkey:∀ kd,(∀ w' w1,s.runT P w' #[]=(.ok (.row r a) w1,es)->stepG.apply P true fr cs dy s w' = (GStep.go { frame:=Frame.ofRow P r a kd,callers:=fr::cs,status:=.running,dying:=dy } w1).after (seen P fr.fn (if fr.kind == CallKind.early then #[] else es))) →
      ∃ G:World->GStep,(∀ w' w1,s.runT P w' #[]=(.ok (.row r a) w1,es)->stepG.apply P true fr cs dy s w' = G w1)/\∀ w1,Sound P dy k0 G w1 :=
     fun kd h=>key _ h fun w1=>.to (hpush _) (fit_row hv a _) hcons (.inl rfl)
    cases ht:fr.todo with
    | nil=>exact hkey .normal (fun w' w1 e=>by unfold stepG.apply;rw [if_pos rfl,e];dsimp only;rw [ht])
    | cons x k =>
     cases x with
     | call _ _ _ _=>exact absurd (hf (.call _ _ _ _) (by rw [ht];exact List.mem_cons_self)) (fun h=>h)
     | extern r' a'=>exact absurd ⟨_,_,_,ht⟩ hx
     | _=>exact hkey .normal (fun w' w1 e=>by unfold stepG.apply;rw [if_pos rfl,e];dsimp only;rw [ht])
  | recover =>
   have hcase:∀ o:Option (Value × List Frame),(∀ v' cs',o=some (v',cs')->Alike cs cs') →
     (∀ w' w1,s.runT P w' #[]=(.ok .recover w1,es)->stepG.apply P true fr cs dy s w' = (match o with
      | some (v',cs')=>GStep.go { frame:=fr.finish v',callers:=cs',status:=.running,dying:=dy } w1
      | none=>GStep.go { frame:=fr.finish .nilIface,callers:=cs,status:=.running,dying:=dy } w1).after (seen P fr.fn (if fr.kind == CallKind.early then #[] else es))) →
     ∃ G:World->GStep,(∀ w' w1,s.runT P w' #[]=(.ok .recover w1,es)->stepG.apply P true fr cs dy s w' = G w1)/\∀ w1,Sound P dy k0 G w1:=by
    intro o ho h
    cases o with
    | none=>exact key _ h fun w1=>.to (hfin _) (fit_finish _ hf) hc (.inl rfl)
    | some q =>
     obtain ⟨v',cs'⟩:=q
     have hA:=ho _ _ rfl
     exact key _ h fun w1=>.to (fun hd=>(hA.bk _).trans (hfin v' hd)) (fit_finish _ hf) (hA.fit hc) (.inl rfl)
   cases hr:fr.roundOf with
   | none =>
    refine hcase (tryRecover fr cs) (fun _ _ h=>tryRecover_alike _ _ _ _ h) fun w' w1 e=>?_
    unfold stepG.apply;rw [if_pos rfl,e];dsimp only;rw [hr];dsimp only
    cases tryRecover fr cs with
    | none=>rfl
    | some q=>rfl
   | some l =>
    cases hx:P.follows .rangeFuncRecover with
    | true =>
     refine hcase (tryRecover fr cs) (fun _ _ h=>tryRecover_alike _ _ _ _ h) fun w' w1 e=>?_
     unfold stepG.apply;rw [if_pos rfl,e];dsimp only;rw [hr,hx];dsimp only;rw [if_pos rfl]
     cases tryRecover fr cs with
     | none=>rfl
     | some q=>rfl
    | false =>
     refine hcase (tryRecoverLoop l cs) (fun _ _ h=>tryRecoverLoop_alike _ _ _ _ h) fun w' w1 e=>?_
     unfold stepG.apply;rw [if_pos rfl,e];dsimp only;rw [hr,hx];dsimp only;rw [if_neg Bool.false_ne_true]
     cases tryRecoverLoop l cs with
     | none=>rfl
     | some q=>rfl
  | defer d=>exact key (fun w1=>.go { frame:=({ fr with defers:=d::fr.defers }:Frame).finish undef,callers:=cs,status:=.running,dying:=dy } w1) (fun w' w1 e=>by unfold stepG.apply;rw [if_pos rfl,e];try rfl) fun w1=>.to (fun hd=>(bk_same (a:=({ fr with defers:=d::fr.defers }:Frame).finish undef) (b:=fr) cs (kind_finish _ _)).trans (hk hd)) (fit_finish _ hf) hc (.inl rfl)
  | comm c b sh=>exact key _ (fun w' w1 e=>by unfold stepG.apply;rw [if_pos rfl,e];try rfl) fun w1=>.comm ⟨.inl ⟨rfl,hk⟩,rfl,fun _=>quiet_nil,hf,hc⟩
  | coroswitch c x =>
   cases hv
   exact key _ (fun w' w1 e=>by unfold stepG.apply;rw [if_pos rfl,e];try rfl) fun w1=>.coro ⟨rfl,.inl ⟨rfl,hk⟩,rfl,fun _=>quiet_nil,hf,hc⟩
  | spawn d =>
   have hkey:∀ X:World->GStep,(∀ w1,¬ (X w1).going/\(X w1).kind dy k0)->(∀ w' w1,s.runT P w' #[]=(.ok (.spawn d) w1,es)->stepG.apply P true fr cs dy s w' = (X w1).after (seen P fr.fn (if fr.kind == CallKind.early then #[] else es))) →
     ∃ G:World->GStep,(∀ w' w1,s.runT P w' #[]=(.ok (.spawn d) w1,es)->stepG.apply P true fr cs dy s w' = G w1)/\∀ w1,Sound P dy k0 G w1 :=
    fun X h1 h2=>key X h2 fun w1=>.still (h1 w1).1 (h1 w1).2
   by_cases hg:(P.follows .goNilFatal && d.target matches .nil && d.args.isEmpty && fr.noResult P)=true
   ·exact hkey (fun w1=>endThrow fr "go of nil func value" w1) (fun w1=>⟨(still_endThrow (dy:=dy) (k0:=k0) hf _ _).1,(still_endThrow hf _ _).2.1⟩) (fun w' w1 e=>by
     unfold stepG.apply;rw [if_pos rfl,e];dsimp only
     refine congrArg _ ((if_pos hg).trans rfl))
   ·exact hkey (fun w1=>.spawn { frame:=fr.finish undef,callers:=cs,status:=.running,dying:=dy } { frame:={ (default:Frame) with fn:=P.funcs.size,defers:=[d],mode:=.panicking [goexitEntry] },callers:=[],status:=.running,dying:=none } w1) (fun w1=>⟨fun h=>h,trivial⟩) (fun w' w1 e=>by
     unfold stepG.apply;rw [if_pos rfl,e];dsimp only
     refine congrArg _ ((if_neg hg).trans rfl))
  | _=>exact hv.elim
 ·intro h es hl hq hm
  cases h with
  | panic v=>exact ⟨_,fun w' w1 e=>(by unfold stepG.apply;rw [if_pos rfl,e];try rfl),fun w1=>Sound.after (.to (hrai _) (fit_raise hf) hc (.inl rfl)) (hqs (hq trivial) hm)⟩
  | goexit=>exact ⟨_,fun w' w1 e=>(by unfold stepG.apply;rw [if_pos rfl,e];try rfl),fun w1=>Sound.after (.to (hrai _) (fit_raise hf) hc (.inl rfl)) (hqs (hq trivial) hm)⟩
  | unsupported u =>
   cases u with
   | initOrder g=>exact ⟨_,fun w' w1 e=>(by unfold stepG.apply;rw [if_pos rfl,e];try rfl),fun w1=>Sound.after (early_sound hk hf hc) (hqs quiet_nil (by simp))⟩
   | _=>exact hl.elim
  | _=>exact hl.elim
 ·intro h es w' w1 hl e
  have key:∀ s' : GStep,stepG.apply P true fr cs dy s w' = s' -> (∃ (s0:GStep) (es0:Array Event),s' = s0.after es0/\¬ s0.going/\s0.kind dy k0/\∀ g w' es,s0=.go g w' es->¬ (g.status=.running/\g.dying=none)) →
    ¬ (stepG.apply P true fr cs dy s w').going/\(stepG.apply P true fr cs dy s w').kind dy k0:=by
   rintro s' h1 ⟨s0,es0,rfl,a,b,c⟩
   rw [h1]
   exact Still.after ⟨a,b⟩ c
  cases h with
  | panic v=>exact absurd trivial hl
  | goexit=>exact absurd trivial hl
  | blocked=>exact key _ (by unfold stepG.apply;rw [if_pos rfl,e];try rfl) ⟨_,_,rfl,still_status hk (.inl rfl)⟩
  | waiting=>exact key _ (by unfold stepG.apply;rw [if_pos rfl,e];try rfl) ⟨_,_,rfl,still_status hk (.inr rfl)⟩
  | fatal m=>exact key _ (by unfold stepG.apply;rw [if_pos rfl,e];try rfl) ⟨_,_,rfl,still_endFatal hf _ _ _ _⟩
  | throw m=>exact key _ (by unfold stepG.apply;rw [if_pos rfl,e];try rfl) ⟨_,_,rfl,still_endThrow hf _ _⟩
  | exit c=>exact key _ (by unfold stepG.apply;rw [if_pos rfl,e];try rfl) ⟨_,_,rfl,still_ended _ _⟩
  | stuck c=>exact key _ (by unfold stepG.apply;rw [if_pos rfl,e];try rfl) ⟨_,_,rfl,still_ended _ _⟩
  | unsupported u =>
   cases u with
   | initOrder g=>exact absurd trivial hl
   | _=>exact key _ (by unfold stepG.apply;rw [if_pos rfl,e];try rfl) ⟨_,_,rfl,still_ended _ _⟩
end Go.Proofs.YtgnbibinclepcaaGreatDoor.Lf
set_option linter.unusedVariables false
set_option linter.unusedSimpArgs false
namespace Go.Proofs.YtgnbibinclepcaaGreatDoor.Lf
variable {P : Program} {α β : Type} {dy : Option Dying} {k0 : CallKind}
open Go.Conc
theorem t_results (fn:Func) (tmps:Array Value):T P (results fn tmps):=by
 unfold results
 refine Tame.bind (t_mapM _ (fun r=>?_) _) fun _=>Tame.pureT
 cases r with
 | tmp t=>exact Tame.pureT
 | cell a t=>exact Tame.bind (t_asAddr _) fun _=>t_loadVar _ _
theorem unwind_sound (hcf:CF P) {fr:Frame} {cs:List Frame} {w:World} (hk:dy.isSome=true->bkOf fr cs=k0/\k0=.report) (hf:FitFrame fr) (hc:∀ f ∈ cs,FitFrame f) :
  Sound P dy k0 (fun w=>unwind P true fr cs dy w) w:=by
 have hk1:dy.isSome=true->bkOf fr cs=k0:=fun h=>(hk h).1
 cases hd:fr.defers with
 | cons d ds =>
  by_cases ht:∃ b,d.target=.collected b
  ·obtain ⟨b,ht⟩:=ht
   obtain ⟨tg,as⟩:=d
   dsimp only at ht
   subst ht
   refine Sound.run1 (t_Instr_takeDeferred b) ?_ ?_
   ·intro v es _ hq hm
    exact ⟨_,fun w' w1 e=>(by unfold unwind;rw [hd];dsimp only;rw [e]),fun w1=>Sound.after (.to (fr:={ fr with defers:=v ++ ds }) (fun h=>(bk_same (a:={ fr with defers:=v ++ ds }) (b:=fr) cs rfl).trans (hk1 h)) hf hc (.inl rfl)) (quiet_seen hq hm)⟩
   ·intro h es w' w1 e
    have:unwind P true fr cs dy w' = (GStep.ended (.stuck "the deferred calls of a range-over-func loop have been taken" (fr.pos P)) w1).after (seen P fr.fn es):=by unfold unwind;rw [hd];dsimp only;rw [e]
    rw [this]
    exact ⟨fun h=>h,trivial⟩
  ·have e:∀ w,unwind P true fr cs dy w=callDeferred P { fr with defers:=ds } cs dy d w:=fun w=>by
    unfold unwind
    rw [hd]
    obtain ⟨tg,as⟩:=d
    cases tg with
    | collected b=>exact absurd ⟨b,rfl⟩ ht
    | _=>rfl
   exact .of_eq (callDeferred_sound hcf (fr:={ fr with defers:=ds }) (fun h=>(bk_same (a:={ fr with defers:=ds }) (b:=fr) cs rfl).trans (hk1 h)) hf hc) (e w) (fun T j=>e _)
 | nil =>
  cases hm:fr.mode with
  | run =>
   have e:∀ w,unwind P true fr cs dy w=.ended (.stuck "unwind: the frame is running" (fr.pos P)) w:=fun w=>by unfold unwind;rw [hd];dsimp only;rw [hm]
   refine .still ?_ ?_ <;> rw [e]
   ·exact fun h=>h
   ·trivial
  | returning =>
   cases hfn:P.funcs[fr.fn]? with
   | none =>
    have e:∀ w,unwind P true fr cs dy w=doReturn P true fr cs dy (fr.tmps.getD 0 undef) w:=fun w=>by unfold unwind;rw [hd];dsimp only;rw [hm];dsimp only;rw [hfn]
    exact .of_eq (doReturn_sound hk hf hc) (e w) (fun T j=>e _)
   | some fn =>
    refine Sound.run1 (t_results fn fr.tmps) ?_ ?_
    ·intro v es _ hq hms
     exact ⟨_,fun w' w1 e=>(by unfold unwind;rw [hd];dsimp only;rw [hm];dsimp only;rw [hfn];dsimp only;rw [e]),fun w1=>Sound.after (doReturn_sound hk hf hc) (quiet_seen hq hms)⟩
    ·intro h es w' w1 e
     have key:∀ o,unwind P true fr cs dy w' = (GStep.ended o w1).after (seen P fr.fn es)->¬ (unwind P true fr cs dy w').going/\(unwind P true fr cs dy w').kind dy k0:=fun o h=>by
      rw [h];exact ⟨fun h=>h,trivial⟩
     cases h with
     | stuck s=>exact key _ (by unfold unwind;rw [hd];dsimp only;rw [hm];dsimp only;rw [hfn];dsimp only;rw [e])
     | _=>exact key _ (by unfold unwind;rw [hd];dsimp only;rw [hm];dsimp only;rw [hfn];dsimp only;rw [e])
  | panicking chain =>
   by_cases hx:fr.catches P=true
   ·have e:∀ w,unwind P true fr cs dy w=.ended (.unsupported (.noEntry "a panic or Goexit out of a method that fmt calls behind a cut's door") (fr.pos P)) w:=fun w=>by
     unfold unwind;rw [hd];dsimp only;rw [hm];dsimp only;exact if_pos hx
    refine .still ?_ ?_ <;> rw [e]
    ·exact fun h=>h
    ·trivial
   ·cases cs with
    | cons c rest =>
     have e:∀ w,unwind P true fr (c::rest) dy w=.go { frame:=c.raise chain,callers:=rest,status:=.running,dying:=dy } w:=fun w=>by
      unfold unwind;rw [hd];dsimp only;rw [hm];dsimp only;exact if_neg hx
     refine .of_eq (.to (fun h=>?_) (fit_raise (hc c (by simp))) (fun f hf=>hc f (by simp [hf])) (.inl rfl)) (e w) (fun T j=>e _)
     rw [bk_same rest (kind_raise c chain),← bk_push c fr rest]
     exact hk1 h
    | nil =>
     have hs:∀ s:GStep,(¬ s.going/\s.kind dy k0)->∀ w,unwind P true fr [] dy w=s->¬ (unwind P true fr [] dy w).going/\(unwind P true fr [] dy w).kind dy k0:=fun s h w e=>by rw [e];exact h
     have all:∀ w,¬ (unwind P true fr [] dy w).going/\(unwind P true fr [] dy w).kind dy k0:=by
      intro w
      unfold unwind
      rw [hd];dsimp only;rw [hm];dsimp only;rw [if_neg hx]
      cases dy with
      | none =>
       dsimp only
       split
       ·refine ⟨fun h=>(by cases h.1),.inl ⟨rfl,fun h=>(by cases h)⟩,fun h=>(by cases h.1),.inr (.inr (.inr rfl)),fun h=>(by cases h)⟩
       ·split
        ·exact ⟨fun h=>(by cases h.2),.inr ⟨_,rfl,rfl⟩,fun h=>(by cases h.2),.inl rfl,fun _=>⟨hf,by simp⟩⟩
        ·exact ⟨fun h=>h,trivial⟩
        ·exact ⟨fun h=>h,trivial⟩
      | some d =>
       dsimp only
       split
       ·unfold endPrinting
        dsimp only
        split
        ·exact ⟨(still_endThrow (dy:=some d) (k0:=k0) hf _ _).1,(still_endThrow hf _ _).2.1⟩
        ·exact ⟨fun h=>h,trivial⟩
       ·exact ⟨fun h=>h,trivial⟩
     exact .still (all w).1 (all w).2
end Go.Proofs.YtgnbibinclepcaaGreatDoor.Lf
