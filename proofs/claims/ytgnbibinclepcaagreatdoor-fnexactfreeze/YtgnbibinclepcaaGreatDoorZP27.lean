
import Derived.Test.YtgnbibinclepcaaGreatDoorZWwLaw
import Derived.Test.YtgnbibinclepcaaGreatDoorZP5
import Derived.Test.YtgnbibinclepcaaGreatDoorZP20
import Derived.Lib.LaidTab
import Derived.LaidMore
import Derived.Test.YtgnbibinclepcaaGreatDoorZP7
import Derived.ChangeSlices
import Derived.ProofKit
import Derived.OpenShut
import Derived.SizedLaws
import Derived.Lib.SmallJoins
import Derived.Test.YtgnbibinclepcaaGreatDoorZP16
import Derived.Deep.Slices
set_option linter.unusedVariables false
set_option linter.unusedSimpArgs false
namespace Go.Proofs.YtgnbibinclepcaaGreatDoor
open Go.Conc Go.Proofs.YtgnbibinclepcaaGreatDoor.Lf Go.RowKit
section
variable (W : World) (v1 v2 v3 vp vo : Value) (m : Mp)
theorem ev4:∀ (t:Array Value) (w:World),(results Tryz.f4 t).events Tryz.prog w #[]=#[]:=fun t w=>by
 simp [results,Tryz.f4,go_sem]
theorem atLeave4 {t:Array Value} {todo:List Item} {w:World} (h2:t[2]?=some (.bool true)) (hb:Below W.heap.size (W.re w.tape 0) w):AtLeave Tryz.prog 4 [] (LPost W) (G { b4.at ⟨t,[]⟩ todo with mode:=.returning } []) w:=by
 refine ⟨.returned (.bool true),_,w.tape,w.drawn,rfl,⟨rfl,hb⟩,rfl,fun T d=>⟨rfl,rfl,rfl,Tryz.f4,Tryz.func4,?_⟩⟩
 show (results Tryz.f4 t).run Tryz.prog _=_
 simp [results,Tryz.f4,h2,Array.getD_eq_getD_getElem?]
theorem code0:body4=codeOf [nthS body4 0,nthS body4 1,nthS body4 2,nthS body4 3,nthS body4 4,nthS body4 5] (dropS body4 6):=rfl
theorem code1:dropS body4 7=codeOf [nthS body4 7,nthS body4 8,nthS body4 9,nthS body4 10,nthS body4 11,nthS body4 12,nthS body4 13,nthS body4 14,nthS body4 15,nthS body4 16,nthS body4 17] (dropS body4 18):=rfl
theorem code2:dropS body4 19=codeOf [nthS body4 19,nthS body4 20,nthS body4 21,nthS body4 22,nthS body4 23,nthS body4 24] (dropS body4 25):=rfl
theorem nil_item:∀ x ∈ ([]:List Item),FitItem x:=fun _ h=>absurd h List.not_mem_nil
theorem nil_frame:∀ x ∈ ([]:List Frame),FitFrame x:=fun _ h=>absurd h List.not_mem_nil
set_option maxRecDepth 100000 in
set_option maxHeartbeats 3200000 in
theorem law_runs (i1:IR W v1 m.h.words) (i2:IR W v2 m.h.roots) (i3:IR W v3 m.h.kept) (ip:CR W vp m.prog) (io:IR W vo m.out) (hs:smM m 1000000000000000) (ht:GTb W) :
  Runs Tryz.prog (AtLeave Tryz.prog 4 [] (LPost W)) (G (Frame.enter Tryz.prog 4 #[.agg #[v1,v2,.int .i64 m.h.old,.int .i64 m.h.eden,.int .i64 m.h.surv,.bool m.h.flip,.int .i64 m.h.hash,v3,vp,.int .i64 m.pc,vo,.int .i64 m.st]] .normal) []) W:=by
 rw [enter4,code0]
 refine runs_chain (ss:=[nthS body4 0,nthS body4 1,nthS body4 2,nthS body4 3,nthS body4 4,nthS body4 5]) (rest:=dropS body4 6) Tryz.cf nil_item nil_frame (Q:=Q1 W v1 v2 v3 vp vo m) (fun e a w h=>h.elim (fun q=>.inr q.1) fun q=>.inl q.1) (law_a W v1 v2 v3 vp vo m i1 i2 i3 ip io hs) (fun a w h=>?_) (fun a w todo h=>?_)
 ·refine h.elim (fun q=>by cases q.1) fun q=>?_
  obtain ⟨_,sm,X,ov,a1,a2,a3,ap,ao,c1,c2,c3,cp,co,q⟩:=q
  refine Exists.elim q fun u3 q=>Exists.elim q fun u7 q=>Exists.elim q fun u8 q=>Exists.elim q fun u9 q=>Exists.elim q fun Bd q=>Exists.elim q fun Bf q=>Exists.elim q fun Bb q=>Exists.elim q fun Bc q=>Exists.elim q fun Ba q=>Exists.elim q fun Be q=>Exists.elim q fun Ce q=>Exists.elim q fun Cf q=>Exists.elim q fun Cg q=>Exists.elim q fun Ch q=>Exists.elim q fun Ci q=>Exists.elim q fun Cj q=>Exists.elim q fun Ck q=>Exists.elim q fun Cl q=>Exists.elim q fun Cm q=>Exists.elim q fun Cn q=>Exists.elim q fun Co q=>Exists.elim q fun Cq q=>Exists.elim q fun Bi q=>Exists.elim q fun Bj q=>Exists.elim q fun Bl q=>Exists.elim q fun Bn q=>Exists.elim q fun Bo q=>Exists.elim q fun Bp q=>Exists.elim q fun Bq q=>Exists.elim q fun Br q=>Exists.elim q fun Bs q=>Exists.elim q fun Bt q=>Exists.elim q fun Bu q=>Exists.elim q fun Bw q=>Exists.elim q fun Bz q=>Exists.elim q fun Ca q=>Exists.elim q fun Cb q=>Exists.elim q fun Cc q=>Exists.elim q fun Cr q=>Exists.elim q fun Cs q=>Exists.elim q fun Cu q=>Exists.elim q fun Cv q=>Exists.elim q fun Cw q=>Exists.elim q fun Cy q=>Exists.elim q fun Cz q=>Exists.elim q fun Da q=>Exists.elim q fun Db q=>Exists.elim q fun Dc q=>Exists.elim q fun De q=>Exists.elim q fun Df q=>Exists.elim q fun Dg q=>Exists.elim q fun Dh q=>Exists.elim q fun Di q=>Exists.elim q fun Dj q=>Exists.elim q fun Dk q=>Exists.elim q fun Dl q=>Exists.elim q fun Dm q=>Exists.elim q fun Dn q=>Exists.elim q fun Do q=>Exists.elim q fun Dp q=>Exists.elim q fun Dq q=>Exists.elim q fun Dr q=>Exists.elim q fun Ds q=>Exists.elim q fun Dt q=>Exists.elim q fun Du q=>Exists.elim q fun Dv q=>Exists.elim q fun Dw q=>Exists.elim q fun Dx q=>Exists.elim q fun Dy q=>Exists.elim q fun Dz q=>Exists.elim q fun Ea q=>Exists.elim q fun Eb q=>Exists.elim q fun Ec q=>Exists.elim q fun Ed q=>Exists.elim q fun Ee q=>Exists.elim q fun Ef q=>Exists.elim q fun Eg q=>Exists.elim q fun Eh q=>Exists.elim q fun Ei q=>Exists.elim q fun Ej q=>Exists.elim q fun Ek q=>Exists.elim q fun El q=>Exists.elim q fun Em q=>Exists.elim q fun En q=>Exists.elim q fun Eo q=>Exists.elim q fun Ep q=>Exists.elim q fun Er q=>Exists.elim q fun Es q=>Exists.elim q fun Et q=>Exists.elim q fun Eu q=>?_
  obtain ⟨rfl,hL⟩:=q
  clear h
  have sm9:smM m 1000000000:=by unfold smM at *;omega
  have sm7:smM m 10000000:=by unfold smM at *;omega
  refine law_b W v1 v2 v3 vp vo m trivial ht sm9 X ov a1 a2 a3 ap ao c1 c2 c3 cp co u3 u7 u8 u9 Bd Bf Bb Bc Ba Be Ce Cf Cg Ch Ci Cj Ck Cl Cm Cn Co Cq Bi Bj Bl Bn Bo Bp Bq Br Bs Bt Bu Bw Bz Ca Cb Cc Cr Cs Cu Cv Cw Cy Cz Da Db Dc De Df Dg Dh Di Dj Dk Dl Dm Dn Do Dp Dq Dr Ds Dt Du Dv Dw Dx Dy Dz Ea Eb Ec Ed Ee Ef Eg Eh Ei Ej Ek El Em En Eo Ep Er Es Et Eu w hL fun ow z3 z9 z10 z11 z12 z13 z14 z15 z16 z17 z18 z19 z20 z21 z22 z23 z24 z25 z26 z27 z28 z29 z30 z31 z32 z33 z34 z35 z36 z37 z38 z39 z40 z41 z42 z43 z44 z45 z46 z47 z48 z49 z50 z51 z52 z53 z54 z55 z56 z57 z58 z59 z60 z61 z62 z63 z64 z65 z66 z67 z68 z69 z70 z71 z72 z73 z74 z75 z76 z77 z78 z79 z80 z81 z82 z83 z84 z85 z86 z87 z88 z89 z90 z91 z92 z93 z94 z95 w hL=>?_
  rw [code1]
  refine runs_chain (ss:=[nthS body4 7,nthS body4 8,nthS body4 9,nthS body4 10,nthS body4 11,nthS body4 12,nthS body4 13,nthS body4 14,nthS body4 15,nthS body4 16,nthS body4 17]) (rest:=dropS body4 18) Tryz.cf nil_item nil_frame (Q:=Q2 W v1 v2 v3 vp vo m ov ow) (fun e a w h=>.inl h.1) (law_c W v1 v2 v3 vp vo m i1 i2 i3 ip io sm9 sm7 X ov a1 a2 a3 ap ao c1 c2 c3 cp co ow z3 z9 z10 z11 z12 z13 z14 z15 z16 z17 z18 z19 z20 z21 z22 z23 z24 z25 z26 z27 z28 z29 z30 z31 z32 z33 z34 z35 z36 z37 z38 z39 z40 z41 z42 z43 z44 z45 z46 z47 z48 z49 z50 z51 z52 z53 z54 z55 z56 z57 z58 z59 z60 z61 z62 z63 z64 z65 z66 z67 z68 z69 z70 z71 z72 z73 z74 z75 z76 z77 z78 z79 z80 z81 z82 z83 z84 z85 z86 z87 z88 z89 z90 z91 z92 z93 z94 z95 w hL) (fun a w h=>?_) (fun a w todo h=>by cases h.1)
  have q:=h.2
  refine Exists.elim q fun y3 q=>Exists.elim q fun y6 q=>Exists.elim q fun y8 q=>Exists.elim q fun y9 q=>Exists.elim q fun y11 q=>Exists.elim q fun y12 q=>Exists.elim q fun y13 q=>Exists.elim q fun y14 q=>Exists.elim q fun y15 q=>Exists.elim q fun y16 q=>Exists.elim q fun y17 q=>Exists.elim q fun y18 q=>Exists.elim q fun y19 q=>Exists.elim q fun y20 q=>Exists.elim q fun y21 q=>Exists.elim q fun y22 q=>Exists.elim q fun y23 q=>Exists.elim q fun y24 q=>Exists.elim q fun y25 q=>Exists.elim q fun y26 q=>Exists.elim q fun y27 q=>Exists.elim q fun y28 q=>Exists.elim q fun y29 q=>Exists.elim q fun y30 q=>Exists.elim q fun y31 q=>Exists.elim q fun y32 q=>Exists.elim q fun y33 q=>Exists.elim q fun y34 q=>Exists.elim q fun y35 q=>Exists.elim q fun y36 q=>Exists.elim q fun y37 q=>Exists.elim q fun y38 q=>Exists.elim q fun y39 q=>Exists.elim q fun y40 q=>Exists.elim q fun y41 q=>Exists.elim q fun y42 q=>Exists.elim q fun y43 q=>Exists.elim q fun y44 q=>Exists.elim q fun y45 q=>Exists.elim q fun y46 q=>Exists.elim q fun y47 q=>Exists.elim q fun y48 q=>Exists.elim q fun y49 q=>Exists.elim q fun y50 q=>Exists.elim q fun y51 q=>Exists.elim q fun y52 q=>Exists.elim q fun y53 q=>Exists.elim q fun y54 q=>Exists.elim q fun y55 q=>Exists.elim q fun y56 q=>Exists.elim q fun y57 q=>Exists.elim q fun y58 q=>Exists.elim q fun y59 q=>Exists.elim q fun y60 q=>Exists.elim q fun y61 q=>Exists.elim q fun y62 q=>Exists.elim q fun y63 q=>Exists.elim q fun y64 q=>Exists.elim q fun y65 q=>Exists.elim q fun y66 q=>Exists.elim q fun y67 q=>Exists.elim q fun y68 q=>Exists.elim q fun y69 q=>Exists.elim q fun y70 q=>Exists.elim q fun y71 q=>Exists.elim q fun y72 q=>Exists.elim q fun y73 q=>Exists.elim q fun y74 q=>Exists.elim q fun y75 q=>Exists.elim q fun y76 q=>Exists.elim q fun y77 q=>Exists.elim q fun y78 q=>Exists.elim q fun y79 q=>Exists.elim q fun y80 q=>Exists.elim q fun y81 q=>Exists.elim q fun y82 q=>Exists.elim q fun y83 q=>Exists.elim q fun y84 q=>Exists.elim q fun y85 q=>Exists.elim q fun y86 q=>Exists.elim q fun y87 q=>Exists.elim q fun y88 q=>Exists.elim q fun y89 q=>Exists.elim q fun y90 q=>Exists.elim q fun y91 q=>Exists.elim q fun y92 q=>Exists.elim q fun y93 q=>Exists.elim q fun y94 q=>Exists.elim q fun y95 q=>?_
  obtain ⟨rfl,b1,b2,b3,b4'⟩:=q
  clear h
  refine law_d W v1 v2 v3 vp vo m i1 i2 i3 ip io sm9 sm7 ht ov ow y3 y6 y8 y9 y11 y12 y13 y14 y15 y16 y17 y18 y19 y20 y21 y22 y23 y24 y25 y26 y27 y28 y29 y30 y31 y32 y33 y34 y35 y36 y37 y38 y39 y40 y41 y42 y43 y44 y45 y46 y47 y48 y49 y50 y51 y52 y53 y54 y55 y56 y57 y58 y59 y60 y61 y62 y63 y64 y65 y66 y67 y68 y69 y70 y71 y72 y73 y74 y75 y76 y77 y78 y79 y80 y81 y82 y83 y84 y85 y86 y87 y88 y89 y90 y91 y92 y93 y94 y95 w ⟨b1,b2,b3,b4'⟩ fun oz x3 x6 x8 x9 Bh Ev Ew Ex Ey Ez Fa Fb Fc Fd Fe Ff Fg Fh Fi Fj Fk Fl Fm Fo Fp Fq Fr Fs Ft Fu Fv Fw Fx Fy Fz Ga Gb Gc Gd Ge Gf Gg Gh Gi Gj Gk Gl Gm Gn Gp Gq Gs Gt Gu Gv Gw Gx Gy Gz Ha Hb Hc Hd He Hf Hg Hh Hi Hj Hk Hl Hm Hn Ho Hq Hr Hs Ht Hu Hv Hw Hx Hy Hz Ia Ib Ic w hM=>?_
  rw [code2]
  refine runs_chain (ss:=[nthS body4 19,nthS body4 20,nthS body4 21,nthS body4 22,nthS body4 23,nthS body4 24]) (rest:=dropS body4 25) Tryz.cf nil_item nil_frame (Q:=Q3 W) (fun e a w h=>.inl h.1) (law_e W v1 v2 v3 vp vo m ov ow oz x3 x6 x8 x9 Bh Ev Ew Ex Ey Ez Fa Fb Fc Fd Fe Ff Fg Fh Fi Fj Fk Fl Fm Fo Fp Fq Fr Fs Ft Fu Fv Fw Fx Fy Fz Ga Gb Gc Gd Ge Gf Gg Gh Gi Gj Gk Gl Gm Gn Gp Gq Gs Gt Gu Gv Gw Gx Gy Gz Ha Hb Hc Hd He Hf Hg Hh Hi Hj Hk Hl Hm Hn Ho Hq Hr Hs Ht Hu Hv Hw Hx Hy Hz Ia Ib Ic w hM) (fun a w h=>?_) (fun a w todo h=>by cases h.1)
  obtain ⟨_,t,rfl,h2,hb⟩:=h
  have hB:=blind_atLeave (P:=Tryz.prog) 4 [] (LPost W)
  have hf:Fit (G (b4.at ⟨t,[]⟩ [.code (dropS body4 25)]) []):=⟨fit_at nil_item,nil_frame⟩
  refine runs_of_tree hB ?_
  simp only [body4,Tryz.f4,Option.getD_some,dropS] at hf ⊢
  refine tree_ctl Tryz.cf hB (run_G _ _) hf (fun _=>stepG_ret') (run_G _ _) (fun hfn=>?_)
  exact .stop (atLeave4 W h2 hb)
 ·rcases h with ⟨_,t,rfl,h2,hb⟩|⟨q,_⟩
  ·exact Runs.stop (blind_atLeave _ _ _) (atLeave4 W h2 hb)
  ·cases q
end
end Go.Proofs.YtgnbibinclepcaaGreatDoor
set_option linter.unusedVariables false
set_option linter.unusedSimpArgs false
namespace Go.Proofs.YtgnbibinclepcaaGreatDoor.Lf
variable {P : Program}
open Go.Conc
theorem stepG_ends {fr:Frame} {fn:Func} {v:Value} {w:World} (h:fr.leaving P w (.returned v)) (hf:P.funcs[fr.fn]?=some fn) (he:∀ t w,(results fn t).events P w #[]=#[]) (hi:P.inits.idxOf? fr.fn=none):stepG P true (G fr []) w=.ended (.done v) w #[]:=by
 obtain ⟨h1,h2,h3,fn',h4,h5⟩:=h
 obtain rfl:fn' = fn:=Option.some.inj (h4.symm.trans hf)
 simp [G,stepG,unwind,doReturn,h1,h2,h3,h4,h5,he,hi,GStep.after,seen]
theorem runs_good {f:FuncId} {fn:Func} {args:Array Value} {W:World} {R:Ending->World->Prop} {Post:Value->World->Prop} (hf:P.funcs[f]?=some fn) (he:∀ t w,(results fn t).events P w #[]=#[]) (hi:P.inits.idxOf? f=none)
  (h:Runs P (AtLeave P f [] R) (G (Frame.enter P f args .normal) []) W) (hR:∀ e w,R e w->∃ v,e=.returned v) (hP:∀ v w T d,R (.returned v) (w.re T d)->w.tape=W.tape->Post v w) :
  ∃ M last o w' t',runNT P (M+1) (solo (G (Frame.enter P f args .normal) []) W) #[]=(.ended o w',t')/\runN P M (solo (G (Frame.enter P f args .normal) []) W)=.next last/\step P last=.ended o w' /\ Conc.Good P Post last o w' t':=by
 obtain ⟨N,gs,a,w,sl,t,q,B,r0,h0,hS,hL,hB,hPast,hT⟩:=h W.tape W.drawn #[G (Frame.enter P f args .normal) []] none #[] (fun _=>0) 0 rfl (leavers_one P _) past_nil
 obtain ⟨e,fr,T,d,rfl,h1,h2,h3⟩:=hS
 obtain ⟨v,rfl⟩:=hR _ _ h1
 have hG:Conc.Goes P true AtRel (fun _ _ es=>∀ e ∈ es,EvL NoShun B e) (AtEnd P NoShun B Post) 0 (G fr []) w:=by
  rintro w₁ ⟨d',rfl⟩
  refine ⟨rfl,v,#[],stepG_ends (h3 w.tape d') (by rw [h2];exact hf) he (by rw [h2];exact hi),by simp,hP v _ T d h1 hT⟩
 obtain ⟨N2,last,o,w',t',e1,e2,e3,e4⟩:=beside_ends (sl:=sl) (fun _ _ _ h=>h) h0 hL hPast hG
 have r0' : runNT P N (solo (G (Frame.enter P f args .normal) []) W) #[]=(.next (crowd gs w sl),t):=r0
 refine ⟨N+N2,last,o,w',t',?_,?_,e3,e4⟩
 ·rw [Nat.add_assoc,runNT_add,r0'];exact e1
 ·rw [runN_add,← runNT_fst P _ _ #[],r0'];exact e2
end Go.Proofs.YtgnbibinclepcaaGreatDoor.Lf
/- The table of the powers of ten, out of what is listed of the variables. -/
namespace Go.Proofs.YtgnbibinclepcaaGreatDoor
open Go.RowKit
theorem gPow:Tryz.prog.globalNamed gpow=some 1:=by kernel_rfl
theorem tPow:(Tryz.prog.globals[1]?).map (·.type)=some 266:=by kernel_rfl
theorem Tryz.ocells68:Tryz.prog.cellsOf 232=1:=by kernel_rfl
theorem Tryz.ocells93:Tryz.prog.cellsOf 266=20:=by kernel_rfl
theorem powDatum:Rows.laid_internal_strconv_uint64pow10 (H:=Unit)=Lib.tabData .u64 Lib.pow10Tab:=by kernel_rfl
theorem gtb_of_met {W:World} {r:List (String × DataW Unit)} (h:laidMet Tryz.prog ((gpow,Rows.laid_internal_strconv_uint64pow10)::r) W):GTb W:=by
 rw [powDatum] at h
 exact Lib.tabIs_of_head gPow tPow Tryz.underlying266 Tryz.underlying232 Tryz.ocells68 Tryz.ocells93 h
end Go.Proofs.YtgnbibinclepcaaGreatDoor
/- A heap that came in as an argument. -/
namespace Go.Proofs.YtgnbibinclepcaaGreatDoor
open Go.ChangeShapes Go.WideShapes Go.ChangeAt Go.RowKit Go.Joins
theorem Tryz.cells2:Tryz.prog.cellsOf 2=1:=by kernel_rfl
theorem Tryz.bytes2:Tryz.prog.bytesOf 2=8:=by kernel_rfl
theorem Tryz.cellsHp:Tryz.prog.cellsOf 47=8:=by kernel_rfl
theorem own:ownKnob Tryz.prog.godebug=none:=by kernel_rfl
theorem laidOut:laidOutB Tryz.prog=true:=by kernel_rfl
theorem reach_eq:reachBytes=140737488351232:=rfl
theorem add_eq (b o i:Nat):(⟨b,o,none⟩:Addr).add i=⟨b,o+i,none⟩:=by
 unfold Addr.add
 by_cases h:i=0
 ·simp [h]
 ·simp [h]
theorem spotless {w:World} {a:Addr} {v:Value} (h:w.cell? (a.add 0)=some v):∃ b o,a=⟨b,o,none⟩:=by
 obtain ⟨b,o,s⟩:=a
 have:s=none:=by simpa [Addr.add] using World.cell?_spot h
 exact ⟨b,o,by rw [this]⟩
theorem list8 {α:Type} {cs:List α} (h:cs.length=8):∃ c0 c1 c2 c3 c4 c5 c6 c7,cs=[c0,c1,c2,c3,c4,c5,c6,c7]:=by
 match cs,h with
 | [c0,c1,c2,c3,c4,c5,c6,c7],_=>exact ⟨c0,c1,c2,c3,c4,c5,c6,c7,rfl⟩
theorem open_nums {H:Type} {enc:TypeId × Value->H} {W:World} {n:Nat} {c:Value} {y:DataW H × List MemPlace} (h:DataW.trod enc Tryz.prog W 0 (fun _=>true) true n 24 [c]=some y)
  (hw:∀ x,x ∈ DataW.weights Tryz.prog 24 y.1->x<=140737488351232):∃ l,IR W c l/\l.length<=100000000000000:=by
 rcases open_ints Tryz.underlying24 Tryz.underlying2 Tryz.cells2 h with ⟨hcs,hx⟩|⟨a,len,cap,zs,hcs,_,hl,hm,hz,hx,hcell,hwz⟩
 ·obtain rfl:c=.slice none 0 0:=by simpa using hcs
  exact ⟨[],⟨none,0,rfl,Nat.le_refl _,fun i hi=>by simp at hi⟩,by simp⟩
 ·obtain rfl:c=.slice (some a) len cap:=by simpa using hcs
  simp only [if_true] at hz
  have e:(zs.take len).length=len:=by rw [List.length_take];omega
  have hlen:len<=100000000000000:=by
   have:=hw (((lits .i64 (zs.take len):List (DataW H)).length+(lits .i64 (zs.drop len):List (DataW H)).length) * Tryz.prog.bytesOf 2) (by
    rw [hx]
    simp [DataW.weights,Tryz.underlying24])
   rw [Tryz.bytes2] at this
   have q:(lits .i64 (zs.take len):List (DataW H)).length=len:=by simpa [lits] using e
   rw [q] at this
   omega
  refine ⟨zs.take len,⟨some a,cap,by rw [e],by rw [e];exact hl,fun i hi=>?_⟩,by rw [e];exact hlen⟩
  have hi' : i<len:=by omega
  obtain ⟨b,o,rfl⟩:=spotless (hcell 0 (by omega))
  have hci:=hcell i (by omega)
  rw [add_eq] at hci
  refine ⟨b,o,rfl,?_⟩
  rw [hci]
  simp [List.getD_eq_getElem?_getD,hi']
end Go.Proofs.YtgnbibinclepcaaGreatDoor
/- A machine that came in as an argument. -/
namespace Go.Proofs.YtgnbibinclepcaaGreatDoor
open Go.ChangeShapes Go.WideShapes Go.ChangeAt Go.RowKit Go.Joins
theorem Tryz.kcellsVm:Tryz.prog.cellsOf 50=12:=by kernel_rfl
theorem Tryz.kcellsI:Tryz.prog.cellsOf 24=1:=by kernel_rfl
theorem Tryz.kcellsC:Tryz.prog.cellsOf 103=2:=by kernel_rfl
theorem Tryz.kcellsCs:Tryz.prog.cellsOf 48=1:=by kernel_rfl
theorem Tryz.kbytesC:Tryz.prog.bytesOf 103=16:=by kernel_rfl
theorem Tryz.kcells4:Tryz.prog.cellsOf 4=1:=by kernel_rfl
theorem array12 {α:Type} {cs:Array α} (h:cs.size=12):∃ c0 c1 c2 c3 c4 c5 c6 c7 c8 c9 c10 c11,cs=#[c0,c1,c2,c3,c4,c5,c6,c7,c8,c9,c10,c11]:=by
 obtain ⟨l⟩:=cs
 match l,h with
 | [c0,c1,c2,c3,c4,c5,c6,c7,c8,c9,c10,c11],_=>exact ⟨c0,c1,c2,c3,c4,c5,c6,c7,c8,c9,c10,c11,rfl⟩
theorem list2K {α:Type} {cs:List α} (h:cs.length=2):∃ c0 c1,cs=[c0,c1]:=by
 match cs,h with
 | [c0,c1],_=>exact ⟨c0,c1,rfl⟩
theorem list5K {α:Type} {cs:List α} (h:cs.length=5):∃ c0 c1 c2 c3 c4,cs=[c0,c1,c2,c3,c4]:=by
 match cs,h with
 | [c0,c1,c2,c3,c4],_=>exact ⟨c0,c1,c2,c3,c4,rfl⟩
def CdAt (W:World) (a:Addr) (p:Cd):Prop:=W.cell? (a.add 0)=some (.int .i64 p.1)/\W.cell? (a.add 1)=some (.int .i64 p.2)
theorem open_codeK {H:Type} {enc:TypeId × Value->H} {W:World} {n:Nat} {a:Addr} {cs:List Value} {y:DataW H × List MemPlace} (hc:W.cells? 0 a 2=some cs) (h:DataW.trod enc Tryz.prog W 0 (fun _=>true) true n 103 cs=some y):∃ p,CdAt W a p:=by
 obtain ⟨_,hlen,hcell⟩:=World.cells?_some hc
 obtain ⟨xs,k,_,hx,_,hxl,hfl⟩:=DataW.trod_struct Tryz.underlying103 h
 obtain ⟨y0,y1,rfl⟩:=list2K hxl
 obtain ⟨v0,v1,rfl⟩:=list2K hlen
 have g0:=hfl 0 _ rfl
 have g1:=hfl 1 _ rfl
 clear hfl hxl
 have e0:=hcell 0 (by omega)
 have e1:=hcell 1 (by omega)
 simp [Tryz.cells2] at g0 g1 e0 e1
 obtain ⟨z0,q0,_,w0⟩:=DataW.trod_int Tryz.underlying2 g0
 obtain ⟨z1,q1,_,w1⟩:=DataW.trod_int Tryz.underlying2 g1
 simp only [List.cons.injEq,and_true] at q0 q1
 subst q0 q1
 exact ⟨(z0,z1),e0,e1⟩
set_option maxRecDepth 100000 in
set_option maxHeartbeats 1600000 in
theorem open_codes {H:Type} {enc:TypeId × Value->H} {W:World} {n:Nat} {c:Value} {y:DataW H × List MemPlace} (h:DataW.trod enc Tryz.prog W 0 (fun _=>true) true n 48 [c]=some y)
  (hw:∀ x,x ∈ DataW.weights Tryz.prog 48 y.1->x<=140737488351232):∃ l,CR W c l/\l.length<=100000000000000:=by
 rcases Deep.open_slice Tryz.underlying48 h with ⟨hcs,hx⟩|⟨a,len,cap,m,k,D,Pl,hcs,_,hl,hm,hmm,hx,hc⟩
 ·obtain rfl:c=.slice none 0 0:=by simpa using hcs
  exact ⟨[],⟨none,0,rfl,Nat.le_refl _,fun i hi=>by simp at hi⟩,by simp⟩
 ·obtain rfl:c=.slice (some a) len cap:=by simpa using hcs
  have hmc:m=cap:=by simpa using hmm
  subst hmc
  rw [hx] at hw
  rw [Tryz.kcellsC] at hc
  have hlen:len<=100000000000000:=by
   have:=hw ((((List.range len).map D).length+((List.range (m - len)).map fun j=>D (len+j)).length) * Tryz.prog.bytesOf 103) (by
    simp [DataW.weights,Tryz.underlying48])
   rw [Tryz.kbytesC] at this
   simp at this
   omega
  have hh:∀ i,i<len->∃ x:Cd,CdAt W (a.add (i * 2)) x:=fun i hi=>by
   obtain ⟨cs,h1,h2⟩:=hc i (by omega)
   exact open_codeK h1 h2
  obtain ⟨f,hf⟩:∃ f:Nat->Cd,∀ i,i<len->CdAt W (a.add (i * 2)) (f i):=⟨fun i=>if hi:i<len then Classical.choose (hh i hi) else cd0,fun i hi=>by simp only [dif_pos hi];exact Classical.choose_spec (hh i hi)⟩
  have e:((List.range len).map f).length=len:=by simp
  refine ⟨(List.range len).map f,⟨some a,m,by rw [e],by rw [e];exact hl,fun i hi=>?_⟩,by rw [e];exact hlen⟩
  rw [e] at hi
  have h0:=(hf 0 (by omega)).1
  rw [Nat.zero_mul] at h0
  obtain ⟨b,o,rfl⟩:=spotless (a:=a) (by simpa [Addr.add] using h0)
  obtain ⟨c0,c1⟩:=hf i hi
  rw [add_eq,add_eq] at c0 c1
  have eg:((List.range len).map f).getD i cd0=f i:=by simp [hi]
  exact ⟨b,o,rfl,by rw [eg];simpa using c0,by rw [eg];exact c1⟩
set_option maxRecDepth 100000 in
set_option maxHeartbeats 1600000 in
theorem open_heapK {H:Type} {enc:TypeId × Value->H} {W:World} {n:Nat} {c0 c1 c2 c3 c4 c5 c6 c7:Value} {y:DataW H × List MemPlace} (h:DataW.trod enc Tryz.prog W 0 (fun _=>true) true n 47 [c0,c1,c2,c3,c4,c5,c6,c7]=some y)
  (hsz:∀ x,x ∈ DataW.weights Tryz.prog 47 y.1->x<=140737488351232) :
  ∃ hp:Hp,(c2=.int .i64 hp.old/\c3=.int .i64 hp.eden/\c4=.int .i64 hp.surv/\c5=.bool hp.flip/\c6=.int .i64 hp.hash)/\IR W c0 hp.words/\IR W c1 hp.roots/\IR W c7 hp.kept/\hp.words.length<=1000000000000000/\hp.roots.length<=1000000000000000/\hp.kept.length<=1000000000000000:=by
 obtain ⟨xs,k,_,hx,hl,hlen,hfl⟩:=DataW.trod_struct Tryz.underlying47 h
 obtain ⟨y0,y1,y2,y3,y4,y5,y6,y7,rfl⟩:=list8 hlen
 have g0:=hfl 0 _ rfl
 have g1:=hfl 1 _ rfl
 have g2:=hfl 2 _ rfl
 have g3:=hfl 3 _ rfl
 have g4:=hfl 4 _ rfl
 have g5:=hfl 5 _ rfl
 have g6:=hfl 6 _ rfl
 have g7:=hfl 7 _ rfl
 clear hfl hlen hl
 obtain ⟨yd,yp⟩:=y
 simp only [Prod.mk.injEq,List.map_cons,List.map_nil] at hx
 obtain ⟨rfl,_⟩:=hx
 simp [Tryz.kcellsI,Tryz.kcells4,Tryz.cells2] at g0 g1 g2 g3 g4 g5 g6 g7
 obtain ⟨z2,e2,_⟩:=DataW.trod_int Tryz.underlying2 g2
 obtain ⟨z3,e3,_⟩:=DataW.trod_int Tryz.underlying2 g3
 obtain ⟨z4,e4,_⟩:=DataW.trod_int Tryz.underlying2 g4
 obtain ⟨z5,e5,_⟩:=DataW.trod_bool Tryz.underlying4 g5
 obtain ⟨z6,e6,_⟩:=DataW.trod_int Tryz.underlying2 g6
 simp only [List.cons.injEq,and_true] at e2 e3 e4 e5 e6
 subst e2 e3 e4 e5 e6
 obtain ⟨l1,r1,b1⟩:=open_nums g0 (fun x hx=>hsz x (by simp [DataW.weights,DataW.weightsEach,Tryz.underlying47,hx]))
 obtain ⟨l2,r2,b2⟩:=open_nums g1 (fun x hx=>hsz x (by simp [DataW.weights,DataW.weightsEach,Tryz.underlying47,hx]))
 obtain ⟨l3,r3,b3⟩:=open_nums g7 (fun x hx=>hsz x (by simp [DataW.weights,DataW.weightsEach,Tryz.underlying47,hx]))
 exact ⟨⟨l1,l2,z2,z3,z4,z5,z6,l3⟩,⟨rfl,rfl,rfl,rfl,rfl⟩,r1,r2,r3,by show l1.length<=_;omega,by show l2.length<=_;omega,by show l3.length<=_;omega⟩
set_option maxRecDepth 100000 in
set_option maxHeartbeats 1600000 in
theorem open_vm {H:Type} {enc:TypeId × Value->H} {W:World} {b0:Nat} {v:Value} {d:DataW H} {p:List MemPlace} (hv:Value.okWide Tryz.prog W .any b0 50 v)
  (h:DataW.Trod enc Tryz.prog W 0 (fun _=>true) true 50 v d p) (hsz:∀ x ∈ DataW.weights Tryz.prog 50 d,x<=140737488351232) :
  ∃ (v1 v2 v3 vp vo:Value) (m:Mp),v=.agg #[v1,v2,.int .i64 m.h.old,.int .i64 m.h.eden,.int .i64 m.h.surv,.bool m.h.flip,.int .i64 m.h.hash,v3,vp,.int .i64 m.pc,vo,.int .i64 m.st]/\IR W v1 m.h.words/\IR W v2 m.h.roots/\IR W v3 m.h.kept/\CR W vp m.prog/\IR W vo m.out/\smM m 1000000000000000:=by
 obtain ⟨cs,rfl,hcs⟩:=okWide_struct Tryz.underlying50 hv
 obtain ⟨c0,c1,c2,c3,c4,c5,c6,c7,c8,c9,c10,c11,rfl⟩:=array12 (hcs.trans Tryz.kcellsVm)
 obtain ⟨fuel,hf⟩:=h
 obtain ⟨xs,n,_,hx,hl,hlen,hfl⟩:=DataW.trod_struct Tryz.underlying50 hf
 obtain ⟨y0,y1,y2,y3,y4,rfl⟩:=list5K hlen
 have g0:=hfl 0 _ rfl
 have g1:=hfl 1 _ rfl
 have g2:=hfl 2 _ rfl
 have g3:=hfl 3 _ rfl
 have g4:=hfl 4 _ rfl
 clear hfl hlen hl
 simp only [Prod.mk.injEq,List.map_cons,List.map_nil] at hx
 obtain ⟨rfl,_⟩:=hx
 simp [Value.cells,Tryz.kcellsI,Tryz.kcellsCs,Tryz.cells2,Tryz.cellsHp] at g0 g1 g2 g3 g4
 obtain ⟨z2,e2,_⟩:=DataW.trod_int Tryz.underlying2 g2
 obtain ⟨z4,e4,_⟩:=DataW.trod_int Tryz.underlying2 g4
 simp only [List.cons.injEq,and_true] at e2 e4
 subst e2 e4
 obtain ⟨hp,⟨rfl,rfl,rfl,rfl,rfl⟩,r1,r2,r3,b1,b2,b3⟩:=open_heapK g0 (fun x hx=>hsz x (by simp [DataW.weights,DataW.weightsEach,Tryz.underlying50,hx]))
 obtain ⟨lp,rp,bp⟩:=open_codes g1 (fun x hx=>hsz x (by simp [DataW.weights,DataW.weightsEach,Tryz.underlying50,hx]))
 obtain ⟨lo,ro,bo⟩:=open_nums g3 (fun x hx=>hsz x (by simp [DataW.weights,DataW.weightsEach,Tryz.underlying50,hx]))
 exact ⟨c0,c1,c7,c8,c10,⟨hp,lp,z2,lo,z4⟩,rfl,r1,r2,r3,rp,ro,b1,b2,b3,by show lp.length<=_;omega,by show lo.length<=_;omega⟩
end Go.Proofs.YtgnbibinclepcaaGreatDoor
