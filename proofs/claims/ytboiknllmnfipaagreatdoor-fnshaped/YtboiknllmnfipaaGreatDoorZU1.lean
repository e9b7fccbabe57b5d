
import Derived.Test.YtboiknllmnfipaaGreatDoorZHSpecW
/- l5Parts and l5All of the model. -/
namespace Go.Proofs.YtboiknllmnfipaaGreatDoor
open Go.RowKit
def HR (w:World) (v:Value) (h:Hp):Prop :=
 ∃ v1 v2 v3,v=.agg #[v1,v2,.int .i64 h.old,.int .i64 h.eden,.int .i64 h.surv,.bool h.flip,.int .i64 h.hash,v3]/\IR w v1 h.words/\IR w v2 h.roots/\IR w v3 h.kept
theorem HR.later {w w' : World} {v:Value} {h:Hp} (k:HR w v h) (hb:Below w.heap.size w w'):HR w' v h:=by
 obtain ⟨v1,v2,v3,e,a,b,c⟩:=k
 exact ⟨v1,v2,v3,e,a.later hb,b.later hb,c.later hb⟩
structure Bx (w:World) (N:Nat) (v1 v2 v3:Value) (h:Hp):Prop where
 c0:w.cell? ⟨N,0,none⟩=some v1
 c1:w.cell? ⟨N,1,none⟩=some v2
 c2:w.cell? ⟨N,2,none⟩=some (.int .i64 h.old)
 c3:w.cell? ⟨N,3,none⟩=some (.int .i64 h.eden)
 c4:w.cell? ⟨N,4,none⟩=some (.int .i64 h.surv)
 c5:w.cell? ⟨N,5,none⟩=some (.bool h.flip)
 c6:w.cell? ⟨N,6,none⟩=some (.int .i64 h.hash)
 c7:w.cell? ⟨N,7,none⟩=some v3
theorem Bx.new (w:World) (v1 v2 v3:Value) (h:Hp) (t:TypeId):Bx (w.alloc (.cells #[v1,v2,.int .i64 h.old,.int .i64 h.eden,.int .i64 h.surv,.bool h.flip,.int .i64 h.hash,v3] t)) w.heap.size v1 v2 v3 h:=by
 constructor <;> exact E6 w _ t _ rfl _ _ rfl
theorem Bx.later {w w' : World} {N:Nat} {v1 v2 v3:Value} {h:Hp} (k:Bx w N v1 v2 v3 h) (hb:Below w.heap.size w w'):Bx w' N v1 v2 v3 h :=
 ⟨C2 hb k.c0,C2 hb k.c1,C2 hb k.c2,C2 hb k.c3,C2 hb k.c4,C2 hb k.c5,C2 hb k.c6,C2 hb k.c7⟩
theorem Jaq {ops:Array Oper} {rest:List Oper} {o:Oper} {a:Act} {Q:Exit->Act->World->Prop} (w:World) (hgd:o.guard=none) (s x:Operand)
  (ho:o.op=.call { callee:=.builtin .append,args:=#[s,x],argTypes:=#[24,24] }) (B:Nat) (v:Value) (n:Nat) (xs:List Value) (hs:a.eval s=v) (hown:w.ownsRow B 2 1 v n xs)
  (g c m:Nat) (l:List Int) (hx:a.eval x=.slice (some ⟨g,0,none⟩) m c) (hl:l.length=m) (hc:IR w (.slice (some ⟨g,0,none⟩) m c) l) (hn:n+m<=1000000000000) (hB:B<=w.heap.size)
  (h:∀ v' w',w'.ownsRow B 2 1 v' (n+m) (xs ++ icells l)->w.grownBy w' v.ownBlock->(v ≠ .slice none 0 0->v' ≠ .slice none 0 0)->wpList Tryz.prog ops Q rest (a.put o.dst v') w'):wpList Tryz.prog ops Q (o::rest) a w:=by
 obtain ⟨i,hi,hzz⟩:=Option.map_eq_some_iff.1 Tryz.infoI
 simp only [Prod.mk.injEq] at hzz
 obtain ⟨hz,hsz,hby⟩:=hzz
 refine wpList_append_own w hgd s x 24 ho B 2 i _ 1 8 Tryz.underlying24 hi hz hsz hby rfl (by omega) v n xs hs hown ⟨g,0,none⟩ m c (icells l) hx (by simp [icells,hl]) (fun j u hj=>?_) (fun u hu=>?_) (by unfold maxLen;omega) (by omega) hB (fun v' w' h1 h2 h3=>h v' w' h1 h2 (fun e k=>e (h3.1 k).1))
 ·obtain ⟨ao,cap,e,_,hcc⟩:=hc
  have hj' : j<l.length:=by
   rcases Nat.lt_or_ge j l.length with k|k
   ·exact k
   ·rw [List.getElem?_eq_none (by simpa [icells] using k)] at hj;cases hj
  obtain ⟨b,o,e2,hcell⟩:=hcc j hj'
  simp only [Value.slice.injEq] at e
  rw [<- e.1] at e2
  simp only [Option.some.injEq,Addr.mk.injEq] at e2
  obtain ⟨rfl,rfl,_⟩:=e2
  have hu:u=.int .i64 (l.getD j 0):=by
   simp [icells,hj'] at hj
   rw [<- hj]
   simp [hj']
  rw [hu,← hcell]
  unfold Addr.add
  split
  ·subst j;rfl
  ·simp
 ·obtain ⟨z,_,rfl⟩:=List.mem_map.1 hu
  rfl
theorem J2 {w:World} {B n:Nat} {v:Value} {l:List Nat} (h:w.ownsRow B 2 1 v n (icells (ints l))):IR w v (ints l):=by
 have e:(ints l).length=n:=by have:=h.1;simpa [icells] using this
 subst e
 exact E9 h
theorem Rd {w:World} {B B' e size n:Nat} {v:Value} {xs:List Value} (h:w.ownsRow B e size v n xs) (hB:B' <= B):w.ownsRow B' e size v n xs:=by
 obtain ⟨hl,h⟩:=h
 refine ⟨hl,?_⟩
 rcases h with h|⟨g,cap,cur,hv,hb,hh⟩
 ·exact .inl h
 ·exact .inr ⟨g,cap,cur,hv,Nat.le_trans hB hb,hh⟩
theorem Jhr {w:World} {B e size n g cap:Nat} {xs:List Value} (h:w.ownsRow B e size (.slice (some ⟨g,0,none⟩) n cap) n xs):B<=g/\g<w.heap.size:=by
 rcases h.2 with ⟨e0,_⟩|⟨g',cap',cur,e0,hb,hg,_⟩
 ·cases e0
 ·injection e0 with e1
  injection e1 with e1
  injection e1 with e1
  subst e1
  refine ⟨hb,?_⟩
  rcases Nat.lt_or_ge g w.heap.size with k|k
  ·exact k
  ·rw [Array.getElem?_eq_none k] at hg;cases hg
def Xr (h:Hp) (B:Nat) (x:Ending) (w' : World):Prop :=
 ∃ l g cap ok,l.length<=3200/\x=.returned (.tuple #[.slice (some ⟨g,0,none⟩) l.length cap,.bool ok])/\w'.ownsRow B 2 1 (.slice (some ⟨g,0,none⟩) l.length cap) l.length (icells (ints l))/\(ok=true->PartsAt h l)/\(ok=false->∀ m,¬ PartsAt h m)
set_option maxRecDepth 100000 in
set_option maxHeartbeats 1600000 in
theorem Vs (v:Value) (h:Hp) (w:World) (hv:HR w v h) :
  Calls Tryz.prog 31 #[v] w fun x w'=>Xr h w.heap.size x w' /\ Below w.heap.size w w':=by
 obtain ⟨v1,v2,v3,rfl,i1,i2,i3⟩:=hv
 have X0:=Bx.new w v1 v2 v3 h 30
 have hb0:=C5 w (.cells #[v1,v2,.int .i64 h.old,.int .i64 h.eden,.int .i64 h.surv,.bool h.flip,.int .i64 h.hash,v3] 30)
 have NO:Hid ((¬ ∃ m,PartsAt h m)->Xr h w.heap.size (.returned (.tuple #[.slice (some ⟨w.heap.size+1,0,none⟩) 0 0,.bool false])) ((w.alloc (.cells #[v1,v2,.int .i64 h.old,.int .i64 h.eden,.int .i64 h.surv,.bool h.flip,.int .i64 h.hash,v3] 30)).alloc (.cells #[] 2))/\Below w.heap.size w ((w.alloc (.cells #[v1,v2,.int .i64 h.old,.int .i64 h.eden,.int .i64 h.surv,.bool h.flip,.int .i64 h.hash,v3] 30)).alloc (.cells #[] 2))):=fun hn =>
  ⟨⟨[],w.heap.size+1,0,false,by simp,rfl,by have q:=Te (w.alloc (.cells #[v1,v2,.int .i64 h.old,.int .i64 h.eden,.int .i64 h.surv,.bool h.flip,.int .i64 h.hash,v3] 30)) w.heap.size 2 1 hb0.size;rwa [World.size_alloc] at q,by simp,fun _ m k=>hn ⟨m,k⟩⟩,C3 hb0 (C5 _ _)⟩
 have hsb:H9 h.flip<=2900:=by unfold H9;split <;> omega
 obtain ⟨ao,cap,rfl,hcap,_⟩:=id i1
 by_cases hl:h.words.length=3200
 ·have hl' : ((h.words.length:Int) != 3200)=false:=by simp;omega
  by_cases h0:0<=h.old/\h.old<=2000
  ·have D0:=decide_eq_true h0
   by_cases h1:2000<=h.eden/\h.eden<=2600
   ·have D1:=decide_eq_true h1
    by_cases h2:(H9 h.flip:Int)<=h.surv/\h.surv<=(H9 h.flip:Int)+300
    ·have D2:=decide_eq_true h2
     clear NO
     clear hcap
     obtain ⟨b,o,cp,e1,hcap,hW⟩:=i1.ws (by omega)
     rw [hl] at e1
     simp only [Value.slice.injEq] at e1
     obtain ⟨rfl,_,rfl⟩:=e1
     obtain ⟨c0,c1,c2,c3,c4,c5,c6,c7⟩:=id X0
     simp only [hl] at hb0 X0 c0 ⊢
     have HL:Hid (h.words.length=3200):=hl
     clear hl hl' i1 c1 c2 c3 c4 c5 c6 c7 hcap
     have A0:∀ w',WS w' b o h.words->Calls Tryz.prog 54 #[.slice (some ⟨b,o,none⟩) 3200 cap,.int .i64 0,.int .i64 h.old] w' fun x w''=>U0 h.words 0 h.old.toNat w'.heap.size x w'' /\ Below w'.heap.size w' w'':=fun w' hh=>by
      have q:=Ud b o cap h.words 0 h.old.toNat w' hh HL.out (by omega) (by omega)
      rwa [Int.toNat_of_nonneg (by omega:0<=h.old)] at q
     have A1:∀ w',WS w' b o h.words->Calls Tryz.prog 54 #[.slice (some ⟨b,o,none⟩) 3200 cap,.int .i64 2000,.int .i64 h.eden] w' fun x w''=>U0 h.words 2000 h.eden.toNat w'.heap.size x w'' /\ Below w'.heap.size w' w'':=fun w' hh=>by
      have q:=Ud b o cap h.words 2000 h.eden.toNat w' hh HL.out (by omega) (by omega)
      rwa [Int.toNat_of_nonneg (by omega:0<=h.eden)] at q
     have A2:∀ w',WS w' b o h.words->Calls Tryz.prog 54 #[.slice (some ⟨b,o,none⟩) 3200 cap,.int .i64 (H9 h.flip),.int .i64 h.surv] w' fun x w''=>U0 h.words (H9 h.flip) h.surv.toNat w'.heap.size x w'' /\ Below w'.heap.size w' w'':=fun w' hh=>by
      have q:=Ud b o cap h.words (H9 h.flip) h.surv.toNat w' hh HL.out (by omega) (by omega)
      rwa [Int.toNat_of_nonneg (by omega:0<=h.surv)] at q
     have PA:Hid (∀ n0 n1 n2,Goes h.words 0 h.old.toNat n0->Goes h.words 2000 h.eden.toNat n1->Goes h.words (H9 h.flip) h.surv.toNat n2->PartsAt h (its h.words 0 n0 ++ its h.words 2000 n1 ++ its h.words (H9 h.flip) n2)):=fun n0 n1 n2 g0 g1 g2=>⟨HL.out,h0,h1,h2,n0,n1,n2,g0,g1,g2,rfl⟩
     have W0:=hW.later hb0
     clear hW i2 i3 c0
     go_enter Tryz.func31,Tryz.ntmps31
     go_wp2_with (first|(go_at_call 32;refine (I9 _ _ _ _).mono ?_;rintro x w' ⟨rfl,rfl⟩;(first|rw [D0]|rw [D1]|rw [D2]))|(go_at_call 33;refine (Oe _ _).mono ?_;rintro x w' ⟨rfl,rfl⟩))
     refine (A0 _ W0).mono ?_
     rintro x w1 ⟨⟨n0,g0,k0,ok0,le0,rfl,own0,y0,no0⟩,hb1⟩
     have hbw1:=C3 hb0 hb1
     have W1:=W0.later hb1
     have X1:=X0.later hb1
     obtain ⟨c0,-,-,c3,-,-,-,-⟩:=id X1
     clear A0 W0 X0 D0 D1 D2
     go_wp2_with fail
     refine (A1 _ W1).mono ?_
     rintro x w2 ⟨⟨n1,g1,k1,ok1,le1,rfl,own1,y1,no1⟩,hb2⟩
     have hbw2:=C3 hbw1 hb2
     have W2:=W1.later hb2
     have X2:=X1.later hb2
     clear c0 c3
     obtain ⟨c0,-,-,-,c4,-,-,-⟩:=id X2
     clear A1 W1 X1
     go_wp2_with fail
     refine (A2 _ W2).mono ?_
     rintro x w3 ⟨⟨n2,g2,k2,ok2,le2,rfl,own2,y2,no2⟩,hb3⟩
     have hbw3:=C3 hbw2 hb3
     have oa:=Rd (E8 (E8 own0 hb2) hb3) hb0.size
     have ob:=J2 (E8 own1 hb3)
     have oc:=J2 own2
     have lt0:=(Jhr own0).2
     have ge2:=(Jhr own2).1
     have s12:=hb2.size
     have sw3:=hbw3.size
     have YES:Hid (∀ v w',w'.ownsRow w.heap.size 2 1 v (n0+n1+n2) (icells (ints (its h.words 0 n0)) ++ icells (ints (its h.words 2000 n1)) ++ icells (ints (its h.words (H9 h.flip) n2)))->v ≠ .slice none 0 0->Below w.heap.size w w' -> Xr h w.heap.size (.returned (.tuple #[v,.bool (ok0 && ok1 && ok2)])) w' /\ Below w.heap.size w w'):=fun v w' ho hn hb=>by
      obtain ⟨g,cp,rfl⟩:=Ye ho hn
      have el:(its h.words 0 n0 ++ its h.words 2000 n1 ++ its h.words (H9 h.flip) n2).length=n0+n1+n2:=by simp [Pd];omega
      refine ⟨⟨its h.words 0 n0 ++ its h.words 2000 n1 ++ its h.words (H9 h.flip) n2,g,cp,ok0 && ok1 && ok2,by rw [el];omega,by rw [el],?_,fun k=>?_,fun k m q=>?_⟩,hb⟩
      ·rw [el]
       simpa [icells,ints] using ho
      ·simp only [Bool.and_eq_true] at k
       exact PA.out n0 n1 n2 (y0 k.1.1) (y1 k.1.2) (y2 k.2)
      ·obtain ⟨_,_,_,_,m0,m1,m2,q0,q1,q2,_⟩:=q
       cases ok0
       ·exact no0 rfl m0 q0
       ·cases ok1
        ·exact no1 rfl m1 q1
        ·cases ok2
         ·exact no2 rfl m2 q2
         ·simp at k
     clear PA y0 y1 y2 no0 no1 no2 A2 W2 X2 own0 own1 own2 c0 c4
     have hbs:=hbw3
     go_wp2_with (first
      | (at_builtin;refine Jaq _ rfl _ _ rfl _ _ n0 _ rfl oa g1 k1 n1 _ rfl (by simp [ints,Pd]) ob (by omega) sw3 ?_;intro v4 w4 hown4 hg4 hnil4;have hb4:=Tk hbs oa hg4 sw3;have hg4' : w3.grownBy w4 (some g0):=hg4;have oc4:=oc.grown hg4' (.inr (by simp [Value.ownBlock];omega));have hn4:v4 ≠ .slice none 0 0:=hnil4 (fun e=>by cases e);clear hg4 hg4' hnil4)
      | (at_builtin;refine Jaq _ rfl _ _ rfl _ _ (n0+n1) _ rfl hown4 g2 k2 n2 _ rfl (by simp [ints,Pd]) oc4 (by omega) hb4.size ?_;intro v5 w5 hown5 hg5 hnil5;have hb5:=Tk hb4 hown4 hg5 hb4.size;have G:=YES.out v5 w5 hown5 (hnil5 hn4) hb5;clear hg5 hnil5))
     all_goals
      clear oa ob oc hown4 oc4 hown5 YES hb0 hb1 hb2 hb3 hbw1 hbw2 hbw3
      refine bodyPost_ret (v:=.tuple #[v5,.bool (ok0 && ok1 && ok2)]) ?_ rfl G
      clear G
      simp [results,Tryz.results31,go_sem] <;> (cases ok0 <;> cases ok1 <;> cases ok2 <;> simp_all)
    ·have D2:=decide_eq_false h2
     have G:=NO.out (fun ⟨m,k⟩=>h2 k.2.2.2.1)
     clear NO X0 i1 i2 i3 hl
     go_enter Tryz.func31,Tryz.ntmps31
     go_wp2_with (first|(go_at_call 32;refine (I9 _ _ _ _).mono ?_;rintro x w' ⟨rfl,rfl⟩;(first|rw [D0]|rw [D1]|rw [D2]))|(go_at_call 33;refine (Oe _ _).mono ?_;rintro x w' ⟨rfl,rfl⟩))
     exact bodyPost_ret (v:=.tuple #[.slice (some ⟨w.heap.size+1,0,none⟩) 0 0,.bool false]) (by simp [results,Tryz.results31,go_sem]) rfl G
   ·have D1:=decide_eq_false h1
    have D2:=D1
    have G:=NO.out (fun ⟨m,k⟩=>h1 k.2.2.1)
    clear NO X0 i1 i2 i3 hl
    go_enter Tryz.func31,Tryz.ntmps31
    go_wp2_with (first|(go_at_call 32;refine (I9 _ _ _ _).mono ?_;rintro x w' ⟨rfl,rfl⟩;(first|rw [D0]|rw [D1]|rw [D2]))|(go_at_call 33;refine (Oe _ _).mono ?_;rintro x w' ⟨rfl,rfl⟩))
    exact bodyPost_ret (v:=.tuple #[.slice (some ⟨w.heap.size+1,0,none⟩) 0 0,.bool false]) (by simp [results,Tryz.results31,go_sem]) rfl G
  ·have D0:=decide_eq_false h0
   have D1:=D0
   have D2:=D0
   have G:=NO.out (fun ⟨m,k⟩=>h0 k.2.1)
   clear NO X0 i1 i2 i3 hl
   go_enter Tryz.func31,Tryz.ntmps31
   go_wp2_with (first|(go_at_call 32;refine (I9 _ _ _ _).mono ?_;rintro x w' ⟨rfl,rfl⟩;(first|rw [D0]|rw [D1]|rw [D2]))|(go_at_call 33;refine (Oe _ _).mono ?_;rintro x w' ⟨rfl,rfl⟩))
   exact bodyPost_ret (v:=.tuple #[.slice (some ⟨w.heap.size+1,0,none⟩) 0 0,.bool false]) (by simp [results,Tryz.results31,go_sem]) rfl G
 ·have G:=NO.out (fun ⟨m,k⟩=>hl k.1)
  have hl' : ((h.words.length:Int) != 3200)=true:=by simp;omega
  clear NO X0 i1 i2 i3 hl
  go_enter Tryz.func31,Tryz.ntmps31
  go_wp2_with (go_at_call 33;refine (Oe _ _).mono ?_;rintro x w' ⟨rfl,rfl⟩)
  exact bodyPost_ret (v:=.tuple #[.slice (some ⟨w.heap.size+1,0,none⟩) 0 0,.bool false]) (by simp [results,Tryz.results31,go_sem]) rfl G
end Go.Proofs.YtboiknllmnfipaaGreatDoor
/- Small functions of the program's heap: sizes, classes, headers, what comes behind an object, its fields, noughts, spaces. -/
namespace Go.Proofs.YtboiknllmnfipaaGreatDoor
open Go.RowKit
theorem Q4 (x:Int) (w:World):Calls Tryz.prog 106 #[.int .i64 x] w fun e w'=>e=.returned (.bool (decide (0<=x/\x<=60)))/\w' = w:=by
 by_cases h:0<=x
 ·go_enter Tryz.func106,Tryz.ntmps106
  go_wp2
  go_ret
  exact ⟨E7 (by simp [h]),rfl⟩
 ·go_enter Tryz.func106,Tryz.ntmps106
  go_wp2
  go_ret
  exact ⟨E7 (by simp;omega),rfl⟩
theorem Ri (x:Int) (w:World):Calls Tryz.prog 107 #[.int .i64 x] w fun e w'=>e=.returned (.bool (decide (0<=x/\x<=99)))/\w' = w:=by
 by_cases h:0<=x
 ·go_enter Tryz.func107,Tryz.ntmps107
  go_wp2
  go_ret
  exact ⟨E7 (by simp [h]),rfl⟩
 ·go_enter Tryz.func107,Tryz.ntmps107
  go_wp2
  go_ret
  exact ⟨E7 (by simp;omega),rfl⟩
theorem Qj (x:Int) (w:World):Calls Tryz.prog 81 #[.int .i64 x] w fun e w'=>e=.returned (.bool (decide (2000<=x)))/\w' = w:=by
 go_enter Tryz.func81,Tryz.ntmps81
 go_wp2
 go_ret
 exact ⟨rfl,rfl⟩
theorem Vu (x0 x1 x2 x3:Int) (w:World) :
  Calls Tryz.prog 92 #[.agg #[.int .i64 x0,.int .i64 x1,.int .i64 x2,.int .i64 x3]] w fun e w'=>e=.returned (.bool (decide (0<=x0/\x0<=60) && (decide (0<=x1/\x1<=99) && decide (0<=x3/\x3<=15)) && decide (1<=x2)))/\Below w.heap.size w w':=by
 have hb0:=C5 w (.cells #[.int .i64 x0,.int .i64 x1,.int .i64 x2,.int .i64 x3] 49)
 by_cases h0:0<=x0/\x0<=60
 ·have D0:=decide_eq_true h0
  by_cases h1:0<=x1/\x1<=99
  ·have D1:=decide_eq_true h1
   by_cases h2:1<=x2
   ·by_cases h3:0<=x3
    ·go_enter Tryz.func92,Tryz.ntmps92
     go_wp2_with (first|(go_at_call 106;refine (Q4 _ _).mono ?_;rintro x wq ⟨rfl,rfl⟩;rw [D0])|(go_at_call 107;refine (Ri _ _).mono ?_;rintro x wq ⟨rfl,rfl⟩;rw [D1]))
     go_ret
     exact ⟨E7 (by simp [h0,h1,h2,h3]),hb0⟩
    ·go_enter Tryz.func92,Tryz.ntmps92
     go_wp2_with (first|(go_at_call 106;refine (Q4 _ _).mono ?_;rintro x wq ⟨rfl,rfl⟩;rw [D0])|(go_at_call 107;refine (Ri _ _).mono ?_;rintro x wq ⟨rfl,rfl⟩;rw [D1]))
     go_ret
     exact ⟨E7 (by rw [decide_eq_false (by omega:¬ 0<=x3)];rfl),hb0⟩
   ·go_enter Tryz.func92,Tryz.ntmps92
    go_wp2_with (first|(go_at_call 106;refine (Q4 _ _).mono ?_;rintro x wq ⟨rfl,rfl⟩;rw [D0])|(go_at_call 107;refine (Ri _ _).mono ?_;rintro x wq ⟨rfl,rfl⟩;rw [D1]))
    go_ret
    exact ⟨E7 (by simp [h2]),hb0⟩
  ·have D1:=decide_eq_false h1
   go_enter Tryz.func92,Tryz.ntmps92
   go_wp2_with (first|(go_at_call 106;refine (Q4 _ _).mono ?_;rintro x wq ⟨rfl,rfl⟩;rw [D0])|(go_at_call 107;refine (Ri _ _).mono ?_;rintro x wq ⟨rfl,rfl⟩;rw [D1]))
   go_ret
   exact ⟨E7 (by rw [D1];simp),hb0⟩
 ·have D0:=decide_eq_false h0
  go_enter Tryz.func92,Tryz.ntmps92
  go_wp2_with (go_at_call 106;refine (Q4 _ _).mono ?_;rintro x wq ⟨rfl,rfl⟩;rw [D0])
  go_ret
  exact ⟨E7 (by rw [D0];simp),hb0⟩
theorem Sh (b o cap:Nat) (W:List Int) (a:Nat) (w:World) (hW:WS w b o W) (hl:W.length=3200) (ha:a+4<=3200) :
  Calls Tryz.prog 25 #[.slice (some ⟨b,o,none⟩) 3200 cap,.int .i64 a] w fun e w'=>e=.returned (.agg #[.int .i64 (gw W a),.int .i64 (gw W (a+1)),.int .i64 (gw W (a+2)),.int .i64 (gw W (a+3))])/\Below w.heap.size w w':=by
 have hb0:=C5 w (.cells #[.int .i64 0,.int .i64 0,.int .i64 0,.int .i64 0] 49)
 have hW1:=hW.later hb0
 have c0:=hW1 a (by omega)
 have c1:=hW1 (a+1) (by omega)
 have c2:=hW1 (a+2) (by omega)
 have c3:=hW1 (a+3) (by omega)
 generalize gw W a=x0 at *
 generalize gw W (a+1)=x1 at *
 generalize gw W (a+2)=x2 at *
 generalize gw W (a+3)=x3 at *
 have i0:(a:Int)<3200:=by omega
 have i1:(a:Int)+1<3200:=by omega
 have i2:(a:Int)+2<3200:=by omega
 have i3:(a:Int)+3<3200:=by omega
 clear hW hl hW1
 go_enter Tryz.func25,Tryz.ntmps25
 go_wp2
 go_region
 all_goals go_wp2
 all_goals exact bodyPost_ret (v:=.agg #[.int .i64 x0,.int .i64 x1,.int .i64 x2,.int .i64 x3]) (by simp [results,Tryz.results25,go_sem]) rfl ⟨rfl,(C5 _ _).drew⟩
theorem Pf (b o cap:Nat) (W:List Int) (a:Nat) (w:World) (hW:WS w b o W) (hl:W.length=3200) (ha:a+4<=3200) (hs:0<=gw W a/\gw W a<=60) :
  Calls Tryz.prog 51 #[.slice (some ⟨b,o,none⟩) 3200 cap,.int .i64 a] w fun e w'=>e=.returned (.int .i64 (nx W a:Nat))/\w' = w:=by
 have c0:=hW a (by omega)
 obtain ⟨m,hm⟩:=Int.eq_ofNat_of_zero_le hs.1
 have hn:Hid (nx W a=a+4+m):=(by unfold nx;rw [hm];rfl:nx W a=a+4+m)
 rw [hm] at c0
 have m60:m<=60:=by omega
 have i0:(a:Int)<3200:=by omega
 clear hm hs hW hl
 go_enter Tryz.func51,Tryz.ntmps51
 go_wp2
 go_ret
 exact ⟨Oj (by rw [hn.out];omega),rfl⟩
def Sk (W:List Int) (a e:Nat):Bool:=decide (a+4<=e) && (Qb W a && decide (nx W a<=e))
set_option maxHeartbeats 400000 in
theorem Qf (b o cap:Nat) (W:List Int) (a e:Nat) (w:World) (hW:WS w b o W) (hl:W.length=3200) (ha:a<=3200) (he:e<=3200) :
  Calls Tryz.prog 76 #[.slice (some ⟨b,o,none⟩) 3200 cap,.int .i64 a,.int .i64 e] w fun x w'=>x=.returned (.bool (Sk W a e))/\Below w.heap.size w w':=by
 by_cases h4:a+4<=e
 ·have h4i:(a:Int)+4<=e:=by omega
  have H:=Sh b o cap W a w hW hl (by omega)
  cases ho:Qb W a
  ·have G:Hid (Sk W a e=false):=(by unfold Sk;rw [ho];simp:Sk W a e=false)
   have R:=fun w=>Vu (gw W a) (gw W (a+1)) (gw W (a+2)) (gw W (a+3)) w
   rw [show (decide (0<=gw W a/\gw W a<=60) && (decide (0<=gw W (a+1)/\gw W (a+1)<=99) && decide (0<=gw W (a+3)/\gw W (a+3)<=15)) && decide (1<=gw W (a+2)))=Qb W a from rfl,ho] at R
   go_enter Tryz.func76,Tryz.ntmps76
   go_wp2_with fail
   refine H.mono ?_
   rintro x w1 ⟨rfl,hb1⟩
   go_wp2_with fail
   refine (R _).mono ?_
   rintro x w2 ⟨rfl,hb2⟩
   go_wp2
   go_ret
   exact ⟨E7 G.out.symm,C3 hb1 hb2⟩
  ·have G:Hid (Sk W a e=decide (nx W a<=e)):=(by unfold Sk;rw [ho,decide_eq_true h4];simp:Sk W a e=decide (nx W a<=e))
   have R:=fun w=>Vu (gw W a) (gw W (a+1)) (gw W (a+2)) (gw W (a+3)) w
   rw [show (decide (0<=gw W a/\gw W a<=60) && (decide (0<=gw W (a+1)/\gw W (a+1)<=99) && decide (0<=gw W (a+3)/\gw W (a+3)<=15)) && decide (1<=gw W (a+2)))=Qb W a from rfl,ho] at R
   have B:=fun w hW=>Pf b o cap W a w hW hl (by omega) (L6 (Pp ho))
   generalize nx W a=n at *
   go_enter Tryz.func76,Tryz.ntmps76
   go_wp2_with fail
   refine H.mono ?_
   rintro x w1 ⟨rfl,hb1⟩
   go_wp2_with fail
   refine (R _).mono ?_
   rintro x w2 ⟨rfl,hb2⟩
   go_wp2_with fail
   refine (B _ (hW.later (C3 hb1 hb2))).mono ?_
   rintro x w3 ⟨rfl,rfl⟩
   go_wp2
   go_ret
   exact ⟨E7 G.out.symm,C3 hb1 hb2⟩
 ·have h4i:¬ (a:Int)+4<=e:=by omega
  have G:Hid (Sk W a e=false):=(by unfold Sk;rw [decide_eq_false h4];rfl:Sk W a e=false)
  go_enter Tryz.func76,Tryz.ntmps76
  go_wp2
  go_ret
  exact ⟨E7 G.out.symm,Below.refl _ _⟩
theorem N5 (W:List Int) (a:Nat):(flds W a).length=(gw W a).toNat:=by simp [flds]
theorem Uo (b o cap:Nat) (W:List Int) (a:Nat) (w:World) (hW:WS w b o W) (hl:W.length=3200) (hc:3200<=cap) (ha:a+4<=3200) (hs:0<=gw W a/\gw W a<=60) (hn:nx W a<=3200) :
  Calls Tryz.prog 27 #[.slice (some ⟨b,o,none⟩) 3200 cap,.int .i64 a] w fun e w'=>(∃ v,e=.returned v/\IR w v (flds W a))/\w' = w:=by
 have B:=Pf b o cap W a w hW hl ha hs
 obtain ⟨m,hm⟩:=Int.eq_ofNat_of_zero_le hs.1
 have hn' : nx W a=a+4+m:=by unfold nx;rw [hm];rfl
 rw [hn'] at B hn
 have F:Hid (∀ c q,m<=c->(m=0 ∨ q=o+(a+4))->IR w (.slice (some ⟨b,q,none⟩) m c) (flds W a)):=fun c q hc hq=>by
  have e:(flds W a).length=m:=by rw [N5,hm];rfl
  refine ⟨_,c,by rw [e],by rw [e];exact hc,fun i hi=>⟨b,q,rfl,?_⟩⟩
  rw [e] at hi
  obtain rfl:=hq.resolve_left (by omega)
  have:=hW (a+4+i) (by omega)
  rw [show o+(a+4)+i=o+(a+4+i) from by omega,this]
  simp [flds,hm,hi]
 have m60:m<=60:=by omega
 clear hm hs hW hl hn'
 go_enter Tryz.func27,Tryz.ntmps27
 go_wp2_with fail
 refine B.mono ?_
 rintro x w1 ⟨rfl,rfl⟩
 go_wp2
 ·have h0:m=0:=by omega
  go_ret
  exact ⟨⟨_,rfl,F.out _ _ (by omega) (.inl h0)⟩,rfl⟩
 ·go_ret
  exact ⟨⟨_,rfl,F.out _ _ (by omega) (.inr rfl)⟩,rfl⟩
theorem Pv (v:Value) (l:List Int) (w:World) (hv:IR w v l) (h1:l.length<=1000000000000) :
  Calls Tryz.prog 77 #[v] w fun e w'=>e=.returned (.bool (l.all (· == 0)))/\w' = w:=by
 obtain ⟨ao,cap,rfl,_,hv⟩:=hv
 go_enter Tryz.func77,Tryz.ntmps77
 go_wp2
 go_loopw [7] (fun a wr=>∃ k:Nat,a=.int .i64 k/\k<=l.length/\Hid (∀ j,j<k->l.getD j 0=0)/\wr=w) (fun a _=>l.length - (intOf a).toNat)
 case atStart=>exact ⟨0,rfl,Nat.zero_le _,fun j hj=>by omega,rfl⟩
 case round =>
  obtain ⟨k,rfl,hk,hj,rfl⟩:=hrel
  by_cases hlt:k<l.length
  ·obtain ⟨b,o,rfl,hc⟩:=hv k hlt
   have NX:Hid (l.getD k 0=0->∀ j,j<k+1->l.getD j 0=0):=fun e=>J9 hj.out e
   have BAD:Hid (l.getD k 0 ≠ 0->l.all (· == 0)=false):=fun e=>by
    rw [Bool.eq_false_iff]
    intro h
    rw [List.all_eq_true] at h
    exact e (by simpa using h (l.getD k 0) (by simp [hlt]))
   clear hv hj
   generalize l.getD k 0=x at *
   by_cases hx:x=0
   ·have N:=NX.out hx
    subst hx
    clear NX BAD
    go_wp2
    exact ⟨⟨k+1,by go_num,by omega,N,trivial⟩,by simp [intOf];omega⟩
   ·have G:Hid (l.all (· == 0)=false):=BAD.out hx
    have hx' : (x != 0)=true:=by simpa using hx
    clear NX BAD
    go_wp2
    go_ret
    exact ⟨E7 G.out.symm,rfl⟩
  ·obtain rfl:k=l.length:=by omega
   have G:Hid (l.all (· == 0)=true):=(by
    rw [List.all_eq_true]
    intro x hx
    obtain ⟨i,hi,e⟩:=List.getElem_of_mem hx
    have:=hj.out i hi
    simp [hi,e] at this
    simp [this]:l.all (· == 0)=true)
   go_wp2
   go_ret
   exact ⟨E7 G.out.symm,rfl⟩
end Go.Proofs.YtboiknllmnfipaaGreatDoor
