
import Derived.Test.YtgnbibinclepcaaGreatDoorZHSpecW
/- l5Parts and l5All of the model. -/
namespace Go.Proofs.YtgnbibinclepcaaGreatDoor
open Go.RowKit
def HR (w:World) (v:Value) (h:Hp):Prop :=
 ∃ v1 v2 v3,v=.agg #[v1,v2,.int .i64 h.old,.int .i64 h.eden,.int .i64 h.surv,.bool h.flip,.int .i64 h.hash,v3]/\IR w v1 h.words/\IR w v2 h.roots/\IR w v3 h.kept
theorem HR.later {w w' : World} {v:Value} {h:Hp} (k:HR w v h) (hb:Below w.heap.size w w'):HR w' v h:=by
 obtain ⟨v1,v2,v3,e,a,b,c⟩:=k
 exact ⟨v1,v2,v3,e,a.later hb,b.later hb,c.later hb⟩
structure Bx (w:World) (N:Nat) (v1 v2 v3:Value) (h:Hp):Prop where
 c0:w.cell? ⟨N,0,none⟩=some v1
 c1:w.cell? ⟨N,1,none⟩=some v2
 c2:w.cell? ⟨N,2,none⟩=some (.int .i64 h.old)
 c3:w.cell? ⟨N,3,none⟩=some (.int .i64 h.eden)
 c4:w.cell? ⟨N,4,none⟩=some (.int .i64 h.surv)
 c5:w.cell? ⟨N,5,none⟩=some (.bool h.flip)
 c6:w.cell? ⟨N,6,none⟩=some (.int .i64 h.hash)
 c7:w.cell? ⟨N,7,none⟩=some v3
theorem Bx.new (w:World) (v1 v2 v3:Value) (h:Hp) (t:TypeId):Bx (w.alloc (.cells #[v1,v2,.int .i64 h.old,.int .i64 h.eden,.int .i64 h.surv,.bool h.flip,.int .i64 h.hash,v3] t)) w.heap.size v1 v2 v3 h:=by
 constructor <;> exact cell_new w _ t _ rfl _ _ rfl
theorem Bx.later {w w' : World} {N:Nat} {v1 v2 v3:Value} {h:Hp} (k:Bx w N v1 v2 v3 h) (hb:Below w.heap.size w w'):Bx w' N v1 v2 v3 h :=
 ⟨cell_later hb k.c0,cell_later hb k.c1,cell_later hb k.c2,cell_later hb k.c3,cell_later hb k.c4,cell_later hb k.c5,cell_later hb k.c6,cell_later hb k.c7⟩
theorem app_ints {ops:Array Oper} {rest:List Oper} {o:Oper} {a:Act} {Q:Exit->Act->World->Prop} (w:World) (hgd:o.guard=none) (s x:Operand)
  (ho:o.op=.call { callee:=.builtin .append,args:=#[s,x],argTypes:=#[24,24] }) (B:Nat) (v:Value) (n:Nat) (xs:List Value) (hs:a.eval s=v) (hown:w.ownsRow B 2 1 v n xs)
  (g c m:Nat) (l:List Int) (hx:a.eval x=.slice (some ⟨g,0,none⟩) m c) (hl:l.length=m) (hc:IR w (.slice (some ⟨g,0,none⟩) m c) l) (hn:n+m<=1000000000000) (hB:B<=w.heap.size)
  (h:∀ v' w',w'.ownsRow B 2 1 v' (n+m) (xs ++ icells l)->w.grownBy w' v.ownBlock->(v ≠ .slice none 0 0->v' ≠ .slice none 0 0)->wpList Tryz.prog ops Q rest (a.put o.dst v') w'):wpList Tryz.prog ops Q (o::rest) a w:=by
 obtain ⟨i,hi,hzz⟩:=Option.map_eq_some_iff.1 Tryz.infoI
 simp only [Prod.mk.injEq] at hzz
 obtain ⟨hz,hsz,hby⟩:=hzz
 refine wpList_append_own w hgd s x 24 ho B 2 i _ 1 8 Tryz.underlying24 hi hz hsz hby rfl (by omega) v n xs hs hown ⟨g,0,none⟩ m c (icells l) hx (by simp [icells,hl]) (fun j u hj=>?_) (fun u hu=>?_) (by unfold maxLen;omega) (by omega) hB (fun v' w' h1 h2 h3=>h v' w' h1 h2 (fun e k=>e (h3.1 k).1))
 ·obtain ⟨ao,cap,e,_,hcc⟩:=hc
  have hj' : j<l.length:=by
   rcases Nat.lt_or_ge j l.length with k|k
   ·exact k
   ·rw [List.getElem?_eq_none (by simpa [icells] using k)] at hj;cases hj
  obtain ⟨b,o,e2,hcell⟩:=hcc j hj'
  simp only [Value.slice.injEq] at e
  rw [<- e.1] at e2
  simp only [Option.some.injEq,Addr.mk.injEq] at e2
  obtain ⟨rfl,rfl,_⟩:=e2
  have hu:u=.int .i64 (l.getD j 0):=by
   simp [icells,hj'] at hj
   rw [<- hj]
   simp [hj']
  rw [hu,← hcell]
  unfold Addr.add
  split
  ·subst j;rfl
  ·simp
 ·obtain ⟨z,_,rfl⟩:=List.mem_map.1 hu
  rfl
theorem IR_of_owns' {w:World} {B n:Nat} {v:Value} {l:List Nat} (h:w.ownsRow B 2 1 v n (icells (ints l))):IR w v (ints l):=by
 have e:(ints l).length=n:=by have:=h.1;simpa [icells] using this
 subst e
 exact IR_of_owns h
theorem own_mono {w:World} {B B' e size n:Nat} {v:Value} {xs:List Value} (h:w.ownsRow B e size v n xs) (hB:B' <= B):w.ownsRow B' e size v n xs:=by
 obtain ⟨hl,h⟩:=h
 refine ⟨hl,?_⟩
 rcases h with h|⟨g,cap,cur,hv,hb,hh⟩
 ·exact .inl h
 ·exact .inr ⟨g,cap,cur,hv,Nat.le_trans hB hb,hh⟩
theorem own_at {w:World} {B e size n g cap:Nat} {xs:List Value} (h:w.ownsRow B e size (.slice (some ⟨g,0,none⟩) n cap) n xs):B<=g/\g<w.heap.size:=by
 rcases h.2 with ⟨e0,_⟩|⟨g',cap',cur,e0,hb,hg,_⟩
 ·cases e0
 ·injection e0 with e1
  injection e1 with e1
  injection e1 with e1
  subst e1
  refine ⟨hb,?_⟩
  rcases Nat.lt_or_ge g w.heap.size with k|k
  ·exact k
  ·rw [Array.getElem?_eq_none k] at hg;cases hg
def PartsOut (h:Hp) (B:Nat) (x:Ending) (w' : World):Prop :=
 ∃ l g cap ok,l.length<=3200/\x=.returned (.tuple #[.slice (some ⟨g,0,none⟩) l.length cap,.bool ok])/\w'.ownsRow B 2 1 (.slice (some ⟨g,0,none⟩) l.length cap) l.length (icells (ints l))/\(ok=true->PartsAt h l)/\(ok=false->∀ m,¬ PartsAt h m)
set_option maxRecDepth 100000 in
set_option maxHeartbeats 1600000 in
theorem l5Parts_any (v:Value) (h:Hp) (w:World) (hv:HR w v h) :
  Calls Tryz.prog 88 #[v] w fun x w'=>PartsOut h w.heap.size x w' /\ Below w.heap.size w w':=by
 obtain ⟨v1,v2,v3,rfl,i1,i2,i3⟩:=hv
 have X0:=Bx.new w v1 v2 v3 h 26
 have hb0:=bel_one w (.cells #[v1,v2,.int .i64 h.old,.int .i64 h.eden,.int .i64 h.surv,.bool h.flip,.int .i64 h.hash,v3] 26)
 have NO:Hid ((¬ ∃ m,PartsAt h m)->PartsOut h w.heap.size (.returned (.tuple #[.slice (some ⟨w.heap.size+1,0,none⟩) 0 0,.bool false])) ((w.alloc (.cells #[v1,v2,.int .i64 h.old,.int .i64 h.eden,.int .i64 h.surv,.bool h.flip,.int .i64 h.hash,v3] 26)).alloc (.cells #[] 2))/\Below w.heap.size w ((w.alloc (.cells #[v1,v2,.int .i64 h.old,.int .i64 h.eden,.int .i64 h.surv,.bool h.flip,.int .i64 h.hash,v3] 26)).alloc (.cells #[] 2))):=fun hn =>
  ⟨⟨[],w.heap.size+1,0,false,by simp,rfl,by have q:=own_none (w.alloc (.cells #[v1,v2,.int .i64 h.old,.int .i64 h.eden,.int .i64 h.surv,.bool h.flip,.int .i64 h.hash,v3] 26)) w.heap.size 2 1 hb0.size;rwa [World.size_alloc] at q,by simp,fun _ m k=>hn ⟨m,k⟩⟩,bel_after hb0 (bel_one _ _)⟩
 have hsb:survB h.flip<=2900:=by unfold survB;split <;> omega
 obtain ⟨ao,cap,rfl,hcap,_⟩:=id i1
 by_cases hl:h.words.length=3200
 ·have hl' : ((h.words.length:Int) != 3200)=false:=by simp;omega
  by_cases h0:0<=h.old/\h.old<=2000
  ·have D0:=decide_eq_true h0
   by_cases h1:2000<=h.eden/\h.eden<=2600
   ·have D1:=decide_eq_true h1
    by_cases h2:(survB h.flip:Int)<=h.surv/\h.surv<=(survB h.flip:Int)+300
    ·have D2:=decide_eq_true h2
     clear NO
     clear hcap
     obtain ⟨b,o,cp,e1,hcap,hW⟩:=i1.ws (by omega)
     rw [hl] at e1
     simp only [Value.slice.injEq] at e1
     obtain ⟨rfl,_,rfl⟩:=e1
     obtain ⟨c0,c1,c2,c3,c4,c5,c6,c7⟩:=id X0
     simp only [hl] at hb0 X0 c0 ⊢
     have HL:Hid (h.words.length=3200):=hl
     clear hl hl' i1 c1 c2 c3 c4 c5 c6 c7 hcap
     have A0:∀ w',WS w' b o h.words->Calls Tryz.prog 127 #[.slice (some ⟨b,o,none⟩) 3200 cap,.int .i64 0,.int .i64 h.old] w' fun x w''=>WalkOut h.words 0 h.old.toNat w'.heap.size x w'' /\ Below w'.heap.size w' w'':=fun w' hh=>by
      have q:=l5Walk_any b o cap h.words 0 h.old.toNat w' hh HL.out (by omega) (by omega)
      rwa [Int.toNat_of_nonneg (by omega:0<=h.old)] at q
     have A1:∀ w',WS w' b o h.words->Calls Tryz.prog 127 #[.slice (some ⟨b,o,none⟩) 3200 cap,.int .i64 2000,.int .i64 h.eden] w' fun x w''=>WalkOut h.words 2000 h.eden.toNat w'.heap.size x w'' /\ Below w'.heap.size w' w'':=fun w' hh=>by
      have q:=l5Walk_any b o cap h.words 2000 h.eden.toNat w' hh HL.out (by omega) (by omega)
      rwa [Int.toNat_of_nonneg (by omega:0<=h.eden)] at q
     have A2:∀ w',WS w' b o h.words->Calls Tryz.prog 127 #[.slice (some ⟨b,o,none⟩) 3200 cap,.int .i64 (survB h.flip),.int .i64 h.surv] w' fun x w''=>WalkOut h.words (survB h.flip) h.surv.toNat w'.heap.size x w'' /\ Below w'.heap.size w' w'':=fun w' hh=>by
      have q:=l5Walk_any b o cap h.words (survB h.flip) h.surv.toNat w' hh HL.out (by omega) (by omega)
      rwa [Int.toNat_of_nonneg (by omega:0<=h.surv)] at q
     have PA:Hid (∀ n0 n1 n2,Goes h.words 0 h.old.toNat n0->Goes h.words 2000 h.eden.toNat n1->Goes h.words (survB h.flip) h.surv.toNat n2->PartsAt h (its h.words 0 n0 ++ its h.words 2000 n1 ++ its h.words (survB h.flip) n2)):=fun n0 n1 n2 g0 g1 g2=>⟨HL.out,h0,h1,h2,n0,n1,n2,g0,g1,g2,rfl⟩
     have W0:=hW.later hb0
     clear hW i2 i3 c0
     go_enter Tryz.func88,Tryz.ntmps88
     go_wp2_with (first|(go_at_call 80;refine (wl1In_any _ _ _ _).mono ?_;rintro x w' ⟨rfl,rfl⟩;(first|rw [D0]|rw [D1]|rw [D2]))|(go_at_call 89;refine (l5Surv_any _ _).mono ?_;rintro x w' ⟨rfl,rfl⟩))
     refine (A0 _ W0).mono ?_
     rintro x w1 ⟨⟨n0,g0,k0,ok0,le0,rfl,own0,y0,no0⟩,hb1⟩
     have hbw1:=bel_after hb0 hb1
     have W1:=W0.later hb1
     have X1:=X0.later hb1
     obtain ⟨c0,-,-,c3,-,-,-,-⟩:=id X1
     clear A0 W0 X0 D0 D1 D2
     go_wp2_with fail
     refine (A1 _ W1).mono ?_
     rintro x w2 ⟨⟨n1,g1,k1,ok1,le1,rfl,own1,y1,no1⟩,hb2⟩
     have hbw2:=bel_after hbw1 hb2
     have W2:=W1.later hb2
     have X2:=X1.later hb2
     clear c0 c3
     obtain ⟨c0,-,-,-,c4,-,-,-⟩:=id X2
     clear A1 W1 X1
     go_wp2_with fail
     refine (A2 _ W2).mono ?_
     rintro x w3 ⟨⟨n2,g2,k2,ok2,le2,rfl,own2,y2,no2⟩,hb3⟩
     have hbw3:=bel_after hbw2 hb3
     have oa:=own_mono (own_later (own_later own0 hb2) hb3) hb0.size
     have ob:=IR_of_owns' (own_later own1 hb3)
     have oc:=IR_of_owns' own2
     have lt0:=(own_at own0).2
     have ge2:=(own_at own2).1
     have s12:=hb2.size
     have sw3:=hbw3.size
     have YES:Hid (∀ v w',w'.ownsRow w.heap.size 2 1 v (n0+n1+n2) (icells (ints (its h.words 0 n0)) ++ icells (ints (its h.words 2000 n1)) ++ icells (ints (its h.words (survB h.flip) n2)))->v ≠ .slice none 0 0->Below w.heap.size w w' -> PartsOut h w.heap.size (.returned (.tuple #[v,.bool (ok0 && ok1 && ok2)])) w' /\ Below w.heap.size w w'):=fun v w' ho hn hb=>by
      obtain ⟨g,cp,rfl⟩:=own_some ho hn
      have el:(its h.words 0 n0 ++ its h.words 2000 n1 ++ its h.words (survB h.flip) n2).length=n0+n1+n2:=by simp [its_length];omega
      refine ⟨⟨its h.words 0 n0 ++ its h.words 2000 n1 ++ its h.words (survB h.flip) n2,g,cp,ok0 && ok1 && ok2,by rw [el];omega,by rw [el],?_,fun k=>?_,fun k m q=>?_⟩,hb⟩
      ·rw [el]
       simpa [icells,ints] using ho
      ·simp only [Bool.and_eq_true] at k
       exact PA.out n0 n1 n2 (y0 k.1.1) (y1 k.1.2) (y2 k.2)
      ·obtain ⟨_,_,_,_,m0,m1,m2,q0,q1,q2,_⟩:=q
       cases ok0
       ·exact no0 rfl m0 q0
       ·cases ok1
        ·exact no1 rfl m1 q1
        ·cases ok2
         ·exact no2 rfl m2 q2
         ·simp at k
     clear PA y0 y1 y2 no0 no1 no2 A2 W2 X2 own0 own1 own2 c0 c4
     have hbs:=hbw3
     go_wp2_with (first
      | (at_builtin;refine app_ints _ rfl _ _ rfl _ _ n0 _ rfl oa g1 k1 n1 _ rfl (by simp [ints,its_length]) ob (by omega) sw3 ?_;intro v4 w4 hown4 hg4 hnil4;have hb4:=own_grown hbs oa hg4 sw3;have hg4' : w3.grownBy w4 (some g0):=hg4;have oc4:=oc.grown hg4' (.inr (by simp [Value.ownBlock];omega));have hn4:v4 ≠ .slice none 0 0:=hnil4 (fun e=>by cases e);clear hg4 hg4' hnil4)
      | (at_builtin;refine app_ints _ rfl _ _ rfl _ _ (n0+n1) _ rfl hown4 g2 k2 n2 _ rfl (by simp [ints,its_length]) oc4 (by omega) hb4.size ?_;intro v5 w5 hown5 hg5 hnil5;have hb5:=own_grown hb4 hown4 hg5 hb4.size;have G:=YES.out v5 w5 hown5 (hnil5 hn4) hb5;clear hg5 hnil5))
     all_goals
      clear oa ob oc hown4 oc4 hown5 YES hb0 hb1 hb2 hb3 hbw1 hbw2 hbw3
      refine bodyPost_ret (v:=.tuple #[v5,.bool (ok0 && ok1 && ok2)]) ?_ rfl G
      clear G
      simp [results,Tryz.results88,go_sem] <;> (cases ok0 <;> cases ok1 <;> cases ok2 <;> simp_all)
    ·have D2:=decide_eq_false h2
     have G:=NO.out (fun ⟨m,k⟩=>h2 k.2.2.2.1)
     clear NO X0 i1 i2 i3 hl
     go_enter Tryz.func88,Tryz.ntmps88
     go_wp2_with (first|(go_at_call 80;refine (wl1In_any _ _ _ _).mono ?_;rintro x w' ⟨rfl,rfl⟩;(first|rw [D0]|rw [D1]|rw [D2]))|(go_at_call 89;refine (l5Surv_any _ _).mono ?_;rintro x w' ⟨rfl,rfl⟩))
     exact bodyPost_ret (v:=.tuple #[.slice (some ⟨w.heap.size+1,0,none⟩) 0 0,.bool false]) (by simp [results,Tryz.results88,go_sem]) rfl G
   ·have D1:=decide_eq_false h1
    have D2:=D1
    have G:=NO.out (fun ⟨m,k⟩=>h1 k.2.2.1)
    clear NO X0 i1 i2 i3 hl
    go_enter Tryz.func88,Tryz.ntmps88
    go_wp2_with (first|(go_at_call 80;refine (wl1In_any _ _ _ _).mono ?_;rintro x w' ⟨rfl,rfl⟩;(first|rw [D0]|rw [D1]|rw [D2]))|(go_at_call 89;refine (l5Surv_any _ _).mono ?_;rintro x w' ⟨rfl,rfl⟩))
    exact bodyPost_ret (v:=.tuple #[.slice (some ⟨w.heap.size+1,0,none⟩) 0 0,.bool false]) (by simp [results,Tryz.results88,go_sem]) rfl G
  ·have D0:=decide_eq_false h0
   have D1:=D0
   have D2:=D0
   have G:=NO.out (fun ⟨m,k⟩=>h0 k.2.1)
   clear NO X0 i1 i2 i3 hl
   go_enter Tryz.func88,Tryz.ntmps88
   go_wp2_with (first|(go_at_call 80;refine (wl1In_any _ _ _ _).mono ?_;rintro x w' ⟨rfl,rfl⟩;(first|rw [D0]|rw [D1]|rw [D2]))|(go_at_call 89;refine (l5Surv_any _ _).mono ?_;rintro x w' ⟨rfl,rfl⟩))
   exact bodyPost_ret (v:=.tuple #[.slice (some ⟨w.heap.size+1,0,none⟩) 0 0,.bool false]) (by simp [results,Tryz.results88,go_sem]) rfl G
 ·have G:=NO.out (fun ⟨m,k⟩=>hl k.1)
  have hl' : ((h.words.length:Int) != 3200)=true:=by simp;omega
  clear NO X0 i1 i2 i3 hl
  go_enter Tryz.func88,Tryz.ntmps88
  go_wp2_with (go_at_call 89;refine (l5Surv_any _ _).mono ?_;rintro x w' ⟨rfl,rfl⟩)
  exact bodyPost_ret (v:=.tuple #[.slice (some ⟨w.heap.size+1,0,none⟩) 0 0,.bool false]) (by simp [results,Tryz.results88,go_sem]) rfl G
end Go.Proofs.YtgnbibinclepcaaGreatDoor
/- Heaps in the laws: szHeap, toHeap, eqHeap, markHeap, heldHeap. -/
namespace Go.Proofs.YtgnbibinclepcaaGreatDoor
open Go.RowKit
theorem IRs {w:World} {v:Value} {l:List Int} (h:IR w v l):∃ ao cap,v=.slice ao l.length cap/\l.length<=cap:=by
 obtain ⟨ao,cap,e,hc,_⟩:=h
 exact ⟨ao,cap,e,hc⟩
theorem szInt64S_any (v:Value) (l:List Int) (x:Int) (w:World) (hv:IR w v l) (h1:l.length<=1000000000000000) (x0:0<=x) (x1:x<=1048576) :
  Calls Tryz.prog 61 #[v,.int .i64 x] w fun e w'=>(∃ y,e=.returned (.int .i64 y)/\Hid (0<=y->(l.length:Int)<=1048576/\y<=1048576))/\w' = w:=by
 obtain ⟨ao,cap,rfl,_⟩:=IRs hv
 clear hv
 by_cases hx:x - l.length<0
 ·go_enter Tryz.func61,Tryz.ntmps61
  go_wp2
  go_ret
  exact ⟨⟨-1,rfl,(fun h=>by omega)⟩,rfl⟩
 ·go_enter Tryz.func61,Tryz.ntmps61
  go_wp2
  go_ret
  exact ⟨⟨x - l.length,rfl,(fun _=>⟨by omega,by omega⟩)⟩,rfl⟩
structure HN (B:Nat) (w:World) (v:Value) (h:Hp):Prop where
 ex:∃ v1 v2 v3,v=.agg #[v1,v2,.int .i64 h.old,.int .i64 h.eden,.int .i64 h.surv,.bool h.flip,.int .i64 h.hash,v3] ∧
  (Disk.OS w 2 1 v1 h.words.length/\Disk.OS w 2 1 v2 h.roots.length/\Disk.OS w 2 1 v3 h.kept.length)/\(IR w v1 h.words/\IR w v2 h.roots/\IR w v3 h.kept) ∧
  ((∀ b,Disk.rowOf v1 h.words.length=some b->B<=b)/\(∀ b,Disk.rowOf v2 h.roots.length=some b->B<=b)/\(∀ b,Disk.rowOf v3 h.kept.length=some b->B<=b)) ∧
  (∀ b,Disk.rowOf v1 h.words.length=some b->Disk.rowOf v2 h.roots.length ≠ some b)/\(∀ b,Disk.rowOf v1 h.words.length=some b->Disk.rowOf v3 h.kept.length ≠ some b)/\(∀ b,Disk.rowOf v2 h.roots.length=some b->Disk.rowOf v3 h.kept.length ≠ some b)
theorem HN.later {B:Nat} {w w' : World} {v:Value} {h:Hp} (k:HN B w v h) (hb:Below w.heap.size w w'):HN B w' v h:=by
 obtain ⟨v1,v2,v3,e,⟨a,b,c⟩,⟨d,f,g⟩,r⟩:=k.ex
 exact ⟨v1,v2,v3,e,⟨a.later hb,b.later hb,c.later hb⟩,⟨d.later hb,f.later hb,g.later hb⟩,r⟩
set_option maxHeartbeats 400000 in
theorem toInts_any (v:Value) (l:List Int) (w:World) (hv:IR w v l) (h1:l.length<=10000000000000) :
  Calls Tryz.prog 63 #[v] w fun e w'=>(∃ cap,e=.returned (.slice (some ⟨w.heap.size,0,none⟩) l.length cap)/\IR w' (.slice (some ⟨w.heap.size,0,none⟩) l.length cap) l/\Disk.OS w' 2 1 (.slice (some ⟨w.heap.size,0,none⟩) l.length cap) l.length)/\Below w.heap.size w w' /\ w.heap.size<w'.heap.size:=by
 obtain ⟨ao,cap,rfl,_,hv⟩:=hv
 have hmk:=make28 l.length h1
 obtain ⟨f,hr0⟩:=made_ints w l.length
 go_enter Tryz.func63,Tryz.ntmps63
 go_wp2
 go_loopw [4] (fun i wr=>∃ (j:Nat),j<=l.length/\i=.int .i64 j/\Below w.heap.size w wr/\wr.rowIs w.heap.size 2 l.length (fun i=>if i<j then icell l i else f i)) (fun i _=>l.length - (intOf i).toNat)
 case atStart=>exact ⟨0,Nat.zero_le _,rfl,bel_one _ _,hr0.congr (fun i _=>by simp)⟩
 case round =>
  obtain ⟨j,hj,rfl,hb,hrow⟩:=hrel
  by_cases hlt:j<l.length
  ·obtain ⟨b,o,rfl,hc⟩:=hv j hlt
   have hc1:=cell_later hb hc
   have hc2:=hrow.cell (i:=j) hlt
   have hf2:=hrow.frozen j
   have R:=row_copy hrow (.int .i64 (l.getD j 0)) rfl
   have G:=hb.setCell (p:=⟨w.heap.size,j,none⟩) (Nat.le_refl _) (.int .i64 (l.getD j 0))
   generalize l.getD j 0=s at *
   clear hv hc hrow hr0 hmk
   go_wp2
   go_roundw
   case rel=>exact ⟨j+1,by omega,by go_num,G,R⟩
   case measure=>simp [intOf];omega
  ·obtain rfl:j=l.length:=by omega
   go_wp2
   go_ret
   exact ⟨⟨_,rfl,⟨_,_,rfl,Nat.le_refl _,fun i hi=>⟨_,0,rfl,by rw [Nat.zero_add,hrow.cell hi,if_pos hi];rfl⟩⟩,⟨_,_,rfl,.inr ⟨w.heap.size,l.length,_,rfl,by omega,hrow⟩⟩⟩,hb,hrow.lt⟩
end Go.Proofs.YtgnbibinclepcaaGreatDoor
