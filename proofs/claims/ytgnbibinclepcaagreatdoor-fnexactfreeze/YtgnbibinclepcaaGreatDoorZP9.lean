
import Derived.Test.YtgnbibinclepcaaGreatDoorZHImpA
import Derived.Test.YtgnbibinclepcaaGreatDoorZShelf
import Derived.Lib.OwnBridge
/- isAmong, fitsHeap, allFit and hasYoung of the program. -/
namespace Go.Proofs.YtgnbibinclepcaaGreatDoor
open Go.RowKit
theorem search_none (ao:Option Addr) (c:Nat) (x:Int) (w:World) :
  Calls Tryz.prog 262 #[.slice ao 0 c,.int .i64 x] w fun e w'=>(∃ z:Int,e=.returned (.tuple #[.int .i64 z,.bool false]))/\w' = w:=by
 go_enter Tryz.func262,Tryz.ntmps262
 go_wp2
 refine wp_loop_rounds 1 ?_
 rw [rounds_succ]
 go_wp2
 exact bodyPost_ret (v:=.tuple #[.int .i64 0,.bool false]) (by simp [results,Tryz.results262,go_sem]) rfl ⟨⟨0,rfl⟩,rfl⟩
theorem search_any (v:Value) (l:List Int) (x:Int) (w:World) (hv:IR w v l) (hs:l.Pairwise (· <= ·)) (h1:l.length<=1000000000000) :
  Calls Tryz.prog 262 #[v,.int .i64 x] w fun e w'=>(∃ z:Int,e=.returned (.tuple #[.int .i64 z,.bool (l.contains x)]))/\Below w.heap.size w w':=by
 by_cases hl:l.length=0
 ·obtain rfl:=List.length_eq_zero_iff.1 hl
  obtain ⟨ao,cap,rfl,_,_⟩:=hv
  exact (search_none ao cap x w).mono (fun e w' ⟨⟨z,he⟩,hw⟩=>⟨⟨z,he⟩,by rw [hw];exact Below.refl _ _⟩)
 ·obtain ⟨b,o,cap,rfl,_,hW⟩:=hv.ws (by omega)
  refine (AnyG.slices_BinarySearch_int Tryz.laysSearchI b o l.length cap l x w (Nat.le_refl _) (by omega) (fun j hj=>hW j hj) (by rw [List.take_length];exact hs)).mono ?_
  rintro e w' ⟨rfl,q,rfl⟩
  rw [List.take_length]
  exact ⟨⟨_,rfl⟩,below_drewN (Below.refl _ _) _⟩
theorem isAmong_any (v:Value) (l:List Int) (x:Int) (w:World) (hv:IR w v l) (hs:l.Pairwise (· <= ·)) (h1:l.length<=1000000000000) :
  Calls Tryz.prog 244 #[v,.int .i64 x] w fun e w'=>e=.returned (.bool (l.contains x))/\Below w.heap.size w w':=by
 have C:=search_any v l x w hv hs h1
 generalize l.contains x=r at *
 clear hv hs
 go_enter Tryz.func244,Tryz.ntmps244
 go_wp2_with fail
 refine C.mono ?_
 rintro e w1 ⟨⟨z,rfl⟩,hb⟩
 go_wp2
 go_ret
 exact ⟨rfl,hb⟩
theorem ints_sorted {l:List Nat} (h:l.Pairwise (· < ·)):(ints l).Pairwise (· <= ·):=by
 unfold ints
 rw [List.pairwise_map]
 exact h.imp (fun h=>by omega)
theorem fit_ref {l:List Nat} {x:Int} (h:isK 2 x=true):fitB l x=(ints l).contains (x / 2):=by
 unfold fitB
 have e:kindW x=2:=of_decide_eq_true h
 rw [e]
 simp
theorem fit_no {l:List Nat} {x:Int} (h:isK 2 x=false):fitB l x=wokB x:=by
 unfold fitB wokB
 have e:¬ kindW x=2:=of_decide_eq_false h
 rw [decide_eq_false e]
 have:kindW x=0 ∨ kindW x=1 ∨ kindW x=2:=by
  unfold kindW
  split
  ·split <;> simp
  ·split <;> simp
 rcases this with k|k|k
 ·rw [k];rfl
 ·rw [k];rfl
 ·exact absurd k e
theorem young_ref {x:Int} (h:isK 2 x=true):youngB x=decide (2000<=x / 2):=by
 unfold youngB
 have e:kindW x=2:=of_decide_eq_true h
 rw [e]
 simp
theorem young_no {x:Int} (h:isK 2 x=false):youngB x=false:=by
 unfold youngB
 rw [decide_eq_false (of_decide_eq_false h)]
 rfl
theorem fitsHeap_any (v:Value) (l:List Nat) (x:Int) (w:World) (hv:IR w v (ints l)) (hs:l.Pairwise (· < ·)) (h1:l.length<=1000000000) :
  Calls Tryz.prog 204 #[v,.int .i64 x] w fun e w'=>e=.returned (.bool (fitB l x))/\Below w.heap.size w w':=by
 have R:=fun w=>implRefOf_any x w
 cases hk:isK 2 x
 ·rw [hk,valK_no hk] at R
  have F:=fit_no (l:=l) hk
  generalize fitB l x=r at *
  subst F
  go_enter Tryz.func204,Tryz.ntmps204
  go_wp2_with fail
  refine (R _).mono ?_
  rintro e w1 ⟨rfl,rfl⟩
  go_wp2_with fail
  refine (implWordOk_any _ _).mono ?_
  rintro e w1 ⟨rfl,rfl⟩
  go_wp2
  go_ret
  exact ⟨rfl,Below.refl _ _⟩
 ·rw [hk,valK_yes hk] at R
  have F:=fit_ref (l:=l) hk
  have A:=fun w hv=>isAmong_any v (ints l) (x / 2) w hv (ints_sorted hs) (by rw [ints_length];omega)
  rw [F]
  generalize (ints l).contains (x / 2)=r at *
  clear F
  go_enter Tryz.func204,Tryz.ntmps204
  go_wp2_with fail
  refine (R _).mono ?_
  rintro e w1 ⟨rfl,rfl⟩
  go_wp2_with fail
  refine (A _ hv).mono ?_
  rintro e w2 ⟨rfl,hb⟩
  go_wp2
  go_ret
  exact ⟨rfl,hb⟩
theorem all_stop {p:Int->Bool} {l:List Int} {k:Nat} (h:k<l.length) (e:p (l.getD k 0)=false):l.all p=false:=by
 rw [Bool.eq_false_iff]
 intro q
 rw [List.all_eq_true] at q
 rw [q (l.getD k 0) (by simp [h])] at e
 cases e
theorem all_done {p:Int->Bool} {l:List Int} (h:∀ j,j<l.length->p (l.getD j 0)=true):l.all p=true:=by
 rw [List.all_eq_true]
 intro x hx
 obtain ⟨i,hi,e⟩:=List.getElem_of_mem hx
 have:=h i hi
 simpa [hi,e] using this
theorem any_stop {p:Int->Bool} {l:List Int} {k:Nat} (h:k<l.length) (e:p (l.getD k 0)=true):l.any p=true:=by
 rw [List.any_eq_true]
 exact ⟨l.getD k 0,by simp [h],e⟩
theorem any_done {p:Int->Bool} {l:List Int} (h:∀ j,j<l.length->p (l.getD j 0)=false):l.any p=false:=by
 rw [Bool.eq_false_iff]
 intro q
 rw [List.any_eq_true] at q
 obtain ⟨x,hx,e⟩:=q
 obtain ⟨i,hi,e2⟩:=List.getElem_of_mem hx
 have:=h i hi
 simp [hi,e2,e] at this
set_option maxHeartbeats 400000 in
theorem allFit_any (v u:Value) (l:List Nat) (ws:List Int) (w:World) (hv:IR w v (ints l)) (hu:IR w u ws) (hs:l.Pairwise (· < ·)) (h1:l.length<=1000000000) (h2:ws.length<=1000000000000) :
  Calls Tryz.prog 174 #[v,u] w fun e w'=>e=.returned (.bool (ws.all (fitB l)))/\Below w.heap.size w w':=by
 obtain ⟨ao,cap,rfl,_,hc⟩:=hu
 obtain ⟨va,vc,rfl,hq⟩:∃ va vc,v=.slice va (ints l).length vc/\True:=by obtain ⟨a,c,e,_⟩:=hv;exact ⟨a,c,e,trivial⟩
 go_enter Tryz.func174,Tryz.ntmps174
 go_wp2
 go_loopw [9] (fun a wr=>∃ k:Nat,a=.int .i64 k/\k<=ws.length/\Hid (∀ j,j<k->fitB l (ws.getD j 0)=true)/\Below w.heap.size w wr) (fun a _=>ws.length - (intOf a).toNat)
 case atStart=>exact ⟨0,rfl,Nat.zero_le _,fun j hj=>by omega,Below.refl _ _⟩
 case round =>
  obtain ⟨k,rfl,hk,hj,hb⟩:=hrel
  by_cases hlt:k<ws.length
  ·obtain ⟨b,o,rfl,hci⟩:=hc k hlt
   have ci:=cell_later hb hci
   have NX:Hid (fitB l (ws.getD k 0)=true->∀ j,j<k+1->fitB l (ws.getD j 0)=true):=fun e=>all_upto hj.out e
   have BAD:Hid (fitB l (ws.getD k 0)=false->ws.all (fitB l)=false):=fun e=>all_stop hlt e
   have FH:=fitsHeap_any _ l (ws.getD k 0) wr (hv.later hb) hs h1
   clear hc hci hj
   generalize ws.getD k 0=x at *
   cases hf:fitB l x
   ·have G:Hid (ws.all (fitB l)=false):=BAD.out hf
    rw [hf] at FH
    clear NX BAD
    go_wp2_with fail
    refine FH.mono ?_
    rintro e w1 ⟨rfl,hb1⟩
    go_wp2
    go_ret
    exact ⟨wret_bool G.out.symm,bel_after hb hb1⟩
   ·have N:=NX.out hf
    rw [hf] at FH
    clear NX BAD
    go_wp2_with fail
    refine FH.mono ?_
    rintro e w1 ⟨rfl,hb1⟩
    go_wp2
    exact ⟨⟨k+1,by go_num,by omega,N,bel_after hb hb1⟩,by simp [intOf];omega⟩
  ·obtain rfl:k=ws.length:=by omega
   have G:Hid (ws.all (fitB l)=true):=all_done hj.out
   go_wp2
   go_ret
   exact ⟨wret_bool G.out.symm,hb⟩
set_option maxHeartbeats 400000 in
theorem hasYoung_any (u:Value) (ws:List Int) (w:World) (hu:IR w u ws) (h2:ws.length<=1000000000000) :
  Calls Tryz.prog 176 #[u] w fun e w'=>e=.returned (.bool (ws.any youngB))/\w' = w:=by
 obtain ⟨ao,cap,rfl,_,hc⟩:=hu
 go_enter Tryz.func176,Tryz.ntmps176
 go_wp2
 go_loopw [9] (fun a wr=>∃ k:Nat,a=.int .i64 k/\k<=ws.length/\Hid (∀ j,j<k->youngB (ws.getD j 0)=false)/\wr=w) (fun a _=>ws.length - (intOf a).toNat)
 case atStart=>exact ⟨0,rfl,Nat.zero_le _,fun j hj=>by omega,rfl⟩
 case round =>
  obtain ⟨k,rfl,hk,hj,hwr⟩:=hrel
  obtain rfl:=hwr.symm
  clear hwr
  by_cases hlt:k<ws.length
  ·obtain ⟨b,o,rfl,ci⟩:=hc k hlt
   have NX:Hid (youngB (ws.getD k 0)=false->∀ j,j<k+1->youngB (ws.getD j 0)=false):=fun e=>all_upto hj.out e
   have YES:Hid (youngB (ws.getD k 0)=true->ws.any youngB=true):=fun e=>any_stop hlt e
   clear hc hj
   generalize ws.getD k 0=x at *
   have R:=fun w=>implRefOf_any x w
   cases hk2:isK 2 x
   ·have N:=NX.out (young_no hk2)
    rw [hk2,valK_no hk2] at R
    clear NX YES
    go_wp2_with (go_at_call 96;refine (R _).mono ?_;rintro e wq ⟨rfl,hq⟩;obtain rfl:=hq.symm)
    exact ⟨⟨k+1,by go_num,by omega,N,trivial⟩,by simp [intOf];omega⟩
   ·rw [hk2,valK_yes hk2] at R
    have YR:=young_ref hk2
    rw [YR] at NX YES
    by_cases hy:2000<=x / 2
    ·have D:=decide_eq_true hy
     have G:Hid (ws.any youngB=true):=YES.out D
     clear NX YES YR
     go_wp2_with (first|(go_at_call 96;refine (R _).mono ?_;rintro e wq ⟨rfl,hq⟩;obtain rfl:=hq.symm)|(go_at_call 175;refine (isYoung_any _ _).mono ?_;rintro e wq ⟨rfl,hq⟩;obtain rfl:=hq.symm;rw [D]))
     go_ret
     exact ⟨wret_bool G.out.symm,rfl⟩
    ·have D:=decide_eq_false hy
     have N:=NX.out D
     clear NX YES YR
     go_wp2_with (first|(go_at_call 96;refine (R _).mono ?_;rintro e wq ⟨rfl,hq⟩;obtain rfl:=hq.symm)|(go_at_call 175;refine (isYoung_any _ _).mono ?_;rintro e wq ⟨rfl,hq⟩;obtain rfl:=hq.symm;rw [D]))
     exact ⟨⟨k+1,by go_num,by omega,N,trivial⟩,by simp [intOf];omega⟩
  ·obtain rfl:k=ws.length:=by omega
   have G:Hid (ws.any youngB=false):=any_done hj.out
   go_wp2
   go_ret
   exact ⟨wret_bool G.out.symm,rfl⟩
end Go.Proofs.YtgnbibinclepcaaGreatDoor
/- wordsFit and keptObjects of the program. -/
namespace Go.Proofs.YtgnbibinclepcaaGreatDoor
open Go.RowKit
def objsFit (W:List Int) (l m:List Nat):Bool:=m.all fun a=>(flds W a).all (fitB l)
def wfB (h:Hp) (l:List Nat):Bool:=decide (h.roots.length<=20) && (h.roots.all (fitB l) && objsFit h.words l l)
theorem nall_stop {p:Nat->Bool} {l:List Nat} {k:Nat} (h:k<l.length) (e:p (l.getD k 0)=false):l.all p=false:=by
 rw [Bool.eq_false_iff]
 intro q
 rw [List.all_eq_true] at q
 rw [q (l.getD k 0) (by simp [h])] at e
 cases e
theorem nall_done {p:Nat->Bool} {l:List Nat} (h:∀ j,j<l.length->p (l.getD j 0)=true):l.all p=true:=by
 rw [List.all_eq_true]
 intro x hx
 obtain ⟨i,hi,e⟩:=List.getElem_of_mem hx
 have:=h i hi
 simpa [hi,e] using this
theorem intsI {w:World} {v:Value} {l:List Nat} (h:IR w v (ints l)):∃ ao cap,v=.slice ao l.length cap/\∀ k,k<l.length->∃ b o,ao=some ⟨b,o,none⟩/\w.cell? ⟨b,o+k,none⟩=some (.int .i64 ((l.getD k 0:Nat):Int)):=by
 obtain ⟨ao,cap,rfl,_,hc⟩:=h
 rw [ints_length] at hc ⊢
 refine ⟨ao,cap,rfl,fun k hk=>?_⟩
 obtain ⟨b,o,e,hcell⟩:=hc k hk
 refine ⟨b,o,e,?_⟩
 rw [hcell]
 simp [ints,hk]
theorem lget_mem (l:List Nat) (k:Nat) (h:k<l.length):l.getD k 0 ∈ l:=by simp [h]
theorem IR.shape {w:World} {v:Value} {l:List Int} (h:IR w v l):∃ ao cap,v=.slice ao l.length cap:=by
 obtain ⟨ao,cap,e,_⟩:=h
 exact ⟨ao,cap,e⟩
set_option maxRecDepth 100000 in
set_option maxHeartbeats 1600000 in
theorem wordsFit_any (v u:Value) (h:Hp) (l:List Nat) (w:World) (hv:HR w v h) (hu:IR w u (ints l)) (hs:l.Pairwise (· < ·)) (hl:l.length<=3200) (hlen:h.words.length=3200) (hro:h.roots.length<=1000000000000)
  (hobj:∀ a,a ∈ l->a+4<=3200/\nx h.words a<=3200/\objB h.words a=true) :
  Calls Tryz.prog 132 #[v,u] w fun e w'=>e=.returned (.bool (wfB h l))/\Below w.heap.size w w':=by
 obtain ⟨v1,v2,v3,rfl,i1,i2,i3⟩:=hv
 obtain ⟨b,o,cap,rfl,hcap,hW⟩:=i1.ws (by omega)
 rw [hlen] at hcap ⊢
 have HLN:Hid (h.words.length=3200):=hlen
 obtain ⟨ua,uc,rfl,hc⟩:=intsI hu
 obtain ⟨ro,rc,rfl⟩:=i2.shape
 have hb0:=bel_one w (.cells #[.slice (some ⟨b,o,none⟩) 3200 cap,.slice ro h.roots.length rc,.int .i64 h.old,.int .i64 h.eden,.int .i64 h.surv,.bool h.flip,.int .i64 h.hash,v3] 26)
 have X0:=Bx.new w (.slice (some ⟨b,o,none⟩) 3200 cap) (.slice ro h.roots.length rc) v3 h 26
 by_cases hr:h.roots.length<=20
 ·have hri:¬ (20:Int)<(h.roots.length:Int):=by omega
  have AF:=allFit_any _ _ l h.roots _ (hu.later hb0) (i2.later hb0) hs (by omega) (by omega)
  have HU:Hid (IR w (.slice ua l.length uc) (ints l)):=hu
  clear i1 i2 i3 hlen hu
  cases hf:h.roots.all (fitB l)
  ·have G:Hid (wfB h l=false):=(by unfold wfB;rw [hf];simp:wfB h l=false)
   rw [hf] at AF
   clear X0 hc hW hobj
   go_enter Tryz.func132,Tryz.ntmps132
   go_wp2_with fail
   refine AF.mono ?_
   rintro e w1 ⟨rfl,hb1⟩
   go_wp2
   go_ret
   exact ⟨wret_bool G.out.symm,bel_after hb0 hb1⟩
  ·have E:Hid (wfB h l=objsFit h.words l l):=(by unfold wfB;rw [hf,decide_eq_true hr];rfl:wfB h l=objsFit h.words l l)
   rw [hf] at AF
   go_enter Tryz.func132,Tryz.ntmps132
   go_wp2_with fail
   refine AF.mono ?_
   rintro e w1 ⟨rfl,hb1⟩
   have X1:=X0.later hb1
   have hbw1:=bel_after hb0 hb1
   have c01:=X1.c0
   clear AF X0 X1 hb0 hb1
   go_wp2
   go_loopw [20] (fun kv wr=>∃ k:Nat,kv=.int .i64 k/\k<=l.length/\Hid (∀ j,j<k->(flds h.words (l.getD j 0)).all (fitB l)=true)/\wr.cell? ⟨w.heap.size,0,none⟩=some (.slice (some ⟨b,o,none⟩) 3200 cap)/\Below w.heap.size w wr) (fun kv _=>l.length - (intOf kv).toNat)
   case atStart=>exact ⟨0,rfl,Nat.zero_le _,fun j hj=>by omega,c01,hbw1⟩
   case round =>
    obtain ⟨k,rfl,hk,hj,c0,hb⟩:=hrel
    by_cases hlt:k<l.length
    ·obtain ⟨b',o',e',hci⟩:=hc k hlt
     subst e'
     have ci:=cell_later hb hci
     obtain ⟨q1,q2,q3⟩:=hobj _ (lget_mem l k hlt)
     have NX:Hid ((flds h.words (l.getD k 0)).all (fitB l)=true->∀ j,j<k+1->(flds h.words (l.getD j 0)).all (fitB l)=true):=fun e=>all_upto hj.out e
     have BAD:Hid ((flds h.words (l.getD k 0)).all (fitB l)=false->objsFit h.words l l=false):=fun e=>nall_stop hlt e
     have W1:=hW.later hb
     have FA:=fieldsAt_any b o cap h.words (l.getD k 0) wr W1 HLN.out hcap q1 (size_of (headB_of q3)) q2
     have hfl:(flds h.words (l.getD k 0)).length<=60:=by rw [flds_length];have:=size_of (headB_of q3);omega
     have AL:=fun u wq hb' hu'=>allFit_any _ u l (flds h.words (l.getD k 0)) wq (HU.out.later hb') hu' hs (by omega) (by omega)
     clear hci hj
     generalize l.getD k 0=a at *
     cases hca:(flds h.words a).all (fitB l)
     ·have G:Hid (wfB h l=false):=(by rw [E.out];exact BAD.out hca:wfB h l=false)
      simp only [hca] at AL
      clear NX BAD
      go_wp2_with fail
      refine FA.mono ?_
      rintro e w2 ⟨⟨fv,rfl,hfv⟩,hw2⟩
      obtain rfl:=hw2.symm
      go_wp2_with fail
      refine (AL _ _ hb hfv).mono ?_
      rintro e w3 ⟨rfl,hb3⟩
      go_wp2
      go_ret
      exact ⟨wret_bool G.out.symm,bel_after hb hb3⟩
     ·have N:=NX.out hca
      simp only [hca] at AL
      clear NX BAD
      go_wp2_with fail
      refine FA.mono ?_
      rintro e w2 ⟨⟨fv,rfl,hfv⟩,hw2⟩
      obtain rfl:=hw2.symm
      go_wp2_with fail
      refine (AL _ _ hb hfv).mono ?_
      rintro e w3 ⟨rfl,hb3⟩
      have c03:=cell_later hb3 c0
      go_wp2
      exact ⟨⟨k+1,by go_num,by omega,N,c03,bel_after hb hb3⟩,by simp [intOf];omega⟩
    ·obtain rfl:k=l.length:=by omega
     have G:Hid (wfB h l=true):=(by rw [E.out];exact nall_done hj.out:wfB h l=true)
     go_wp2
     go_ret
     exact ⟨wret_bool G.out.symm,hb⟩
 ·have hri:(20:Int)<(h.roots.length:Int):=by omega
  have G:Hid (wfB h l=false):=(by unfold wfB;rw [decide_eq_false hr];rfl:wfB h l=false)
  clear i1 i2 i3 hlen hu X0 hc hW hobj
  go_enter Tryz.func132,Tryz.ntmps132
  go_wp2
  go_ret
  exact ⟨wret_bool G.out.symm,hb0⟩
def keptI (W:List Int) (l:List Nat):List Nat:=l.filter fun a=>decide (a<2000) && hasY W a
theorem keptI_snoc (W:List Int) (l:List Nat) (a:Nat):keptI W (l ++ [a])=if (decide (a<2000) && hasY W a)=true then keptI W l ++ [a] else keptI W l:=by
 unfold keptI
 rw [List.filter_append]
 by_cases h:(decide (a<2000) && hasY W a)=true
 ·rw [if_pos h];congr 1;simp only [List.filter_cons,h,if_true,List.filter_nil]
 ·rw [if_neg h];simp only [List.filter_cons,h,if_false,List.filter_nil,Bool.false_eq_true,List.append_nil]
theorem ltake_snoc (l:List Nat) (k:Nat) (h:k<l.length):l.take (k+1)=l.take k ++ [l.getD k 0]:=by
 rw [List.take_add_one,List.getElem?_eq_getElem h]
 simp [h]
theorem IRof {w:World} {B n:Nat} {v:Value} {l:List Nat} (h:w.ownsRow B 2 1 v n (icells (ints l))):IR w v (ints l):=IR_of_owns' h
set_option maxRecDepth 100000 in
set_option maxHeartbeats 1600000 in
theorem keptObjects_any (b o cap:Nat) (u:Value) (W:List Int) (l:List Nat) (w:World) (hW:WS w b o W) (hlen:W.length=3200) (hcap:3200<=cap) (hu:IR w u (ints l)) (hl:l.length<=3200)
  (hobj:∀ a,a ∈ l->a+4<=3200/\nx W a<=3200/\objB W a=true) :
  Calls Tryz.prog 134 #[.slice (some ⟨b,o,none⟩) 3200 cap,u] w fun e w'=>(∃ v,e=.returned v/\IR w' v (keptOf W l))/\Below w.heap.size w w':=by
 have HLN:Hid (W.length=3200):=hlen
 obtain ⟨ua,uc,rfl,hc⟩:=intsI hu
 clear hlen hu
 go_enter Tryz.func134,Tryz.ntmps134
 go_wp2
 go_loopw [5,10] (fun ov kv wr=>∃ (k:Nat) (v0:Value),kv=.int .i64 k/\v0=ov/\k<=l.length/\wr.ownsRow w.heap.size 2 1 v0 (keptI W (l.take k)).length (icells (ints (keptI W (l.take k))))/\Below w.heap.size w wr) (fun _ kv _=>l.length - (intOf kv).toNat)
 case atStart=>exact ⟨0,_,rfl,rfl,Nat.zero_le _,⟨by simp [keptI,icells,ints],.inl ⟨rfl,rfl⟩⟩,Below.refl _ _⟩
 case round =>
  obtain ⟨k,ov,rfl,rfl,hk,hown,hb⟩:=hrel
  by_cases hlt:k<l.length
  ·obtain ⟨b',o',e',hci⟩:=hc k hlt
   subst e'
   have ci:=cell_later hb hci
   obtain ⟨q1,q2,q3⟩:=hobj _ (lget_mem l k hlt)
   have KS:=keptI_snoc W (l.take k) (l.getD k 0)
   rw [<- ltake_snoc l k hlt] at KS
   have FA:=fieldsAt_any b o cap W (l.getD k 0) wr (hW.later hb) HLN.out hcap q1 (size_of (headB_of q3)) q2
   have hfl:(flds W (l.getD k 0)).length<=60:=by rw [flds_length];have:=size_of (headB_of q3);omega
   have HYf:=fun u wq hu'=>hasYoung_any u (flds W (l.getD k 0)) wq hu' (by omega)
   rw [show (flds W (l.getD k 0)).any youngB=hasY W (l.getD k 0) from rfl] at HYf
   clear hci
   generalize l.getD k 0=a at *
   by_cases h2:a<2000
   ·have D:decide (2000<=(a:Int))=false:=decide_eq_false (by omega)
    rw [decide_eq_true h2] at KS
    generalize hasY W a=y at *
    cases y
    ·have KS' : Hid (keptI W (l.take (k+1))=keptI W (l.take k)):=KS
     clear KS
     go_wp2_with (first
      | (go_at_call 175;refine (isYoung_any _ _).mono ?_;rintro e wq ⟨rfl,hq⟩;obtain rfl:=hq.symm;rw [D])
      | (go_at_call 49;refine FA.mono ?_;rintro e w2 ⟨⟨fv,rfl,hfv⟩,hw2⟩;obtain rfl:=hw2.symm)
      | (go_at_call 176;refine (HYf _ _ hfv).mono ?_;rintro e wq ⟨rfl,hq⟩;obtain rfl:=hq.symm))
     exact ⟨⟨k+1,ov,by go_num,rfl,by omega,by rw [KS'.out];exact hown,hb⟩,by simp [intOf];omega⟩
    ·have KS' : Hid (keptI W (l.take (k+1))=keptI W (l.take k) ++ [a]):=KS
     have hlk:(keptI W (l.take k)).length<=3200:=by
      have:=List.length_filter_le (fun a=>decide (a<2000) && hasY W a) (l.take k)
      rw [List.length_take] at this
      unfold keptI
      omega
     clear KS
     generalize keptI W (l.take k)=ks at *
     have hown2:=own_later hown (bel_one wr (.cells #[.int .i64 (a:Int)] 2))
     have hb2:=bel_after hb (bel_one wr (.cells #[.int .i64 (a:Int)] 2))
     have hcc:∀ W:World,(W.alloc (.cells #[.int .i64 (a:Int)] 2)).cell? ⟨W.heap.size,0,none⟩=some (.int .i64 (a:Int)):=fun W=>by simp
     have hsz:=hb.size
     go_wp2_with (first
      | (go_at_call 175;refine (isYoung_any _ _).mono ?_;rintro e wq ⟨rfl,hq⟩;obtain rfl:=hq.symm;rw [D])
      | (go_at_call 49;refine FA.mono ?_;rintro e w2 ⟨⟨fv,rfl,hfv⟩,hw2⟩;obtain rfl:=hw2.symm)
      | (go_at_call 176;refine (HYf _ _ hfv).mono ?_;rintro e wq ⟨rfl,hq⟩;obtain rfl:=hq.symm)
      | (at_builtin;refine app_int _ rfl _ _ rfl _ _ ks.length (icells (ints ks)) rfl hown2 _ 1 (a:Int) rfl (hcc _) (by omega) (by simp;omega) ?_;intro v4 w4 hown4 hg4;have hb4:=own_grown hb2 hown2 hg4 (by simp;omega)))
     exact ⟨⟨k+1,v4,by go_num,rfl,by omega,by rw [KS'.out];simpa [icells,ints] using hown4,hb4⟩,by simp [intOf];omega⟩
   ·have D:decide (2000<=(a:Int))=true:=decide_eq_true (by omega)
    rw [decide_eq_false h2] at KS
    have KS' : Hid (keptI W (l.take (k+1))=keptI W (l.take k)):=KS
    clear KS
    go_wp2_with (go_at_call 175;refine (isYoung_any _ _).mono ?_;rintro e wq ⟨rfl,hq⟩;obtain rfl:=hq.symm;rw [D])
    exact ⟨⟨k+1,ov,by go_num,rfl,by omega,by rw [KS'.out];exact hown,hb⟩,by simp [intOf];omega⟩
  ·obtain rfl:k=l.length:=by omega
   rw [List.take_length] at hown
   go_wp2
   exact bodyPost_ret (v:=ov) (by simp [results,Tryz.results134,go_sem]) rfl ⟨⟨ov,rfl,IRof hown⟩,hb⟩
end Go.Proofs.YtgnbibinclepcaaGreatDoor
/- hashesOk of the program. -/
namespace Go.Proofs.YtgnbibinclepcaaGreatDoor
open Go.RowKit
theorem compact_len {zs:List Int} (hs:zs.Pairwise (· <= ·)):(Lib.compact zs).length=zs.length ↔ zs.Nodup:=by
 unfold Lib.compact Lib.compactUpTo
 rw [List.length_map]
 have e:((List.range zs.length).filter (Lib.keeps zs.toArray)).length=zs.length ↔ ∀ j,j<zs.length->Lib.keeps zs.toArray j=true:=by
  have:=List.length_filter_eq_length_iff (l:=List.range zs.length) (p:=Lib.keeps zs.toArray)
  rw [List.length_range] at this
  rw [this]
  exact ⟨fun h j hj=>h j (List.mem_range.2 hj),fun h j hj=>h j (List.mem_range.1 hj)⟩
 rw [e,List.nodup_iff_pairwise_ne,List.pairwise_iff_getElem]
 rw [List.pairwise_iff_getElem] at hs
 constructor
 ·intro h i j hi hj hij q
  have k:=h j hj
  unfold Lib.keeps at k
  have k:=(of_decide_eq_true k).resolve_left (by omega)
  have h1:zs.toArray[j]! = zs[j]:=by simp [hj]
  have h2:zs.toArray[j - 1]! = zs[j - 1]:=by simp [show j - 1<zs.length by omega]
  rw [h1,h2] at k
  have b:=hs (j - 1) j (by omega) hj (by omega)
  have c:zs[i]<=zs[j - 1]:=by
   rcases Nat.lt_or_ge i (j - 1) with q|q
   ·exact hs i (j - 1) hi (by omega) q
   ·have:i=j - 1:=by omega
    simp [this]
  omega
 ·intro h j hj
  unfold Lib.keeps
  refine decide_eq_true ?_
  by_cases e0:j=0
  ·exact .inl e0
  ·refine .inr fun q=>?_
   have h1:zs.toArray[j]! = zs[j]:=by simp [hj]
   have h2:zs.toArray[j - 1]! = zs[j - 1]:=by simp [show j - 1<zs.length by omega]
   rw [h1,h2] at q
   exact h (j - 1) j (by omega) hj (by omega) q.symm
theorem sorted_ints (zs:List Int):(zs.mergeSort fun x y=>decide (x<=y)).Pairwise (· <= ·):=by
 have h:=List.pairwise_mergeSort (le:=fun x y:Int=>decide (x<=y)) (fun a b c h1 h2=>by simp at *;omega) (fun a b=>by simp;omega) zs
 exact h.imp (fun h=>by simpa using h)
theorem perm_nodup (zs:List Int):(zs.mergeSort fun x y=>decide (x<=y)).Nodup ↔ zs.Nodup:=(List.mergeSort_perm zs _).nodup_iff
theorem sort_any (v:Value) (zs:List Int) (B:Nat) (w:World) (ho:w.ownsRow B 2 1 v zs.length (icells zs)) (hl:zs.length<=1000000) :
  Calls Tryz.prog 172 #[v] w fun e w'=>e=.returned (.tuple #[])/\w'.ownsRow B 2 1 v zs.length (icells (zs.mergeSort fun x y=>decide (x<=y)))/\(∀ w0,Below B w0 w->Below B w0 w'):=by
 by_cases hv:v=.slice none 0 0
 ·subst hv
  have h0:zs.length=0:=by
   rcases ho.2 with ⟨_,e⟩|⟨g,cap,cur,e,_⟩
   ·exact e
   ·cases e
  obtain rfl:=List.length_eq_zero_iff.1 h0
  refine (AnyM.slices_Sort_int_none Tryz.laysSortI none 0 w).mono ?_
  rintro e w' ⟨rfl,rfl⟩
  exact ⟨rfl,by simpa using ho,fun _ h=>h⟩
 ·obtain ⟨g,cap,rfl,hB,hg,hn,hm,_,hH⟩:=Lib.holds_of_ownsRow (enc:=Value.int .i64) (zs:=zs) ho hv
  refine (AnyM.slices_Sort_int Tryz.laysSortI g 0 cap zs w hH hg (by omega)).mono ?_
  rintro e w' ⟨rfl,n,os,rfl⟩
  have h1:=Lib.ownsRow_putRow (enc:=Value.int .i64) (q:=n) (k:=zs.length) (ys:=zs.mergeSort fun x y=>decide (x<=y)) ho (by simp) (Nat.le_refl _)
  rw [List.take_of_length_le (by simp)] at h1
  have hgr:∀ (a:World) (os:Array Obj),Below a.heap.size a (Sort.grow a os):=fun a os=>⟨rfl,rfl,rfl,by simp [Sort.grow],fun k hk=>by simp [Sort.grow,Array.getElem?_append,hk]⟩
  refine ⟨rfl,own_later h1 (hgr _ _),fun w0 h=>?_⟩
  have h2:=Lib.below_putRow (enc:=Value.int .i64) (q:=n) (g:=g) (d:=(zs.mergeSort fun x y=>decide (x<=y)).toArray) h hB
  exact h2.trans ((hgr _ _).mono (by simp [Sort.putRow,Sort.mapBlock,Sort.ahead];omega))
theorem compact_any (v:Value) (zs:List Int) (B:Nat) (w:World) (ho:w.ownsRow B 2 1 v zs.length (icells zs)) (hl:zs.length<=1000000) :
  Calls Tryz.prog 173 #[v] w fun e w'=>(∃ ao cap,e=.returned (.slice ao (Lib.compact zs).length cap))/\(∀ w0,Below B w0 w->Below B w0 w'):=by
 by_cases hv:v=.slice none 0 0
 ·subst hv
  have h0:zs.length=0:=by
   rcases ho.2 with ⟨_,e⟩|⟨g,cap,cur,e,_⟩
   ·exact e
   ·cases e
  obtain rfl:=List.length_eq_zero_iff.1 h0
  refine (AnyG.slices_Compact_int_empty Tryz.laysCompactI none 0 w).mono ?_
  rintro e w' ⟨rfl,rfl⟩
  exact ⟨⟨_,_,rfl⟩,fun _ h=>h⟩
 ·obtain ⟨g,cap,rfl,hB,hg,hn,hm,_,hH⟩:=Lib.holds_of_ownsRow (enc:=Value.int .i64) (zs:=zs) ho hv
  refine (AnyG.slices_Compact_int Tryz.laysCompactI g 0 cap zs w hH (by omega) hn).mono ?_
  rintro e w' ⟨rfl,n,rfl⟩
  exact ⟨⟨_,_,rfl⟩,fun w0 h=>Lib.below_putRow h hB⟩
theorem own_lowI' {w:World} {B e size n b:Nat} {v:Value} {xs:List Value} (h:w.ownsRow B e size v n xs) (hk:v.ownBlock=some b):B<=b:=by
 rcases h.2 with ⟨rfl,_⟩|⟨g,cap,cur,rfl,hg,_⟩
 ·cases hk
 ·cases hk;exact hg
def hoP (h:Hp) (l:List Nat):Prop:=(1<=h.hash/\h.hash<=1000000000)/\(∀ a,a ∈ l->gw h.words (a+2)<h.hash)/\(hashesOf h.words l).Nodup
def HoOut (h:Hp) (l:List Nat) (e:Ending):Prop:=∃ ok:Bool,e=.returned (.bool ok)/\(ok=true ↔ hoP h l)
theorem hdF (a b c d:Int) (w:World):(Instr.field 79 (.agg #[.int .i64 a,.int .i64 b,.int .i64 c,.int .i64 d]) 2).run Tryz.prog w=.ok (.int .i64 c) w:=by kernel_rfl
set_option maxRecDepth 100000 in
set_option maxHeartbeats 1600000 in
theorem hashesOk_any (v u:Value) (h:Hp) (l:List Nat) (w:World) (hv:HR w v h) (hu:IR w u (ints l)) (hl:l.length<=3200) (hlen:h.words.length=3200)
  (hobj:∀ a,a ∈ l->a+4<=3200) :
  Calls Tryz.prog 131 #[v,u] w fun e w'=>HoOut h l e/\Below w.heap.size w w':=by
 obtain ⟨v1,v2,v3,rfl,i1,i2,i3⟩:=hv
 obtain ⟨b,o,cap,rfl,hcap,hW⟩:=i1.ws (by omega)
 rw [hlen] at hcap ⊢
 have HLN:Hid (h.words.length=3200):=hlen
 obtain ⟨ua,uc,rfl,hc⟩:=intsI hu
 have hb0:=bel_one w (.cells #[.slice (some ⟨b,o,none⟩) 3200 cap,v2,.int .i64 h.old,.int .i64 h.eden,.int .i64 h.surv,.bool h.flip,.int .i64 h.hash,v3] 26)
 have X0:=Bx.new w (.slice (some ⟨b,o,none⟩) 3200 cap) v2 v3 h 26
 have hdf:=hdF
 clear i1 i2 i3 hlen hu
 by_cases hh1:h.hash<1
 ·have G:Hid (HoOut h l (.returned (.bool false))):=⟨false,rfl,by simp;exact fun k=>by have:=k.1.1;omega⟩
  clear X0 hc hW
  go_enter Tryz.func131,Tryz.ntmps131
  go_wp2
  go_ret
  exact ⟨G.out,hb0⟩
 by_cases hh2:1000000000<h.hash
 ·have G:Hid (HoOut h l (.returned (.bool false))):=⟨false,rfl,by simp;exact fun k=>by have:=k.1.2;omega⟩
  clear X0 hc hW
  go_enter Tryz.func131,Tryz.ntmps131
  go_wp2
  go_ret
  exact ⟨G.out,hb0⟩
 have hsz0:(w.alloc (.cells #[.slice (some ⟨b,o,none⟩) 3200 cap,v2,.int .i64 h.old,.int .i64 h.eden,.int .i64 h.surv,.bool h.flip,.int .i64 h.hash,v3] 26)).heap.size=w.heap.size+1:=by simp
 have x0:=X0.c0
 have x6:=X0.c6
 have HSZ:Hid ((w.alloc (.cells #[.slice (some ⟨b,o,none⟩) 3200 cap,v2,.int .i64 h.old,.int .i64 h.eden,.int .i64 h.surv,.bool h.flip,.int .i64 h.hash,v3] 26)).heap.size=w.heap.size+1):=hsz0
 clear X0 hsz0
 go_enter Tryz.func131,Tryz.ntmps131
 go_wp2
 go_loopw [5,19] (fun ov kv wr=>∃ (k:Nat) (v0:Value),kv=.int .i64 k/\v0=ov/\k<=l.length/\Hid (∀ j,j<k->gw h.words (l.getD j 0+2)<h.hash)/\wr.ownsRow (w.heap.size+1) 2 1 v0 k (icells (hashesOf h.words (l.take k)))/\wr.cell? ⟨w.heap.size,0,none⟩=some (.slice (some ⟨b,o,none⟩) 3200 cap)/\wr.cell? ⟨w.heap.size,6,none⟩=some (.int .i64 h.hash)/\w.heap.size+1<=wr.heap.size/\Below w.heap.size w wr) (fun _ kv _=>l.length - (intOf kv).toNat)
 case atStart=>exact ⟨0,_,rfl,rfl,Nat.zero_le _,fun j hj=>by omega,⟨by simp [hashesOf,icells],.inl ⟨rfl,rfl⟩⟩,x0,x6,by rw [HSZ.out];omega,hb0⟩
 case round =>
  obtain ⟨k,ov,rfl,rfl,hk,hj,hown,c0,c6,hsz,hb⟩:=hrel
  by_cases hlt:k<l.length
  ·obtain ⟨b',o',e',hci⟩:=hc k hlt
   subst e'
   have ci:=cell_later hb hci
   have q1:=hobj _ (lget_mem l k hlt)
   have NX:Hid (gw h.words (l.getD k 0+2)<h.hash->∀ j,j<k+1->gw h.words (l.getD j 0+2)<h.hash):=fun e=>all_upto hj.out e
   have BAD:Hid (¬ gw h.words (l.getD k 0+2)<h.hash->HoOut h l (.returned (.bool false))):=fun e=>⟨false,rfl,by simp;exact fun q=>e (q.2.1 _ (lget_mem l k hlt))⟩
   have HS:Hid (icells (hashesOf h.words (l.take (k+1)))=icells (hashesOf h.words (l.take k)) ++ [.int .i64 (gw h.words (l.getD k 0+2))]):=(by rw [ltake_snoc l k hlt];simp [hashesOf,icells]:icells (hashesOf h.words (l.take (k+1)))=icells (hashesOf h.words (l.take k)) ++ [.int .i64 (gw h.words (l.getD k 0+2))])
   have HA:=headerAt_any b o cap h.words (l.getD k 0) wr (hW.later hb) HLN.out q1
   clear hci hj
   generalize l.getD k 0=a at *
   generalize gw h.words (a+2)=x at *
   by_cases hx:x<h.hash
   ·have N:=NX.out hx
    clear NX BAD
    go_wp2_with fail
    refine HA.mono ?_
    rintro e w1 ⟨rfl,hb1⟩
    have d0:=cell_later hb1 c0
    have d6:=cell_later hb1 c6
    have al:=bel_after hb1 (bel_one w1 (.cells #[.int .i64 x] 2))
    have hown2:=own_later hown al
    have hb2:=bel_after hb al
    have e0:=cell_later al c0
    have e6:=cell_later al c6
    have hcc:∀ W:World,(W.alloc (.cells #[.int .i64 x] 2)).cell? ⟨W.heap.size,0,none⟩=some (.int .i64 x):=fun W=>by simp
    have s1:=hb1.size
    go_wp2_with (at_builtin;refine app_int _ rfl _ _ rfl _ _ k (icells (hashesOf h.words (l.take k))) rfl hown2 _ 1 x rfl (hcc _) (by omega) (by simp;omega) ?_;intro v4 w4 hown4 hg4';have hg4:(w1.alloc (.cells #[.int .i64 x] 2)).grownBy w4 ov.ownBlock:=hg4';have hb4:=Below.grown hb2 hg4 (by simp;omega) (fun b e=>by have:=own_lowI' hown2 e;omega);have f0:=hg4.cell e0 (fun e=>by have q:w.heap.size+1<=w.heap.size:=own_lowI' hown2 e.symm;omega);have f6:=hg4.cell e6 (fun e=>by have q:w.heap.size+1<=w.heap.size:=own_lowI' hown2 e.symm;omega);have hs4:=hg4.size)
    exact ⟨⟨k+1,v4,by go_num,rfl,by omega,N,by rw [HS.out];exact hown4,f0,f6,by simp at hs4;omega,hb4⟩,by simp [intOf];omega⟩
   ·have G:=BAD.out hx
    clear NX BAD
    go_wp2_with fail
    refine HA.mono ?_
    rintro e w1 ⟨rfl,hb1⟩
    have d0:=cell_later hb1 c0
    have d6:=cell_later hb1 c6
    go_wp2
    go_ret
    exact ⟨G,bel_after hb hb1⟩
  ·obtain rfl:k=l.length:=by omega
   rw [List.take_length] at hown
   have hle:(hashesOf h.words l).length=l.length:=by simp [hashesOf]
   have hown' : wr.ownsRow (w.heap.size+1) 2 1 ov (hashesOf h.words l).length (icells (hashesOf h.words l)):=by rw [hle];exact hown
   have SA:=sort_any ov (hashesOf h.words l) _ wr hown' (by rw [hle];omega)
   have DONE:Hid (∀ n:Nat,n=(Lib.compact ((hashesOf h.words l).mergeSort fun x y=>decide (x<=y))).length->HoOut h l (.returned (.bool ((n:Int) == (l.length:Int))))):=fun n hn=>by
    refine ⟨_,rfl,?_⟩
    have cl:=compact_len (sorted_ints (hashesOf h.words l))
    rw [perm_nodup,List.length_mergeSort,hle,← hn] at cl
    rw [beq_iff_eq,Int.ofNat_inj,cl]
    constructor
    ·intro q
     refine ⟨by omega,fun a ha=>?_,q⟩
     obtain ⟨j,hj',e⟩:=List.getElem_of_mem ha
     have:=hj.out j hj'
     simpa [hj',e] using this
    ·intro q
     exact q.2.2
   clear hj hown hW hobj c0 c6 hc
   go_wp2_with fail
   refine SA.mono ?_
   rintro e w1 ⟨rfl,ho1,hB1⟩
   have hlm:((hashesOf h.words l).mergeSort fun x y=>decide (x<=y)).length=(hashesOf h.words l).length:=by simp
   rw [<- hlm] at ho1
   have CA:=compact_any ov _ _ w1 ho1 (by rw [hlm,hle];omega)
   generalize hnn:(Lib.compact ((hashesOf h.words l).mergeSort fun x y=>decide (x<=y))).length=nn at *
   have D:=DONE.out nn rfl
   clear DONE hlm ho1 SA hle hnn
   go_wp2_with fail
   refine CA.mono ?_
   rintro e w2 ⟨⟨ao,cp,rfl⟩,hB2⟩
   have hB3:Below w.heap.size w w2:=hb.trans ((hB2 wr (hB1 wr (Below.refl _ _))).mono (by omega))
   go_wp2
   go_ret
   exact ⟨D,hB3⟩
end Go.Proofs.YtgnbibinclepcaaGreatDoor
