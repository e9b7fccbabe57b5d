
import Derived.Test.YtboiknllmnfipaaGreatDoorZU8
import Derived.Test.YtboiknllmnfipaaGreatDoorZU5
import Derived.Test.YtboiknllmnfipaaGreatDoorZU10
import Derived.Test.YtboiknllmnfipaaGreatDoorZU6
import Derived.Test.YtboiknllmnfipaaGreatDoorZU4
/- Does an address lie in what the scavenger leaves? l9From of the model. -/
namespace Go.Proofs.YtboiknllmnfipaaGreatDoor
open Go.RowKit
set_option maxHeartbeats 1600000 in
theorem Jcv (v:Value) (h:Hp) (x:Int) (w:World) (hv:HR w v h) :
  Calls Tryz.prog 104 #[v,.int .i64 x] w fun e w'=>e=.returned (.bool (frB h x))/\Below w.heap.size w w':=by
 obtain ⟨v1,v2,v3,rfl,-,-,-⟩:=id hv
 have hb0:=C5 w (.cells #[v1,v2,.int .i64 h.old,.int .i64 h.eden,.int .i64 h.surv,.bool h.flip,.int .i64 h.hash,v3] 30)
 have LS:=fun W=>Oe h.flip W
 have sb:H9 h.flip<=2900:=by unfold H9;split <;> omega
 have FB:Hid (frB h x=(decide (2000<=x/\x<2600) || decide ((H9 h.flip:Int)<=x/\x<(H9 h.flip:Int)+300))):=(rfl:_=_)
 generalize frB h x=r at *
 generalize H9 h.flip=s at *
 clear hv
 by_cases h1:2000<=x <;> by_cases h2:x<2600 <;> by_cases h3:(s:Int)<=x <;> by_cases h4:x<(s:Int)+300
 all_goals first|(exfalso;omega)|(
  go_enter Tryz.func104,Tryz.ntmps104
  go_wp2_with (go_at_call 33;refine (LS _).mono ?_;rintro e wq ⟨rfl,hq⟩;obtain rfl:=hq.symm)
  go_ret
  exact ⟨E7 (by rw [FB.out];first|(simp [h1,h2,h3,h4];done)|(simp [h1,h2,h3,h4];omega)),hb0⟩)
end Go.Proofs.YtboiknllmnfipaaGreatDoor
/- l8At, Get, ClassOf and HashOf of the model. -/
namespace Go.Proofs.YtboiknllmnfipaaGreatDoor
open Go.RowKit
noncomputable def atC (h:Hp) (x:Int):Int:=if Yw h x=true then x / 2 else -1
theorem Jai {h:Hp} {x:Int} (k:x % 2=0):Yw h x=false:=by
 unfold Yw
 rw [show decide (H8 x=2)=false from (Rl k).2]
 rfl
theorem Jes {h:Hp} {x:Int} (k:¬ x % 2=0):Yw h x=(Pn x && isC h (x / 2)):=by
 unfold Yw
 rw [show decide (H8 x=2)=Pn x from (R8 k).1]
 rfl
set_option maxRecDepth 100000 in
set_option maxHeartbeats 1600000 in
theorem Jmn (v:Value) (h:Hp) (x:Int) (w:World) (hv:HR w v h) (hk:okC h=true) (hx:N8 x) :
  Calls Tryz.prog 89 #[v,.int .i64 x] w fun e w'=>e=.returned (.int .i64 (atC h x))/\Below w.heap.size w w':=by
 obtain ⟨v1,v2,v3,rfl,i1,i2,i3⟩:=id hv
 have hb0:=C5 w (.cells #[v1,v2,.int .i64 h.old,.int .i64 h.eden,.int .i64 h.surv,.bool h.flip,.int .i64 h.hash,v3] 30)
 have WO:=fun W=>Oq x W
 obtain ⟨hx1,hx2⟩:=hx
 clear i1 i2 i3
 cases hwo:Pn x
 ·have FE:Hid (atC h x = -1):=(by
   unfold atC
   by_cases e:x % 2=0
   ·rw [Jai e];rfl
   ·rw [Jes e,hwo];rfl:atC h x = -1)
  rw [hwo] at WO
  go_enter Tryz.func89,Tryz.ntmps89
  go_wp2_with (go_at_call 55;refine (WO _).mono ?_;rintro e wq ⟨rfl,hq⟩;obtain rfl:=hq.symm)
  go_ret
  exact ⟨Oj FE.out.symm,hb0⟩
 ·rw [hwo] at WO
  by_cases he:x % 2=0
  ·have FE:Hid (atC h x = -1):=(by unfold atC;rw [Jai he];rfl:atC h x = -1)
   have tm:(x.tmod 2 == 0)=true:=by rw [L9,decide_eq_true he]
   go_enter Tryz.func89,Tryz.ntmps89
   go_wp2_with (go_at_call 55;refine (WO _).mono ?_;rintro e wq ⟨rfl,hq⟩;obtain rfl:=hq.symm)
   go_ret
   exact ⟨Oj FE.out.symm,hb0⟩
  ·have FE:Hid (atC h x=if isC h (x / 2)=true then x / 2 else -1):=(by unfold atC;rw [Jes he,hwo,Bool.true_and]:atC h x=if isC h (x / 2)=true then x / 2 else -1)
   have tm:(x.tmod 2 == 0)=false:=by rw [L9,decide_eq_false he]
   have hp:1<=x:=by
    rw [Us he] at hwo
    exact (of_decide_eq_true hwo).1
   have td:=Jcl hp
   have IS:=Jii _ h (x / 2) _ (hv.later hb0) hk
   have wd:IntKind.i64.wrap (x / 2)=x / 2:=by rw [IntKind.wrap_i64];omega
   cases hi:isC h (x / 2)
   ·rw [hi] at IS FE
    go_enter Tryz.func89,Tryz.ntmps89
    go_wp2_with (first
     | (go_at_call 55;refine (WO _).mono ?_;rintro e wq ⟨rfl,hq⟩;obtain rfl:=hq.symm)
     | (go_at_call 102;refine IS.mono ?_;rintro e w1 ⟨rfl,hb1⟩))
    go_ret
    exact ⟨Oj FE.out.symm,C3 hb0 hb1⟩
   ·rw [hi] at IS FE
    go_enter Tryz.func89,Tryz.ntmps89
    go_wp2_with (first
     | (go_at_call 55;refine (WO _).mono ?_;rintro e wq ⟨rfl,hq⟩;obtain rfl:=hq.symm)
     | (go_at_call 102;refine IS.mono ?_;rintro e w1 ⟨rfl,hb1⟩))
    go_ret
    exact ⟨Oj FE.out.symm,C3 hb0 hb1⟩
end Go.Proofs.YtboiknllmnfipaaGreatDoor
/- l5Kept of the model: its answer is a row of its own. -/
namespace Go.Proofs.YtboiknllmnfipaaGreatDoor
open Go.RowKit
set_option maxRecDepth 100000 in
set_option maxHeartbeats 3200000 in
theorem Yb (v lv:Value) (h:Hp) (l:List Nat) (w:World) (hv:HR w v h) (hlv:IR w lv (ints l)) (hlen:h.words.length=3200) (hl:l.length<=3200)
  (hobj:∀ a,a ∈ l->a+4<=3200/\nx h.words a<=3200/\M7 h.words a=true) (hy:∀ a,a ∈ l->∀ x,x ∈ flds h.words a -> -4611686018427387904<=x.tdiv 2/\x.tdiv 2<=4611686018427387904) :
  Calls Tryz.prog 36 #[v,lv] w fun x w'=>(∃ v',x=.returned v' /\ w'.ownsRow (w.heap.size+1) 2 1 v' (J8 h.words l).length (icells (ints (J8 h.words l))))/\Below w.heap.size w w':=by
 obtain ⟨v1,v2,v3,rfl,i1,i2,i3⟩:=hv
 obtain ⟨b,o,cap,rfl,_,hW⟩:=i1.ws (by omega)
 rw [hlen]
 have HLN:Hid (h.words.length=3200):=hlen
 obtain ⟨ao,lcap,rfl,_,hc⟩:=hlv
 rw [J0] at hc ⊢
 have X0:=Bx.new w (.slice (some ⟨b,o,none⟩) 3200 cap) v2 v3 h 30
 have hb0:=C5 w (.cells #[.slice (some ⟨b,o,none⟩) 3200 cap,v2,.int .i64 h.old,.int .i64 h.eden,.int .i64 h.surv,.bool h.flip,.int .i64 h.hash,v3] 30)
 have hb1:=C3 hb0 (C5 _ (.cells #[] 2))
 have ho0:((w.alloc (.cells #[.slice (some ⟨b,o,none⟩) 3200 cap,v2,.int .i64 h.old,.int .i64 h.eden,.int .i64 h.surv,.bool h.flip,.int .i64 h.hash,v3] 30)).alloc (.cells #[] 2)).ownsRow (w.heap.size+1) 2 1 (.slice (some ⟨w.heap.size+1,0,none⟩) 0 0) 0 []:=by
  have q:=Te (w.alloc (.cells #[.slice (some ⟨b,o,none⟩) 3200 cap,v2,.int .i64 h.old,.int .i64 h.eden,.int .i64 h.surv,.bool h.flip,.int .i64 h.hash,v3] 30)) (w.heap.size+1) 2 1 (by simp)
  rwa [World.size_alloc] at q
 have bx0:=X0.later (C5 _ (.cells #[] 2))
 have BX:Hid (((w.alloc (.cells #[.slice (some ⟨b,o,none⟩) 3200 cap,v2,.int .i64 h.old,.int .i64 h.eden,.int .i64 h.surv,.bool h.flip,.int .i64 h.hash,v3] 30)).alloc (.cells #[] 2)).cell? ⟨w.heap.size,0,none⟩=some (.slice (some ⟨b,o,none⟩) 3200 cap)):=bx0.c0
 clear X0 bx0 i1 i2 i3 hlen hb0
 have hW0:=hW.later hb1
 go_enter Tryz.func36,Tryz.ntmps36
 go_wp2
 go_loopw [5,6] (fun ov iv wr=>∃ (k:Nat) (v0:Value),k<=l.length/\iv=.int .i64 k/\v0=ov/\wr.ownsRow (w.heap.size+1) 2 1 v0 (J8 h.words (l.take k)).length (icells (ints (J8 h.words (l.take k))))/\wr.cell? ⟨w.heap.size,0,none⟩=some (.slice (some ⟨b,o,none⟩) 3200 cap)/\w.heap.size+1<=wr.heap.size/\Below w.heap.size w wr) (fun _ iv _=>l.length - (intOf iv).toNat)
 case atStart=>exact ⟨0,_,Nat.zero_le _,rfl,rfl,ho0,BX.out,by simp,hb1⟩
 case round =>
  obtain ⟨k,ov,hk,rfl,rfl,hown,bx,hsz,hb⟩:=hrel
  by_cases hlt:k<l.length
  ·obtain ⟨b',o',e',hci⟩:=hc k hlt
   subst e'
   rw [Qk l k hlt] at hci
   have hm:=Rg l k hlt
   have TS:=Sa l k 0 hlt
   generalize l.getD k 0=a at *
   obtain ⟨q1,q2,q3⟩:=hobj a hm
   have hya:=hy a hm
   have hsz0:=L6 q3
   obtain ⟨m,hme⟩:=Int.eq_ofNat_of_zero_le hsz0.1
   have hmN:(gw h.words a).toNat=m:=by rw [hme];rfl
   have hnx:nx h.words a=a+4+m:=by unfold nx;rw [hmN]
   rw [hnx] at q2
   have ca:=(hW.later hb) a (by rw [HLN.out];omega)
   rw [hme] at ca
   have hcl:=C2 hb hci
   have HC:Hid (∀ j,j<m->wr.cell? ⟨b,o+(a+4+j),none⟩=some (.int .i64 (gw h.words (a+4+j)))):=fun j hj=>(hW.later hb) _ (by rw [HLN.out];omega)
   have HM:Hid ((gw h.words a).toNat=m):=hmN
   have HYR:Hid (∀ j,j<m -> -4611686018427387904<=(gw h.words (a+4+j)).tdiv 2/\(gw h.words (a+4+j)).tdiv 2<=4611686018427387904):=fun j hj=>hya _ (List.mem_map.2 ⟨j,by rw [List.mem_range];omega,rfl⟩)
   have HTS:Hid (l.take (k+1)=l.take k ++ [a]):=TS
   have mle:m<=60:=by omega
   clear hci TS hme hmN hnx hya hW hW0 hsz0 q3 hobj hy hc hm
   go_wp2
   go_loopw [8,9] (fun yv kv wr2=>∃ (j:Nat),j<=m/\kv=.int .i64 ((a+4+j:Nat):Int)/\yv=.bool (((flds h.words a).take j).any M5)/\wr2=wr) (fun _ kv _=>a+4+m - (intOf kv).toNat)
   case atStart=>exact ⟨0,Nat.zero_le _,by go_num,rfl,rfl⟩
   case round =>
    obtain ⟨j,hj,rfl,rfl,rfl⟩:=hrel
    by_cases hjm:j<m
    ·have c1:=HC.out j hjm
     have T1:=Zr HM.out hjm
     have r:=HYR.out j hjm
     generalize gw h.words (a+4+j)=x at *
     have T2:Hid (((flds h.words a).take (j+1)).any M5=(((flds h.words a).take j).any M5 || M5 x)):=(by rw [T1];simp:((flds h.words a).take (j+1)).any M5=(((flds h.words a).take j).any M5 || M5 x))
     clear T1
     generalize ((flds h.words a).take j).any M5=y at *
     cases y
     ·go_wp2_with (go_at_call 56;refine (Td _ _ r).mono ?_;rintro e w' ⟨rfl,rfl⟩)
      exact ⟨⟨j+1,by omega,by go_num,by rw [T2.out];rfl,trivial⟩,by simp [intOf];omega⟩
     ·go_wp2
      exact ⟨⟨j+1,by omega,by go_num,by rw [T2.out];rfl,trivial⟩,by simp [intOf];omega⟩
    ·obtain rfl:j=m:=by omega
     have TA:=Jay HM.out
     rw [TA]
     have KS:=Yq h.words (l.take k) a
     rw [<- HTS.out] at KS
     have HH:Sp h.words a=(flds h.words a).any M5:=rfl
     rw [<- HH]
     clear TA HH
     generalize Sp h.words a=y at *
     have hg2:∀ (W:World),(W.alloc (.cells #[.int .i64 a] 2)).cell? ⟨W.heap.size,0,none⟩=some (.int .i64 (a:Int)):=fun W=>by simp
     by_cases h2:a<2000
     ·have h2i:(a:Int)<2000:=by omega
      cases y
      ·rw [decide_eq_true h2] at KS
       have KS' : Hid (J8 h.words (l.take (k+1))=J8 h.words (l.take k)):=KS
       clear KS
       go_wp2
       exact ⟨⟨k+1,ov,by omega,by go_num,rfl,by rw [KS'.out];exact hown,bx,hsz,hb⟩,by simp [intOf];omega⟩
      ·rw [decide_eq_true h2] at KS
       have KS' : Hid (J8 h.words (l.take (k+1))=J8 h.words (l.take k) ++ [a]):=KS
       have hlk:(J8 h.words (l.take k)).length<=3200:=by
        have:=List.length_filter_le (fun a=>decide (a<2000) && Sp h.words a) (l.take k)
        rw [List.length_take] at this
        unfold J8
        omega
       clear KS
       generalize J8 h.words (l.take k)=ks at *
       have hown2:=E8 hown (C5 wr (.cells #[.int .i64 a] 2))
       have hb2:=C3 hb (C5 wr (.cells #[.int .i64 a] 2))
       have bx2:=C2 (C5 wr (.cells #[.int .i64 a] 2)) bx
       go_wp2_with (at_builtin;refine O0 _ rfl _ _ rfl _ _ ks.length (icells (ints ks)) rfl hown2 _ 1 a rfl (hg2 _) (by omega) (Nat.le_trans hsz (by simp)) ?_;intro v4 w4 hown4 hg4';have hg4:(wr.alloc (.cells #[.int .i64 a] 2)).grownBy w4 ov.ownBlock:=hg4';have hb4:=Below.grown hb2 hg4 (Nat.le_trans hb.size (by simp)) (fun b e=>by have:=J4 hown2 e;omega);have bx4:=hg4.cell bx2 (fun e=>by have q:w.heap.size+1<=w.heap.size:=J4 hown2 e.symm;omega);have hs4:=hg4.size)
       exact ⟨⟨k+1,v4,by omega,by go_num,rfl,by rw [KS'.out];simpa [icells,ints] using hown4,bx4,Nat.le_trans hsz (Nat.le_trans (by simp) hs4),hb4⟩,by simp [intOf];omega⟩
     ·have h2i:¬ (a:Int)<2000:=by omega
      rw [decide_eq_false h2] at KS
      have KS' : Hid (J8 h.words (l.take (k+1))=J8 h.words (l.take k)):=KS
      clear KS
      go_wp2
      exact ⟨⟨k+1,ov,by omega,by go_num,rfl,by rw [KS'.out];exact hown,bx,hsz,hb⟩,by simp [intOf];omega⟩
  ·obtain rfl:k=l.length:=by omega
   rw [List.take_length] at hown
   go_wp2
   exact bodyPost_ret (v:=ov) (by simp [results,Tryz.results36,go_sem]) rfl ⟨⟨ov,rfl,hown⟩,hb⟩
end Go.Proofs.YtboiknllmnfipaaGreatDoor
