import Derived.Test.YtgnbibinclepcaaGreatDoorZP10
namespace Go.Proofs.YtgnbibinclepcaaGreatDoor
open Go.RowKit
theorem Tryz.infoBo:(Tryz.prog.info? 4).map (fun i=>(i.zero,i.size,i.bytes))=some (some (.bool false),1,1):=by kernel_rfl
theorem makeB (w:World):(Instr.makeSlice 135 (.int .i64 3200) (.int .i64 3200)).run Tryz.prog w=.ok (.slice (some ⟨w.heap.size,0,none⟩) 3200 3200) (w.alloc (.cells (madeCells #[.bool false] 3200) 4)) :=
 run_make_row' (P:=Tryz.prog) 135 4 (.bool false) 1 Tryz.underlying135 Tryz.infoBo rfl .i64 .i64 3200 (by decide) (by decide) w
theorem made_bools (w:World):(w.alloc (.cells (madeCells #[.bool false] 3200) 4)).rowIs w.heap.size 4 3200 (fun _=>.bool false):=World.rowIs_made w _ 3200 4
def OkOut (h:Hp) (x:Ending):Prop:=∃ ok:Bool,x=.returned (.bool ok)/\(ok=true ↔ ∃ l,RightAt h l)
theorem ok_no {h:Hp} (k:∀ l,¬ RightAt h l):OkOut h (.returned (.bool false)):=⟨false,rfl,by simp;exact k⟩
theorem ok_yes {h:Hp} {l:List Nat} (k:RightAt h l):OkOut h (.returned (.bool true)):=⟨true,rfl,by simp;exact ⟨l,k⟩⟩
theorem IL {w:World} {g n cp k:Nat} {l:List Nat} (h:IR w (.slice (some ⟨g,0,none⟩) n cp) (ints l)) (hk:k<l.length):w.cell? ⟨g,k,none⟩=some (.int .i64 ((l.getD k 0:Nat):Int)):=by
 obtain ⟨ao,cap,e,_,hc⟩:=h
 obtain ⟨b,o,e2,hcell⟩:=hc k (by rw [ints_length];exact hk)
 simp only [Value.slice.injEq] at e
 rw [<- e.1] at e2
 simp only [Option.some.injEq,Addr.mk.injEq] at e2
 obtain ⟨rfl,rfl,_⟩:=e2
 rw [ints_get l k hk,Nat.zero_add] at hcell
 exact hcell
theorem row_start {w:World} {S k:Nat} {l:List Nat} (h:w.rowIs S 4 3200 (fun i=>.bool (decide (i ∈ l.take k)))) (hk:k<l.length) :
  (w.setCell ⟨S,l.getD k 0,none⟩ (.bool true)).rowIs S 4 3200 (fun i=>.bool (decide (i ∈ l.take (k+1)))):=by
 refine (h.set _ _).congr fun i _=>?_
 rw [take_snoc' l k 0 hk]
 by_cases e:i=l.getD k 0
 ·rw [if_pos e]
  simp [e]
 ·rw [if_neg e]
  simp only [List.mem_append,List.mem_singleton,e,or_false]
theorem keep8 {W a b:World} {N:Nat} {u0 u1 u2 u3 u4 u5 u6 u7:Value} (k:Below a.heap.size a b) (h:Below W.heap.size W a/\a.cell? ⟨N,0,none⟩=some u0/\a.cell? ⟨N,1,none⟩=some u1/\a.cell? ⟨N,2,none⟩=some u2/\a.cell? ⟨N,3,none⟩=some u3/\a.cell? ⟨N,4,none⟩=some u4/\a.cell? ⟨N,5,none⟩=some u5/\a.cell? ⟨N,6,none⟩=some u6/\a.cell? ⟨N,7,none⟩=some u7) :
  Below W.heap.size W b/\b.cell? ⟨N,0,none⟩=some u0/\b.cell? ⟨N,1,none⟩=some u1/\b.cell? ⟨N,2,none⟩=some u2/\b.cell? ⟨N,3,none⟩=some u3/\b.cell? ⟨N,4,none⟩=some u4/\b.cell? ⟨N,5,none⟩=some u5/\b.cell? ⟨N,6,none⟩=some u6/\b.cell? ⟨N,7,none⟩=some u7 :=
 ⟨bel_after h.1 k,cell_later k h.2.1,cell_later k h.2.2.1,cell_later k h.2.2.2.1,cell_later k h.2.2.2.2.1,cell_later k h.2.2.2.2.2.1,cell_later k h.2.2.2.2.2.2.1,cell_later k h.2.2.2.2.2.2.2.1,cell_later k h.2.2.2.2.2.2.2.2⟩
def ObjsOk (h:Hp) (l:List Nat) (k:Nat):Prop:=∀ j,j<k->(1<=gw h.words (l.getD j 0+2)/\gw h.words (l.getD j 0+2)<h.hash)/\(∀ i,i<j->gw h.words (l.getD i 0+2) ≠ gw h.words (l.getD j 0+2))/\fieldsFit h.words l (l.getD j 0)
theorem objs_of {h:Hp} {l m:List Nat} (hp:PartsAt h l) (k:RightAt h m):ObjsOk h l l.length:=by
 obtain rfl:=hp.eq k.1
 obtain ⟨_,_,_,h4,⟨h5,h6⟩,_,_,h7,_⟩:=k
 intro j hj
 have hm:=get_mem l j hj
 refine ⟨⟨h4 _ hm,h5 _ hm⟩,fun i hi e=>?_,h7 _ hm⟩
 unfold hashesOf at h6
 rw [List.nodup_iff_pairwise_ne,List.pairwise_map,List.pairwise_iff_getElem] at h6
 exact h6 i j (by omega) hj hi (by simpa [hj,show i<l.length by omega] using e)
theorem right_of {h:Hp} {l:List Nat} (hp:PartsAt h l) (hz:noughts h) (hh:1<=h.hash/\h.hash<=1000000000) (ho:ObjsOk h l l.length) (hr:h.roots.length<=20) (hf:∀ j,j<h.roots.length->fitB l (h.roots.getD j 0)=true) (hk:keptOf h.words l=h.kept):RightAt h l:=by
 have at_:∀ a,a ∈ l->∃ j,j<l.length/\l.getD j 0=a:=fun a ha=>by
  obtain ⟨j,hj,e⟩:=List.getElem_of_mem ha
  exact ⟨j,hj,by simp [hj,e]⟩
 refine ⟨hp,hz,hh,fun a ha=>?_,⟨fun a ha=>?_,?_⟩,hr,fun x hx=>?_,fun a ha=>?_,hk⟩
 ·obtain ⟨j,hj,rfl⟩:=at_ a ha;exact (ho j hj).1.1
 ·obtain ⟨j,hj,rfl⟩:=at_ a ha;exact (ho j hj).1.2
 ·unfold hashesOf
  rw [List.nodup_iff_pairwise_ne,List.pairwise_map,List.pairwise_iff_getElem]
  intro i j hi hj hij
  have:=(ho j hj).2.1 i hij
  simpa [hj,hi] using this
 ·obtain ⟨j,hj,e⟩:=List.getElem_of_mem hx
  have:=hf j hj
  simpa [hj,e] using this
 ·obtain ⟨j,hj,rfl⟩:=at_ a ha;exact (ho j hj).2.2
set_option maxRecDepth 100000 in
set_option maxHeartbeats 6400000 in
theorem specHeapOk_any (v:Value) (h:Hp) (w:World) (hv:HR w v h) (hro:h.roots.length<=1000000000000) (hke:h.kept.length<=1000000000000) :
  Calls Tryz.prog 43 #[v] w fun x w'=>OkOut h x/\Below w.heap.size w w':=by
 have C:=fun hv'=>l5Parts_any v h (w.alloc (.cells (v.cells) 26)) hv'
 obtain ⟨v1,v2,v3,rfl,i1,i2,i3⟩:=id hv
 have hb0:=bel_one w (.cells #[v1,v2,.int .i64 h.old,.int .i64 h.eden,.int .i64 h.surv,.bool h.flip,.int .i64 h.hash,v3] 26)
 have X0:=Bx.new w v1 v2 v3 h 26
 have hmk:=makeB
 have C1:=C (hv.later hb0)
 have hv0:=hv.later hb0
 clear C hv
 go_enter Tryz.func43,Tryz.ntmps43
 go_wp2_with fail
 refine C1.mono ?_
 rintro x w1 ⟨⟨l,g,cp,ok,hl,rfl,ho,y,n⟩,hb1⟩
 have hbw:=bel_after hb0 hb1
 have X1:=X0.later hb1
 have hv1:=hv0.later hb1
 have j1:=i1.later hbw
 have j2:=i2.later hbw
 have j3:=i3.later hbw
 have hlv:=IR_of_owns' ho
 clear C1 X0 hv0 i1 i2 i3 hb0 hb1 ho
 cases ok with
 | false =>
  have G:=ok_no (h:=h) (fun m k=>n rfl m k.1)
  clear y n X1 j1 j2 j3 hlv
  go_wp2
  go_ret
  exact ⟨G,hbw⟩
 | true =>
  have P:=y rfl
  have HP:Hid (PartsAt h l):=P
  have hlen:=P.1
  have hsb:survB h.flip<=2900:=by unfold survB;split <;> omega
  clear y n P
  obtain ⟨c0,c1,c2,c3,c4,c5,c6,c7⟩:=id X1
  by_cases hh:1<=h.hash/\h.hash<=1000000000
  ·have D:=decide_eq_true hh
   obtain ⟨ro,rc,rfl,rcap,hrc⟩:=id j2
   by_cases hr:h.roots.length<=20
   ·have hri:¬ (20:Int)<(h.roots.length:Int):=by omega
    obtain ⟨b,o,cap,rfl,_,hW⟩:=j1.ws (by omega)
    have HLN:Hid (h.words.length=3200):=hlen
    rw [hlen] at c0 X1 hv1
    have HIR:Hid (IR w1 (.slice ro h.roots.length rc) h.roots):=j2
    have HIL:Hid (IR w1 (.slice (some ⟨g,0,none⟩) l.length cp) (ints l)):=hlv
    have HHV:Hid (HR w1 (.agg #[.slice (some ⟨b,o,none⟩) 3200 cap,.slice ro h.roots.length rc,.int .i64 h.old,.int .i64 h.eden,.int .i64 h.surv,.bool h.flip,.int .i64 h.hash,v3]) h):=hv1
    have HK:Hid (IR w1 v3 h.kept):=j3
    have HWS:Hid (WS w1 b o h.words):=hW
    have HX:Hid (Bx w1 w.heap.size (.slice (some ⟨b,o,none⟩) 3200 cap) (.slice ro h.roots.length rc) v3 h):=X1
    clear hW hlen hlv hrc hv1 j1 j2 j3 X1
    go_wp2_with (first|(go_at_call 80;refine (wl1In_any _ _ _ _).mono ?_;rintro x wq ⟨rfl,hq⟩;obtain rfl:=hq.symm;rw [D])|(go_at_call 89;refine (l5Surv_any _ _).mono ?_;rintro x wq ⟨rfl,hq⟩;obtain rfl:=hq.symm))
    go_loopw [6] (fun iv wr=>∃ i:Nat,i<=3200/\iv=.int .i64 i/\Hid (∀ j,j<i->¬ inUse h j->gw h.words j=0)/\wr=w1) (fun iv _=>3200 - (intOf iv).toNat)
    case atStart=>exact ⟨0,by omega,rfl,fun j hj=>by omega,rfl⟩
    case round =>
     obtain ⟨i,hi,rfl,hz,hwr⟩:=hrel
     obtain rfl:=hwr.symm
     clear hwr
     by_cases hi2:i<3200
     ·have hii:(i:Int)<3200:=by omega
      have ci:=HWS.out i (by rw [HLN.out];exact hi2)
      have NOZ:Hid (¬ inUse h i->¬ gw h.words i=0->OkOut h (.returned (.bool false))):=fun a c=>ok_no (fun m k=>c (k.2.1 i hi2 a))
      have NXT:Hid ((¬ inUse h i->gw h.words i=0)->∀ j,j<i+1->¬ inUse h j->gw h.words j=0):=fun a=>all_upto hz.out a
      have IU:Hid (inUse h i ↔ ((i:Int)<h.old ∨ (2000<=i/\(i:Int)<h.eden) ∨ (survB h.flip<=i/\(i:Int)<h.surv))):=Iff.rfl
      generalize gw h.words i=x at *
      clear hz
      by_cases q1:(i:Int)<h.old
      ·have N:=NXT.out (fun u=>absurd (IU.out.2 (.inl q1)) u)
       clear NXT NOZ IU
       go_wp2
       exact ⟨⟨i+1,by omega,by go_num,N,trivial⟩,by simp [intOf];omega⟩
      ·by_cases q2:(2000:Int)<=i/\(i:Int)<h.eden
       ·obtain ⟨q2,q3⟩:=q2
        have N:=NXT.out (fun u=>absurd (IU.out.2 (.inr (.inl ⟨by omega,q3⟩))) u)
        clear NXT NOZ IU
        go_wp2
        exact ⟨⟨i+1,by omega,by go_num,N,trivial⟩,by simp [intOf];omega⟩
       ·by_cases q3:(2000:Int)<=i
        ·have q3' : ¬ (i:Int)<h.eden:=fun e=>q2 ⟨q3,e⟩
         clear q2
         by_cases q4:(survB h.flip:Int)<=i
         ·by_cases q5:(i:Int)<h.surv
          ·have N:=NXT.out (fun u=>absurd (IU.out.2 (.inr (.inr ⟨by omega,q5⟩))) u)
           clear NXT NOZ IU
           go_wp2
           exact ⟨⟨i+1,by omega,by go_num,N,trivial⟩,by simp [intOf];omega⟩
          ·have NI:¬ inUse h i:=fun u=>by have:=IU.out.1 u;omega
           by_cases hx:x=0
           ·subst hx
            have N:=NXT.out (fun _=>rfl)
            clear NXT NOZ IU NI
            go_wp2
            exact ⟨⟨i+1,by omega,by go_num,N,trivial⟩,by simp [intOf];omega⟩
           ·have hx' : (x != 0)=true:=by simpa using hx
            have G:=NOZ.out NI hx
            clear NXT NOZ IU NI
            go_wp2
            go_ret
            exact ⟨G,hbw⟩
         ·have NI:¬ inUse h i:=fun u=>by have:=IU.out.1 u;omega
          by_cases hx:x=0
          ·subst hx
           have N:=NXT.out (fun _=>rfl)
           clear NXT NOZ IU NI
           go_wp2
           exact ⟨⟨i+1,by omega,by go_num,N,trivial⟩,by simp [intOf];omega⟩
          ·have hx' : (x != 0)=true:=by simpa using hx
           have G:=NOZ.out NI hx
           clear NXT NOZ IU NI
           go_wp2
           go_ret
           exact ⟨G,hbw⟩
        ·clear q2
         by_cases q4:(survB h.flip:Int)<=i
         ·by_cases q5:(i:Int)<h.surv
          ·have N:=NXT.out (fun u=>absurd (IU.out.2 (.inr (.inr ⟨by omega,q5⟩))) u)
           clear NXT NOZ IU
           go_wp2
           exact ⟨⟨i+1,by omega,by go_num,N,trivial⟩,by simp [intOf];omega⟩
          ·have NI:¬ inUse h i:=fun u=>by have:=IU.out.1 u;omega
           by_cases hx:x=0
           ·subst hx
            have N:=NXT.out (fun _=>rfl)
            clear NXT NOZ IU NI
            go_wp2
            exact ⟨⟨i+1,by omega,by go_num,N,trivial⟩,by simp [intOf];omega⟩
           ·have hx' : (x != 0)=true:=by simpa using hx
            have G:=NOZ.out NI hx
            clear NXT NOZ IU NI
            go_wp2
            go_ret
            exact ⟨G,hbw⟩
         ·have NI:¬ inUse h i:=fun u=>by have:=IU.out.1 u;omega
          by_cases hx:x=0
          ·subst hx
           have N:=NXT.out (fun _=>rfl)
           clear NXT NOZ IU NI
           go_wp2
           exact ⟨⟨i+1,by omega,by go_num,N,trivial⟩,by simp [intOf];omega⟩
          ·have hx' : (x != 0)=true:=by simpa using hx
           have G:=NOZ.out NI hx
           clear NXT NOZ IU NI
           go_wp2
           go_ret
           exact ⟨G,hbw⟩
     ·have HZ:Hid (noughts h):=(fun j hj=>hz.out j (by omega):noughts h)
      have hii:¬ (i:Int)<3200:=by omega
      clear hz
      go_wp2_with fail
      go_loopw [9] (fun kv wr=>∃ k:Nat,k<=l.length/\kv=.int .i64 k/\wr.rowIs w1.heap.size 4 3200 (fun i=>.bool (decide (i ∈ l.take k)))/\Below w1.heap.size w1 wr) (fun kv _=>l.length - (intOf kv).toNat)
      case atStart=>exact ⟨0,Nat.zero_le _,rfl,(made_bools w1).congr (fun i _=>by simp),bel_one _ _⟩
      case round =>
       obtain ⟨k,hk,rfl,hrow,hb2⟩:=hrel
       by_cases hlt:k<l.length
       ·have ca:=cell_later hb2 (IL HIL.out hlt)
        have ho:=(PartsAt.obj HP.out (get_mem l k hlt)).1
        have R:=row_start hrow hlt
        have G:=hb2.setCell (p:=⟨w1.heap.size,l.getD k 0,none⟩) (Nat.le_refl _) (.bool true)
        have hcs:=hrow.cell (i:=l.getD k 0) (by omega)
        have hfz:=hrow.frozen (l.getD k 0)
        generalize l.getD k 0=a at *
        have hai:(a:Int)<3200:=by omega
        clear hrow hb2
        go_wp2
        exact ⟨⟨k+1,by omega,by go_num,R,G⟩,by simp [intOf];omega⟩
       ·obtain rfl:k=l.length:=by omega
        rw [List.take_length] at hrow
        obtain ⟨w3,hw3⟩:∃ w3,w3=wr:=⟨wr,rfl⟩
        obtain rfl:=hw3
        have hbw3:=bel_after hbw hb2
        have ST:Hid (∀ i,i<3200->w3.cell? ⟨w1.heap.size,i,none⟩=some (.bool (decide (i ∈ l)))):=fun i hi=>hrow.cell hi
        have X3:=HX.out.later hb2
        obtain ⟨d0,d1,d2,d3,d4,d5,d6,d7⟩:=id X3
        have L3:Hid (∀ k,k<l.length->w3.cell? ⟨g,k,none⟩=some (.int .i64 ((l.getD k 0:Nat):Int))):=fun k hk=>cell_later hb2 (IL HIL.out hk)
        have W3:Hid (WS w3 b o h.words):=HWS.out.later hb2
        have OB:Hid (∀ a,a ∈ l->a+4<=3200/\nx h.words a<=3200/\headB h.words a=true):=fun a ha=>PartsAt.obj HP.out ha
        have NOB:Hid (¬ ObjsOk h l l.length->OkOut h (.returned (.bool false))):=fun a=>ok_no (fun m k=>a (objs_of HP.out k))
        have R3:Hid (IR w3 (.slice ro h.roots.length rc) h.roots):=HIR.out.later hb2
        have K3:Hid (IR w3 v3 h.kept):=HK.out.later hb2
        have V3:Hid (HR w3 (.agg #[.slice (some ⟨b,o,none⟩) 3200 cap,.slice ro h.roots.length rc,.int .i64 h.old,.int .i64 h.eden,.int .i64 h.surv,.bool h.flip,.int .i64 h.hash,v3]) h):=HHV.out.later hb2
        have LV3:Hid (IR w3 (.slice (some ⟨g,0,none⟩) l.length cp) (ints l)):=HIL.out.later hb2
        clear hrow X3 HX HIL HWS HIR HK HHV c0 c1 c2 c3 c4 c5 c6 c7 hmk D hq hb2
        go_wp2_with fail
        go_loopw [10] (fun kv wr=>∃ k q:Nat,k<=l.length/\kv=.int .i64 k/\Hid (ObjsOk h l k)/\wr=w3.drewN q) (fun kv _=>l.length - (intOf kv).toNat)
        case atStart=>exact ⟨0,0,Nat.zero_le _,rfl,fun j hj=>by omega,rfl⟩
        case round =>
         obtain ⟨k,q,hk,rfl,hobj,rfl⟩:=hrel
         by_cases hlt:k<l.length
         ·have ca:=L3.out k hlt
          obtain ⟨o1,o2,o3⟩:=OB.out _ (get_mem l k hlt)
          have cx:=W3.out (l.getD k 0+2) (by rw [HLN.out];omega)
          have BAD:Hid (¬ ((1<=gw h.words (l.getD k 0+2)/\gw h.words (l.getD k 0+2)<h.hash)/\(∀ i,i<k->gw h.words (l.getD i 0+2) ≠ gw h.words (l.getD k 0+2))/\fieldsFit h.words l (l.getD k 0))->OkOut h (.returned (.bool false))):=fun a=>NOB.out (fun c=>a (c k hlt))
          have GOOD:Hid (((1<=gw h.words (l.getD k 0+2)/\gw h.words (l.getD k 0+2)<h.hash)/\(∀ i,i<k->gw h.words (l.getD i 0+2) ≠ gw h.words (l.getD k 0+2))/\fieldsFit h.words l (l.getD k 0))->ObjsOk h l (k+1)):=fun a=>all_upto hobj.out a
          have c_size:=W3.out (l.getD k 0) (by rw [HLN.out];omega)
          have hsz0:=size_of o3
          obtain ⟨m,hme⟩:=Int.eq_ofNat_of_zero_le hsz0.1
          rw [hme] at c_size
          have hnx:nx h.words (l.getD k 0)=l.getD k 0+4+m:=by unfold nx;rw [hme];rfl
          have FF:Hid (fieldsFit h.words l (l.getD k 0) ↔ ∀ i,i<m->fitB l (gw h.words (l.getD k 0+4+i))=true):=by
           unfold fieldsFit
           rw [hnx]
           constructor
           ·intro z i hi
            exact z _ (by omega) (by omega)
           ·intro z i h1 h2
            have:=z (i - (l.getD k 0+4)) (by omega)
            rwa [show l.getD k 0+4+(i - (l.getD k 0+4))=i from by omega] at this
          have CF:Hid (∀ i,i<m->w3.cell? ⟨b,o+(l.getD k 0+4+i),none⟩=some (.int .i64 (gw h.words (l.getD k 0+4+i)))):=fun i hi=>W3.out _ (by rw [HLN.out];omega)
          have m60:m<=60:=by omega
          rw [hnx] at o2
          clear hme hsz0 hnx o3 hobj
          generalize l.getD k 0=a at *
          generalize gw h.words (a+2)=x at *
          by_cases hx1:x<1
          ·have G:=BAD.out (fun z=>by omega)
           clear BAD GOOD
           go_wp2
           go_ret
           exact ⟨G,below_drewN hbw3 _⟩
          by_cases hx2:h.hash<=x
          ·have G:=BAD.out (fun z=>by omega)
           clear BAD GOOD
           go_wp2
           go_ret
           exact ⟨G,below_drewN hbw3 _⟩
          go_wp2
          go_loopw [13] (fun jv wr=>∃ j q:Nat,j<=k/\jv=.int .i64 j/\Hid (∀ i,i<j->gw h.words (l.getD i 0+2) ≠ x)/\wr=w3.drewN q) (fun jv _=>k - (intOf jv).toNat)
          case atStart=>exact ⟨0,_,Nat.zero_le _,rfl,fun i hi=>by omega,rfl⟩
          case round =>
           obtain ⟨j,q,hj,rfl,hne,rfl⟩:=hrel
           by_cases hjk:j<k
           ·have cj:=L3.out j (by omega)
            obtain ⟨p1,p2,p3⟩:=OB.out _ (get_mem l j (by omega))
            have cy:=W3.out (l.getD j 0+2) (by rw [HLN.out];omega)
            have BAD2:Hid (gw h.words (l.getD j 0+2)=x->OkOut h (.returned (.bool false))):=fun e=>BAD.out (fun z=>z.2.1 j hjk e)
            have NX2:Hid (gw h.words (l.getD j 0+2) ≠ x->∀ i,i<j+1->gw h.words (l.getD i 0+2) ≠ x):=fun e=>all_upto hne.out e
            clear p2 p3 BAD GOOD hne
            generalize l.getD j 0=a2 at *
            generalize gw h.words (a2+2)=y at *
            have hjl:j<l.length:=by omega
            by_cases hyx:y=x
            ·have G:=BAD2.out hyx
             have hyb:(y == x)=true:=by simpa using hyx
             subst hyx
             clear BAD2 NX2
             go_wp2
             go_region
             all_goals go_wp2
             all_goals go_ret
             all_goals exact ⟨G,below_drewN hbw3 _⟩
            ·have N:=NX2.out hyx
             have hyb:(y == x)=false:=by simpa using hyx
             clear BAD2 NX2
             go_wp2
             go_region
             all_goals go_wp2
             all_goals exact ⟨⟨j+1,_,by omega,by go_num,N,rfl⟩,by simp [intOf];omega⟩
           ·obtain rfl:j=k:=by omega
            have HNE:Hid (∀ i,i<j->gw h.words (l.getD i 0+2) ≠ x):=hne.out
            clear hne
            go_wp2
            go_loopw [14] (fun iv wr=>∃ i q:Nat,i<=m/\iv=.int .i64 ((a+4+i:Nat):Int)/\Hid (∀ i',i' < i->fitB l (gw h.words (a+4+i'))=true)/\wr=w3.drewN q) (fun iv _=>a+4+m - (intOf iv).toNat)
            case atStart=>exact ⟨0,_,Nat.zero_le _,by go_num,fun i hi=>by omega,rfl⟩
            case round =>
             obtain ⟨i,q,hi,rfl,hfi,rfl⟩:=hrel
             by_cases him:i<m
             ·have ci:=CF.out i him
              have FT:=fun z W hW=>l5Fits_any w1.heap.size 3200 (fun i=>decide (i ∈ l)) z W hW
              simp only [fit_eq] at FT
              have BAD3:Hid (fitB l (gw h.words (a+4+i))=false->OkOut h (.returned (.bool false))):=fun e=>BAD.out (fun z=>by rw [FF.out.1 z.2.2 i him] at e;cases e)
              have NX3:Hid (fitB l (gw h.words (a+4+i))=true->∀ i',i' < i+1->fitB l (gw h.words (a+4+i'))=true):=fun e=>all_upto hfi.out e
              have SC:Hid (∀ i,i<3200->(w3.drewN q).cell? ⟨w1.heap.size,i,none⟩=some (.bool (decide (i ∈ l)))):=ST.out
              clear hfi
              generalize gw h.words (a+4+i)=y at *
              cases hfy:fitB l y
              ·have G:=BAD3.out hfy
               clear BAD3 NX3 BAD GOOD
               go_wp2_with (go_at_call 90;refine (FT _ _ SC.out).mono ?_;rintro e wq ⟨rfl,rfl⟩;rw [hfy])
               go_ret
               exact ⟨G,below_drewN hbw3 _⟩
              ·have N:=NX3.out hfy
               clear BAD3 NX3 BAD GOOD
               go_wp2_with (go_at_call 90;refine (FT _ _ SC.out).mono ?_;rintro e wq ⟨rfl,rfl⟩;rw [hfy])
               exact ⟨⟨i+1,_,by omega,by go_num,N,rfl⟩,by simp [intOf];omega⟩
             ·obtain rfl:i=m:=by omega
              have N:=GOOD.out ⟨by omega,HNE.out,FF.out.2 hfi.out⟩
              clear BAD GOOD hfi
              go_wp2
              go_roundw
              case rel=>exact ⟨j+1,_,by omega,by go_num,N,rfl⟩
              case measure=>simp [intOf];omega
         ·obtain rfl:k=l.length:=by omega
          have HOB:Hid (ObjsOk h l l.length):=hobj.out
          clear hobj
          go_wp2
          go_loopw [15] (fun kv wr=>∃ k q:Nat,k<=h.roots.length/\kv=.int .i64 k/\Hid (∀ j,j<k->fitB l (h.roots.getD j 0)=true)/\wr=w3.drewN q) (fun kv _=>h.roots.length - (intOf kv).toNat)
          case atStart=>exact ⟨0,_,Nat.zero_le _,rfl,fun i hi=>by omega,rfl⟩
          case round =>
           obtain ⟨k,q,hk,rfl,hfk,rfl⟩:=hrel
           by_cases hkr:k<h.roots.length
           ·obtain ⟨r1,r2,re,_,rcell⟩:=id R3.out
            obtain ⟨b9,o9,e9,hc9⟩:=rcell k hkr
            simp only [Value.slice.injEq] at re
            obtain ⟨re1,-,-⟩:=re
            rw [e9] at re1
            subst re1
            have FT:=fun z W hW=>l5Fits_any w1.heap.size 3200 (fun i=>decide (i ∈ l)) z W hW
            simp only [fit_eq] at FT
            have SC:Hid (∀ i,i<3200->(w3.drewN q).cell? ⟨w1.heap.size,i,none⟩=some (.bool (decide (i ∈ l)))):=ST.out
            have BAD3:Hid (fitB l (h.roots.getD k 0)=false->OkOut h (.returned (.bool false))):=fun e=>ok_no (fun m z=>by
             have zz:=z.2.2.2.2.2.2.1 (h.roots.getD k 0) (by simp [hkr])
             rw [<- HP.out.eq z.1,e] at zz
             cases zz)
            have NX3:Hid (fitB l (h.roots.getD k 0)=true->∀ j,j<k+1->fitB l (h.roots.getD j 0)=true):=fun e=>all_upto hfk.out e
            generalize h.roots.getD k 0=y at *
            clear hfk rcell e9
            cases hfy:fitB l y
            ·have G:=BAD3.out hfy
             clear BAD3 NX3
             go_wp2_with (go_at_call 90;refine (FT _ _ SC.out).mono ?_;rintro e wq ⟨rfl,rfl⟩;rw [hfy])
             go_ret
             exact ⟨G,below_drewN hbw3 _⟩
            ·have N:=NX3.out hfy
             clear BAD3 NX3
             go_wp2_with (go_at_call 90;refine (FT _ _ SC.out).mono ?_;rintro e wq ⟨rfl,rfl⟩;rw [hfy])
             exact ⟨⟨k+1,_,by omega,by go_num,N,rfl⟩,by simp [intOf];omega⟩
           ·obtain rfl:k=h.roots.length:=by omega
            have HF:Hid (∀ j,j<h.roots.length->fitB l (h.roots.getD j 0)=true):=hfk.out
            have FFl:∀ a,a ∈ l->fieldsFit h.words l a:=fun a ha=>by
             obtain ⟨j,hj,e⟩:=List.getElem_of_mem ha
             have:=(HOB.out j hj).2.2
             simpa [hj,e] using this
            have YR:∀ a,a ∈ l->∀ x,x ∈ flds h.words a -> -4611686018427387904<=x.tdiv 2/\x.tdiv 2<=4611686018427387904:=fun a ha x hx=>half_le (fit_kind ((fld_mem (W:=h.words) (a:=a) (p:=fitB l)).2 (FFl a ha) x hx))
            have KE:=kept_eq FFl
            have DONE:Hid (∀ ok:Bool,ok=decide (ints (keptS h.words l)=h.kept)->OkOut h (.returned (.bool ok))):=fun ok e=>by
             rw [KE] at e
             by_cases kk:keptOf h.words l=h.kept
             ·rw [decide_eq_true kk] at e
              subst e
              exact ok_yes (right_of HP.out HZ.out hh HOB.out hr HF.out kk)
             ·rw [decide_eq_false kk] at e
              subst e
              exact ok_no (fun m z=>kk (by have:=z.2.2.2.2.2.2.2.2;rw [HP.out.eq z.1];exact this))
            have KC:∀ W,Below w3.heap.size w3 W->Calls Tryz.prog 92 #[.agg #[.slice (some ⟨b,o,none⟩) 3200 cap,.slice ro h.roots.length rc,.int .i64 h.old,.int .i64 h.eden,.int .i64 h.surv,.bool h.flip,.int .i64 h.hash,v3],.slice (some ⟨g,0,none⟩) l.length cp] W fun x w'=>(∃ v',x=.returned v' /\ IR w' v' (ints (keptS h.words l)))/\Below W.heap.size W w':=fun W hb=>l5Kept_any _ _ h l _ (V3.out.later hb) (LV3.out.later hb) HLN.out hl OB.out YR
            have hkl:(ints (keptS h.words l)).length<=1000000000000:=by
             rw [ints_length]
             have:=List.length_filter_le (fun a=>decide (a<2000) && hasYS h.words a) l
             unfold keptS
             omega
            have hbd:=below_drewN hbw3 q
            clear hfk KE YR FFl
            generalize keptS h.words l=ks at *
            obtain ⟨ka,kcap,rfl,hkc⟩:∃ ka kcap,v3=.slice ka h.kept.length kcap/\True:=by obtain ⟨ka,kcap,e,_⟩:=K3.out;exact ⟨ka,kcap,e,trivial⟩
            go_wp2_with fail
            go_region_held3 (fun w'=>Below w3.heap.size w3 w' /\ w'.cell? ⟨w.heap.size,0,none⟩=some (.slice (some ⟨b,o,none⟩) 3200 cap)/\w'.cell? ⟨w.heap.size,1,none⟩=some (.slice ro h.roots.length rc)/\w'.cell? ⟨w.heap.size,2,none⟩=some (.int .i64 h.old)/\w'.cell? ⟨w.heap.size,3,none⟩=some (.int .i64 h.eden)/\w'.cell? ⟨w.heap.size,4,none⟩=some (.int .i64 h.surv)/\w'.cell? ⟨w.heap.size,5,none⟩=some (.bool h.flip)/\w'.cell? ⟨w.heap.size,6,none⟩=some (.int .i64 h.hash)/\w'.cell? ⟨w.heap.size,7,none⟩=some (.slice ka h.kept.length kcap))
             (first|assumption|exact ⟨(below_drewN (Below.refl _ _) q).drew,d0,d1,d2,d3,d4,d5,d6,d7⟩|exact keep8 (by assumption) (by assumption))
             (first
              | (go_at_call 92;refine (KC _ (And.left (by assumption))).mono ?_;rintro x w5 ⟨⟨v5,rfl,hk5⟩,hb5⟩)
              | (go_at_call 91;refine (l5Same_any _ _ _ h.kept _ hk5 (K3.out.later (And.left (by assumption))) (by omega) (by omega)).mono ?_;rintro x w6 ⟨rfl,hb6⟩))
            all_goals go_wp2_with fail
            all_goals go_ret
            all_goals exact ⟨DONE.out _ rfl,bel_after hbw3 (bel_after (bel_after (below_drewN (Below.refl _ _) q).drew hb5) hb6)⟩
   ·have hri:(20:Int)<(h.roots.length:Int):=by omega
    have G:=ok_no (h:=h) (fun m k=>hr k.2.2.2.2.2.1)
    go_wp2_with (first|(go_at_call 80;refine (wl1In_any _ _ _ _).mono ?_;rintro x w' ⟨rfl,rfl⟩;rw [D])|(go_at_call 89;refine (l5Surv_any _ _).mono ?_;rintro x w' ⟨rfl,rfl⟩))
    go_ret
    exact ⟨G,hbw⟩
  ·have D:=decide_eq_false hh
   have G:=ok_no (h:=h) (fun m k=>hh k.2.2.1)
   go_wp2_with (first|(go_at_call 80;refine (wl1In_any _ _ _ _).mono ?_;rintro x w' ⟨rfl,rfl⟩;rw [D])|(go_at_call 89;refine (l5Surv_any _ _).mono ?_;rintro x w' ⟨rfl,rfl⟩))
   go_ret
   exact ⟨G,hbw⟩
end Go.Proofs.YtgnbibinclepcaaGreatDoor
