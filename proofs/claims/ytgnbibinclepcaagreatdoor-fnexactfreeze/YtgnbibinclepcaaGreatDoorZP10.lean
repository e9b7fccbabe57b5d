
import Derived.Test.YtgnbibinclepcaaGreatDoorZP9
import Derived.Test.YtgnbibinclepcaaGreatDoorZHImpL
import Derived.Test.YtgnbibinclepcaaGreatDoorZP7
/- rightObjects, HeapOk and Objects of the program. -/
namespace Go.Proofs.YtgnbibinclepcaaGreatDoor
open Go.RowKit
set_option maxHeartbeats 400000 in
theorem equal_any (v u:Value) (ss tt:List Int) (w:World) (hv:IR w v ss) (hu:IR w u tt) (h1:ss.length<=1000000000000000) (_h2:tt.length<=1000000000000000) :
  Calls Tryz.prog 133 #[v,u] w fun e w'=>e=.returned (.bool (decide (ss=tt)))/\Below w.heap.size w w':=by
 obtain ⟨ao,cap,rfl,_,hv⟩:=hv
 obtain ⟨bo,cbp,rfl,_,hu⟩:=hu
 by_cases hl:ss.length=tt.length
 ·have hl' : ((ss.length:Int) != (tt.length:Int))=false:=by simp [hl]
  have HL:Hid (ss.length=tt.length):=hl
  go_enter Tryz.func133,Tryz.ntmps133
  go_wp2
  go_loopw [13] (fun a wr=>∃ (k:Nat),a=.int .i64 k/\k<=ss.length/\Hid (∀ j,j<k->ss.getD j 0=tt.getD j 0)/\∃ n,wr=w.drewN n) (fun a _=>(ss.length - (intOf a).toNat))
  case atStart=>exact ⟨0,rfl,Nat.zero_le _,fun j hj=>absurd hj (by omega),0,rfl⟩
  case round =>
   obtain ⟨k,rfl,hk,hj,n,rfl⟩:=hrel
   by_cases hlt:k<ss.length
   ·obtain ⟨b,o,rfl,hc⟩:=hv k hlt
    obtain ⟨b',o',rfl,hc'⟩:=hu k (by omega)
    have hlt' : k<tt.length:=by omega
    generalize hs:ss.getD k 0=s at *
    generalize ht:tt.getD k 0=t at *
    have HS:Hid (ss.getD k 0=s):=hs
    have HT:Hid (tt.getD k 0=t):=ht
    clear hs ht hv hu hl
    go_wp2
    go_region
    all_goals go_wp2
    ·have hne:s ≠ t:=by simpa using ‹(s != t)=true›
     go_ret
     exact ⟨ret_bool (decide_eq_false (fun e=>hne (by rw [<- HS.out,← HT.out,e]))).symm,below_drewN (Below.refl _ _) _⟩
    ·have he:s=t:=by simpa using ‹(s != t)=false›
     go_roundw
     case rel=>exact ⟨k+1,by go_num,by omega,all_upto hj.out (by rw [HS.out,HT.out,he]),_,rfl⟩
     case measure=>simp [intOf];omega
   ·go_wp2
    go_ret
    exact ⟨ret_bool (decide_eq_true (ilists_eq hl (fun j hj'=>hj.out j (by omega)))).symm,below_drewN (Below.refl _ _) _⟩
 ·have hl' : ((ss.length:Int) != (tt.length:Int))=true:=by simp;omega
  go_enter Tryz.func133,Tryz.ntmps133
  go_wp2
  go_ret
  exact ⟨ret_bool (decide_eq_false (fun e=>hl (by rw [e]))).symm,Below.refl _ _⟩
theorem wf_iff {h:Hp} {l:List Nat}:wfB h l=true ↔ (h.roots.length<=20/\(∀ x,x ∈ h.roots->fitB l x=true)/\(∀ a,a ∈ l->fieldsFit h.words l a)):=by
 unfold wfB objsFit
 simp only [Bool.and_eq_true,decide_eq_true_eq,List.all_eq_true]
 constructor
 ·rintro ⟨a,b,c⟩
  exact ⟨a,b,fun x hx=>(fld_mem (W:=h.words) (a:=x) (p:=fitB l)).1 (c x hx)⟩
 ·rintro ⟨a,b,c⟩
  exact ⟨a,b,fun x hx=>(fld_mem (W:=h.words) (a:=x) (p:=fitB l)).2 (c x hx)⟩
def RightOut (h:Hp) (B:Nat) (x:Ending) (w' : World):Prop :=
 (∃ l v',x=.returned (.tuple #[v',.bool true])/\w'.ownsRow B 2 1 v' l.length (icells (ints l))/\RightAt h l/\l.length<=3200) ∨ (x=.returned (.tuple #[.slice none 0 0,.bool false])/\∀ l,¬ RightAt h l)
theorem keepB {W a b:World} {N:Nat} {u0 u7:Value} (k:Below a.heap.size a b) (h:Below W.heap.size W a/\a.cell? ⟨N,0,none⟩=some u0/\a.cell? ⟨N,7,none⟩=some u7) :
  Below W.heap.size W b/\b.cell? ⟨N,0,none⟩=some u0/\b.cell? ⟨N,7,none⟩=some u7:=⟨bel_after h.1 k,cell_later k h.2.1,cell_later k h.2.2⟩
set_option maxRecDepth 100000 in
set_option maxHeartbeats 3200000 in
theorem rightObjects_any (v:Value) (h:Hp) (w:World) (hv:HR w v h) (hro:h.roots.length<=1000000000000) (hke:h.kept.length<=1000000000000) :
  Calls Tryz.prog 94 #[v] w fun x w'=>RightOut h w.heap.size x w' /\ Below w.heap.size w w':=by
 obtain ⟨v1,v2,v3,rfl,i1,i2,i3⟩:=id hv
 have hb0:=bel_one w (.cells #[v1,v2,.int .i64 h.old,.int .i64 h.eden,.int .i64 h.surv,.bool h.flip,.int .i64 h.hash,v3] 26)
 have X0:=Bx.new w v1 v2 v3 h 26
 have hv0:=hv.later hb0
 by_cases hlen:h.words.length=3200
 ·have LO:=laidObjects_any _ h _ hv0 hlen
  have RI:=fun l=>right_iff (h:=h) (l:=l) hlen
  obtain ⟨b,o,cap,rfl,hcap,hW⟩:=i1.ws (by omega)
  simp only [hlen] at hb0 X0 hv hv0 hcap LO ⊢
  have HLN:Hid (h.words.length=3200):=hlen
  clear hlen i1
  go_enter Tryz.func94,Tryz.ntmps94
  go_wp2_with fail
  refine LO.mono ?_
  rintro x w1 ⟨hlo,hb1⟩
  have hbw1:=bel_after hb0 hb1
  have X1:=X0.later hb1
  have hv1:=hv0.later hb1
  clear LO X0 hv0
  rcases hlo with ⟨l,ov,hl,rfl,hown,hla⟩|⟨rfl,hno⟩
  ·have SO:=hla.sorted
   have OB:∀ a,a ∈ l->a+4<=3200/\nx h.words a<=3200/\objB h.words a=true:=fun a ha=>hla.obj ha
   have hov:=IR_of_owns' hown
   have HOk:=hashesOk_any _ _ h l _ hv1 hov hl HLN.out (fun a ha=>(OB a ha).1)
   obtain ⟨oa,oc,rfl,-⟩:=intsI hov
   obtain ⟨c0,c1,c2,c3,c4,c5,c6,c7⟩:=id X1
   have HLA:Hid (LaidAt h l):=hla
   have HRI:Hid (∀ m,RightAt h m->m=l):=fun m k=>by
    have:=(laid_iff HLN.out).1 hla
    exact k.1.eq this.1
   clear hla hv
   go_wp2_with fail
   refine HOk.mono ?_
   rintro x w2 ⟨⟨ok,rfl,hok⟩,hb2⟩
   have hbw2:=bel_after hbw1 hb2
   have X2:=X1.later hb2
   have hv2:=hv1.later hb2
   have hov2:=hov.later hb2
   have hown2:=own_mono (own_later hown hb2) hb0.size
   clear HOk X1 hv1 hov hown c0 c1 c2 c3 c4 c5 c6 c7
   cases ok
   ·have G:Hid (∀ m,¬ RightAt h m):=fun m k=>by
     have e:=HRI.out m k
     subst e
     have:=((RI m).1 k).2.1
     exact absurd (hok.2 this) (by simp)
    clear RI hok
    go_wp2
    exact bodyPost_ret (v:=.tuple #[.slice none 0 0,.bool false]) (by simp [results,Tryz.results94,go_sem]) rfl ⟨.inr ⟨rfl,G.out⟩,hbw2⟩
   ·have HO:Hid (hoP h l):=hok.1 rfl
    have WF:=wordsFit_any _ _ h l _ hv2 hov2 SO hl HLN.out hro OB
    obtain ⟨c0,c1,c2,c3,c4,c5,c6,c7⟩:=id X2
    clear hok
    go_wp2_with fail
    refine WF.mono ?_
    rintro x w3 ⟨rfl,hb3⟩
    have hbw3:=bel_after hbw2 hb3
    have X3:=X2.later hb3
    have hov3:=hov2.later hb3
    have hown3:=own_later hown2 hb3
    have hW3:=hW.later hbw3
    clear WF X2 hv2 hov2 hown2 c0 c1 c2 c3 c4 c5 c6 c7
    cases hwf:wfB h l
    ·have G:Hid (∀ m,¬ RightAt h m):=fun m k=>by
      have e:=HRI.out m k
      subst e
      have:=wf_iff.2 ((RI m).1 k).2.2.1
      rw [hwf] at this
      cases this
     clear RI hwf
     go_wp2
     exact bodyPost_ret (v:=.tuple #[.slice none 0 0,.bool false]) (by simp [results,Tryz.results94,go_sem]) rfl ⟨.inr ⟨rfl,G.out⟩,hbw3⟩
    ·have HWF:=wf_iff.1 hwf
     have DONE:Hid (RightAt h l ↔ h.kept=keptOf h.words l):=(by
      rw [RI l]
      exact ⟨fun k=>k.2.2.2.symm,fun k=>⟨HLA.out,HO.out,HWF,k.symm⟩⟩:RightAt h l ↔ h.kept=keptOf h.words l)
     have KO:=fun W hb=>keptObjects_any b o cap _ h.words l W (hW3.later hb) HLN.out hcap (hov3.later hb) hl OB
     have K3:Hid (IR w3 v3 h.kept):=i3.later hbw3
     have hkl:(keptOf h.words l).length<=3200:=by
      unfold keptOf
      rw [ints_length]
      have:=List.length_filter_le (fun a=>decide (a<2000) && hasY h.words a) l
      omega
     obtain ⟨ka,kcap,rfl⟩:=i3.shape
     obtain ⟨c0,c1,c2,c3,c4,c5,c6,c7⟩:=id X3
     clear RI hwf HWF X3 c1 c2 c3 c4 c5 c6 i2 i3 hW hW3 hov3
     generalize keptOf h.words l=ks at *
     go_wp2_with fail
     go_region_held3 (fun w'=>Below w3.heap.size w3 w' /\ w'.cell? ⟨w.heap.size,0,none⟩=some (.slice (some ⟨b,o,none⟩) 3200 cap)/\w'.cell? ⟨w.heap.size,7,none⟩=some (.slice ka h.kept.length kcap))
      (first|assumption|exact ⟨(Below.refl _ _).drew,c0,c7⟩|exact keepB (by assumption) (by assumption))
      (first
       | (go_at_call 134;refine (KO _ (And.left (by assumption))).mono ?_;rintro x w5 ⟨⟨v5,rfl,hk5⟩,hb5⟩)
       | (go_at_call 133;refine (equal_any _ _ h.kept _ _ (K3.out.later (And.left (by assumption))) hk5 (by omega) (by omega)).mono ?_;rintro x w6 ⟨rfl,hb6⟩))
     have hbx:Below w3.heap.size w3 w6:=bel_after (bel_after (Below.refl _ _).drew hb5) hb6
     by_cases hkk:h.kept=ks
     ·have D:=decide_eq_true hkk
      have G:=DONE.out.2 hkk
      have ow:=own_later hown3 hbx
      clear DONE hkk
      rw [D]
      go_wp2
      exact bodyPost_ret (v:=.tuple #[.slice oa l.length oc,.bool true]) (by simp [results,Tryz.results94,go_sem]) rfl ⟨.inl ⟨l,_,rfl,ow,G,hl⟩,bel_after hbw3 hbx⟩
     ·have D:=decide_eq_false hkk
      have G:Hid (∀ m,¬ RightAt h m):=fun m k=>by
       have e:=HRI.out m k
       subst e
       exact hkk (DONE.out.1 k)
      clear DONE hkk
      rw [D]
      go_wp2
      exact bodyPost_ret (v:=.tuple #[.slice none 0 0,.bool false]) (by simp [results,Tryz.results94,go_sem]) rfl ⟨.inr ⟨rfl,G.out⟩,bel_after hbw3 hbx⟩
  ·have G:Hid (∀ m,¬ RightAt h m):=fun m k=>hno m ((RI m).1 k).1
   clear RI hno hv hv1
   go_wp2
   exact bodyPost_ret (v:=.tuple #[.slice none 0 0,.bool false]) (by simp [results,Tryz.results94,go_sem]) rfl ⟨.inr ⟨rfl,G.out⟩,hbw1⟩
 ·have hl' : ((h.words.length:Int) != 3200)=true:=by simp;omega
  have G:Hid (∀ m,¬ RightAt h m):=fun m k=>hlen k.1.1
  obtain ⟨a,c,rfl⟩:=i1.shape
  clear hv hv0 X0 i1 i2 i3 hlen
  go_enter Tryz.func94,Tryz.ntmps94
  go_wp2
  exact bodyPost_ret (v:=.tuple #[.slice none 0 0,.bool false]) (by simp [results,Tryz.results94,go_sem]) rfl ⟨.inr ⟨rfl,G.out⟩,hb0⟩
end Go.Proofs.YtgnbibinclepcaaGreatDoor
/- l5All, l5Fits, l5Young, l5Same and l5Kept of the model. -/
namespace Go.Proofs.YtgnbibinclepcaaGreatDoor
open Go.RowKit
def fitS (f:Nat->Bool) (x:Int):Bool:=wokB x && (decide (x % 2=0) || f (x / 2).toNat)
def youngS (x:Int):Bool:=!(x.tmod 2 == 0) && decide (2000<=x.tdiv 2)
def hasYS (W:List Int) (a:Nat):Bool:=(flds W a).any youngS
def keptS (W:List Int) (l:List Nat):List Nat:=l.filter fun a=>decide (a<2000) && hasYS W a
theorem kind_even {x:Int} (h:x % 2=0):kindW x=if numB (x / 2)=true then 1 else 0:=by
 unfold kindW;rw [if_neg (by omega)]
theorem kind_odd {x:Int} (h:¬ x % 2=0):kindW x=if adrB (x / 2)=true then 2 else 0:=by
 unfold kindW;rw [if_pos (by omega)]
theorem fit_eq (l:List Nat) (x:Int):fitS (fun i=>decide (i ∈ l)) x=fitB l x:=by
 unfold fitS fitB wokB
 by_cases h:x % 2=0
 ·rw [kind_even h,decide_eq_true h]
  split <;> simp
 ·rw [kind_odd h,decide_eq_false h]
  split
  ·rename_i ha
   have hx:0<=x / 2:=(of_decide_eq_true ha).1
   obtain ⟨m,hm⟩:=Int.eq_ofNat_of_zero_le hx
   rw [hm]
   simp [ints]
   exact ⟨fun h=>⟨m,h,rfl⟩,fun ⟨a,h,e⟩=>by obtain rfl:a=m:=(by omega);exact h⟩
  ·simp
theorem young_eq {x:Int} (h:¬ kindW x=0):youngS x=youngB x:=by
 unfold youngS youngB
 rw [tmod_two]
 by_cases e:x % 2=0
 ·rw [decide_eq_true e,kind_even e]
  split <;> simp
 ·rw [kind_odd e] at h
  split at h
  ·rename_i ha
   have hx:=of_decide_eq_true ha
   rw [decide_eq_false e,kind_odd e,if_pos ha,Int.tdiv_eq_ediv_of_nonneg (by omega)]
   simp
  ·exact absurd rfl h
theorem fit_kind {l:List Nat} {x:Int} (h:fitB l x=true):¬ kindW x=0:=by
 intro e
 unfold fitB at h
 rw [e] at h
 simp at h
theorem kept_eq {W:List Int} {l:List Nat} (h:∀ a,a ∈ l->fieldsFit W l a):ints (keptS W l)=keptOf W l:=by
 unfold keptS keptOf
 congr 1
 apply List.filter_congr
 intro a ha
 congr 1
 unfold hasYS hasY
 have hf:=(fld_mem (W:=W) (a:=a) (p:=fitB l)).2 (h a ha)
 revert hf
 generalize flds W a=fs
 intro hf
 induction fs with
 | nil=>rfl
 | cons x r ih =>
  simp only [List.any_cons]
  rw [young_eq (fit_kind (hf x (by simp))),ih (fun y hy=>hf y (by simp [hy]))]
theorem l5Fits_any (b c:Nat) (f:Nat->Bool) (x:Int) (w:World) (hf:∀ i,i<3200->w.cell? ⟨b,i,none⟩=some (.bool (f i))) :
  Calls Tryz.prog 90 #[.slice (some ⟨b,0,none⟩) 3200 c,.int .i64 x] w fun e w'=>e=.returned (.bool (fitS f x))/\w' = w:=by
 have T:=tmod_two x
 by_cases hw:wokB x=true
 ·by_cases h2:x % 2=0
  ·have G:Hid (fitS f x=true):=(by unfold fitS;rw [hw,decide_eq_true h2];rfl:fitS f x=true)
   rw [decide_eq_true h2] at T
   clear h2
   go_enter Tryz.func90,Tryz.ntmps90
   go_wp2_with (go_at_call 128;refine (specWordOk_any _ _).mono ?_;rintro e w' ⟨rfl,rfl⟩;rw [hw])
   go_ret
   exact ⟨wret_bool G.out.symm,rfl⟩
  ·have G:Hid (fitS f x=f (x / 2).toNat):=(by unfold fitS;rw [hw,decide_eq_false h2];rfl:fitS f x=f (x / 2).toNat)
   rw [decide_eq_false h2] at T
   have hr:1<=x/\x<=6399:=by
    have:=wok_odd h2
    rw [hw] at this
    exact of_decide_eq_true this.symm
   have hc:=hf (x / 2).toNat (by omega)
   have ht:x.tdiv 2=x / 2:=Int.tdiv_eq_ediv_of_nonneg (by omega)
   obtain ⟨m,hm⟩:=Int.eq_ofNat_of_zero_le (show 0<=x / 2 by omega)
   rw [hm] at hc ht G
   rw [Int.toNat_natCast] at hc G
   have hm2:m<3200:=by omega
   have hmi:(m:Int)<3200:=by omega
   clear h2 hm hf hr
   go_enter Tryz.func90,Tryz.ntmps90
   go_wp2_with (go_at_call 128;refine (specWordOk_any _ _).mono ?_;rintro e w' ⟨rfl,rfl⟩;rw [hw])
   go_ret
   exact ⟨wret_bool G.out.symm,rfl⟩
 ·have hw' : wokB x=false:=by simpa using hw
  have G:Hid (fitS f x=false):=(by unfold fitS;rw [hw'];rfl:fitS f x=false)
  clear hw
  go_enter Tryz.func90,Tryz.ntmps90
  go_wp2_with (go_at_call 128;refine (specWordOk_any _ _).mono ?_;rintro e w' ⟨rfl,rfl⟩;rw [hw'])
  go_ret
  exact ⟨wret_bool G.out.symm,rfl⟩
theorem half_le {x:Int} (h:¬ kindW x=0) : -4611686018427387904<=x.tdiv 2/\x.tdiv 2<=4611686018427387904:=by
 by_cases e:x % 2=0
 ·rw [kind_even e] at h
  split at h
  ·rename_i ha
   have hx:=of_decide_eq_true ha
   rw [tdiv_even e]
   omega
  ·exact absurd rfl h
 ·rw [kind_odd e] at h
  split at h
  ·rename_i ha
   have hx:=of_decide_eq_true ha
   rw [Int.tdiv_eq_ediv_of_nonneg (by omega)]
   omega
  ·exact absurd rfl h
theorem l5Young_any (x:Int) (w:World) (hr : -4611686018427387904<=x.tdiv 2/\x.tdiv 2<=4611686018427387904):Calls Tryz.prog 129 #[.int .i64 x] w fun e w'=>e=.returned (.bool (youngS x))/\w' = w:=by
 obtain ⟨r1,r2⟩:=hr
 have T:(x.tmod 2 != 0) = !(x.tmod 2 == 0):=rfl
 cases hx:(x.tmod 2 == 0)
 ·rw [hx] at T
  have G:Hid (youngS x=decide (2000<=x.tdiv 2)):=(by unfold youngS;rw [hx];rfl:youngS x=decide (2000<=x.tdiv 2))
  clear hx
  go_enter Tryz.func129,Tryz.ntmps129
  go_wp2
  go_ret
  exact ⟨wret_bool (by rw [G.out]),rfl⟩
 ·rw [hx] at T
  have G:Hid (youngS x=false):=(by unfold youngS;rw [hx];rfl:youngS x=false)
  clear hx
  go_enter Tryz.func129,Tryz.ntmps129
  go_wp2
  go_ret
  exact ⟨wret_bool (by rw [G.out]),rfl⟩
end Go.Proofs.YtgnbibinclepcaaGreatDoor
/- l5Same and l5Kept of the model. -/
namespace Go.Proofs.YtgnbibinclepcaaGreatDoor
open Go.RowKit
set_option maxHeartbeats 400000 in
theorem l5Same_any (v u:Value) (ss tt:List Int) (w:World) (hv:IR w v ss) (hu:IR w u tt) (h1:ss.length<=1000000000000000) (_h2:tt.length<=1000000000000000) :
  Calls Tryz.prog 91 #[v,u] w fun e w'=>e=.returned (.bool (decide (ss=tt)))/\Below w.heap.size w w':=by
 obtain ⟨ao,cap,rfl,_,hv⟩:=hv
 obtain ⟨bo,cbp,rfl,_,hu⟩:=hu
 by_cases hl:ss.length=tt.length
 ·have hl' : ((ss.length:Int) != (tt.length:Int))=false:=by simp [hl]
  have HL:Hid (ss.length=tt.length):=hl
  go_enter Tryz.func91,Tryz.ntmps91
  go_wp2
  go_loopw [5] (fun a wr=>∃ (k:Nat),a=.int .i64 k/\k<=ss.length/\Hid (∀ j,j<k->ss.getD j 0=tt.getD j 0)/\∃ n,wr=w.drewN n) (fun a _=>(ss.length - (intOf a).toNat))
  case atStart=>exact ⟨0,rfl,Nat.zero_le _,fun j hj=>absurd hj (by omega),0,rfl⟩
  case round =>
   obtain ⟨k,rfl,hk,hj,n,rfl⟩:=hrel
   by_cases hlt:k<ss.length
   ·obtain ⟨b,o,rfl,hc⟩:=hv k hlt
    obtain ⟨b',o',rfl,hc'⟩:=hu k (by omega)
    have hlt' : k<tt.length:=by omega
    generalize hs:ss.getD k 0=s at *
    generalize ht:tt.getD k 0=t at *
    have HS:Hid (ss.getD k 0=s):=hs
    have HT:Hid (tt.getD k 0=t):=ht
    clear hs ht hv hu hl
    go_wp2
    go_region
    all_goals go_wp2
    ·have hne:s ≠ t:=by simpa using ‹(s != t)=true›
     go_ret
     exact ⟨ret_bool (decide_eq_false (fun e=>hne (by rw [<- HS.out,← HT.out,e]))).symm,below_drewN (Below.refl _ _) _⟩
    ·have he:s=t:=by simpa using ‹(s != t)=false›
     go_roundw
     case rel=>exact ⟨k+1,by go_num,by omega,all_upto hj.out (by rw [HS.out,HT.out,he]),_,rfl⟩
     case measure=>simp [intOf];omega
   ·go_wp2
    go_ret
    exact ⟨ret_bool (decide_eq_true (ilists_eq hl (fun j hj'=>hj.out j (by omega)))).symm,below_drewN (Below.refl _ _) _⟩
 ·have hl' : ((ss.length:Int) != (tt.length:Int))=true:=by simp;omega
  go_enter Tryz.func91,Tryz.ntmps91
  go_wp2
  go_ret
  exact ⟨ret_bool (decide_eq_false (fun e=>hl (by rw [e]))).symm,Below.refl _ _⟩
theorem flds_take {W:List Int} {a j m:Nat} (hm:(gw W a).toNat=m) (hj:j<m):(flds W a).take (j+1)=(flds W a).take j ++ [gw W (a+4+j)]:=by
 have hl:j<(flds W a).length:=by simp [flds];omega
 rw [List.take_add_one,List.getElem?_eq_getElem hl]
 simp [flds]
theorem flds_all {W:List Int} {a m:Nat} (hm:(gw W a).toNat=m):(flds W a).take m=flds W a:=by
 apply List.take_of_length_le
 simp [flds]
 omega
theorem keptS_snoc (W:List Int) (l:List Nat) (a:Nat):keptS W (l ++ [a])=if (decide (a<2000) && hasYS W a)=true then keptS W l ++ [a] else keptS W l:=by
 unfold keptS
 rw [List.filter_append]
 by_cases h:(decide (a<2000) && hasYS W a)=true
 ·rw [if_pos h];congr 1;simp only [List.filter_cons,h,if_true,List.filter_nil]
 ·rw [if_neg h];simp only [List.filter_cons,h,if_false,List.filter_nil,Bool.false_eq_true,List.append_nil]
theorem take_snoc' {α:Type} [Inhabited α] (l:List α) (k:Nat) (d:α) (h:k<l.length):l.take (k+1)=l.take k ++ [l.getD k d]:=by
 rw [List.take_add_one,List.getElem?_eq_getElem h]
 simp [h]
theorem ints_get (l:List Nat) (k:Nat) (h:k<l.length):(ints l).getD k 0=((l.getD k 0:Nat):Int):=by
 simp [ints,h]
theorem get_mem (l:List Nat) (k:Nat) (h:k<l.length):l.getD k 0 ∈ l:=by
 simp [h]
theorem own_low {w:World} {B e size n b:Nat} {v:Value} {xs:List Value} (h:w.ownsRow B e size v n xs) (hk:v.ownBlock=some b):B<=b:=by
 rcases h.2 with ⟨rfl,_⟩|⟨g,cap,cur,rfl,hg,_⟩
 ·cases hk
 ·cases hk;exact hg
set_option maxRecDepth 100000 in
set_option maxHeartbeats 3200000 in
theorem l5Kept_any (v lv:Value) (h:Hp) (l:List Nat) (w:World) (hv:HR w v h) (hlv:IR w lv (ints l)) (hlen:h.words.length=3200) (hl:l.length<=3200)
  (hobj:∀ a,a ∈ l->a+4<=3200/\nx h.words a<=3200/\headB h.words a=true) (hy:∀ a,a ∈ l->∀ x,x ∈ flds h.words a -> -4611686018427387904<=x.tdiv 2/\x.tdiv 2<=4611686018427387904) :
  Calls Tryz.prog 92 #[v,lv] w fun x w'=>(∃ v',x=.returned v' /\ IR w' v' (ints (keptS h.words l)))/\Below w.heap.size w w':=by
 obtain ⟨v1,v2,v3,rfl,i1,i2,i3⟩:=hv
 obtain ⟨b,o,cap,rfl,_,hW⟩:=i1.ws (by omega)
 rw [hlen]
 have HLN:Hid (h.words.length=3200):=hlen
 obtain ⟨ao,lcap,rfl,_,hc⟩:=hlv
 rw [ints_length] at hc ⊢
 have X0:=Bx.new w (.slice (some ⟨b,o,none⟩) 3200 cap) v2 v3 h 26
 have hb0:=bel_one w (.cells #[.slice (some ⟨b,o,none⟩) 3200 cap,v2,.int .i64 h.old,.int .i64 h.eden,.int .i64 h.surv,.bool h.flip,.int .i64 h.hash,v3] 26)
 have hb1:=bel_after hb0 (bel_one _ (.cells #[] 2))
 have ho0:((w.alloc (.cells #[.slice (some ⟨b,o,none⟩) 3200 cap,v2,.int .i64 h.old,.int .i64 h.eden,.int .i64 h.surv,.bool h.flip,.int .i64 h.hash,v3] 26)).alloc (.cells #[] 2)).ownsRow (w.heap.size+1) 2 1 (.slice (some ⟨w.heap.size+1,0,none⟩) 0 0) 0 []:=by
  have q:=own_none (w.alloc (.cells #[.slice (some ⟨b,o,none⟩) 3200 cap,v2,.int .i64 h.old,.int .i64 h.eden,.int .i64 h.surv,.bool h.flip,.int .i64 h.hash,v3] 26)) (w.heap.size+1) 2 1 (by simp)
  rwa [World.size_alloc] at q
 have bx0:=X0.later (bel_one _ (.cells #[] 2))
 have BX:Hid (((w.alloc (.cells #[.slice (some ⟨b,o,none⟩) 3200 cap,v2,.int .i64 h.old,.int .i64 h.eden,.int .i64 h.surv,.bool h.flip,.int .i64 h.hash,v3] 26)).alloc (.cells #[] 2)).cell? ⟨w.heap.size,0,none⟩=some (.slice (some ⟨b,o,none⟩) 3200 cap)):=bx0.c0
 clear X0 bx0 i1 i2 i3 hlen hb0
 have hW0:=hW.later hb1
 go_enter Tryz.func92,Tryz.ntmps92
 go_wp2
 go_loopw [5,6] (fun ov iv wr=>∃ (k:Nat) (v0:Value),k<=l.length/\iv=.int .i64 k/\v0=ov/\wr.ownsRow (w.heap.size+1) 2 1 v0 (keptS h.words (l.take k)).length (icells (ints (keptS h.words (l.take k))))/\wr.cell? ⟨w.heap.size,0,none⟩=some (.slice (some ⟨b,o,none⟩) 3200 cap)/\w.heap.size+1<=wr.heap.size/\Below w.heap.size w wr) (fun _ iv _=>l.length - (intOf iv).toNat)
 case atStart=>exact ⟨0,_,Nat.zero_le _,rfl,rfl,ho0,BX.out,by simp,hb1⟩
 case round =>
  obtain ⟨k,ov,hk,rfl,rfl,hown,bx,hsz,hb⟩:=hrel
  by_cases hlt:k<l.length
  ·obtain ⟨b',o',e',hci⟩:=hc k hlt
   subst e'
   rw [ints_get l k hlt] at hci
   have hm:=get_mem l k hlt
   have TS:=take_snoc' l k 0 hlt
   generalize l.getD k 0=a at *
   obtain ⟨q1,q2,q3⟩:=hobj a hm
   have hya:=hy a hm
   have hsz0:=size_of q3
   obtain ⟨m,hme⟩:=Int.eq_ofNat_of_zero_le hsz0.1
   have hmN:(gw h.words a).toNat=m:=by rw [hme];rfl
   have hnx:nx h.words a=a+4+m:=by unfold nx;rw [hmN]
   rw [hnx] at q2
   have ca:=(hW.later hb) a (by rw [HLN.out];omega)
   rw [hme] at ca
   have hcl:=cell_later hb hci
   have HC:Hid (∀ j,j<m->wr.cell? ⟨b,o+(a+4+j),none⟩=some (.int .i64 (gw h.words (a+4+j)))):=fun j hj=>(hW.later hb) _ (by rw [HLN.out];omega)
   have HM:Hid ((gw h.words a).toNat=m):=hmN
   have HYR:Hid (∀ j,j<m -> -4611686018427387904<=(gw h.words (a+4+j)).tdiv 2/\(gw h.words (a+4+j)).tdiv 2<=4611686018427387904):=fun j hj=>hya _ (List.mem_map.2 ⟨j,by rw [List.mem_range];omega,rfl⟩)
   have HTS:Hid (l.take (k+1)=l.take k ++ [a]):=TS
   have mle:m<=60:=by omega
   clear hci TS hme hmN hnx hya hW hW0 hsz0 q3 hobj hy hc hm
   go_wp2
   go_loopw [8,9] (fun yv kv wr2=>∃ (j:Nat),j<=m/\kv=.int .i64 ((a+4+j:Nat):Int)/\yv=.bool (((flds h.words a).take j).any youngS)/\wr2=wr) (fun _ kv _=>a+4+m - (intOf kv).toNat)
   case atStart=>exact ⟨0,Nat.zero_le _,by go_num,rfl,rfl⟩
   case round =>
    obtain ⟨j,hj,rfl,rfl,rfl⟩:=hrel
    by_cases hjm:j<m
    ·have c1:=HC.out j hjm
     have T1:=flds_take HM.out hjm
     have r:=HYR.out j hjm
     generalize gw h.words (a+4+j)=x at *
     have T2:Hid (((flds h.words a).take (j+1)).any youngS=(((flds h.words a).take j).any youngS || youngS x)):=(by rw [T1];simp:((flds h.words a).take (j+1)).any youngS=(((flds h.words a).take j).any youngS || youngS x))
     clear T1
     generalize ((flds h.words a).take j).any youngS=y at *
     cases y
     ·go_wp2_with (go_at_call 129;refine (l5Young_any _ _ r).mono ?_;rintro e w' ⟨rfl,rfl⟩)
      exact ⟨⟨j+1,by omega,by go_num,by rw [T2.out];rfl,trivial⟩,by simp [intOf];omega⟩
     ·go_wp2
      exact ⟨⟨j+1,by omega,by go_num,by rw [T2.out];rfl,trivial⟩,by simp [intOf];omega⟩
    ·obtain rfl:j=m:=by omega
     have TA:=flds_all HM.out
     rw [TA]
     have KS:=keptS_snoc h.words (l.take k) a
     rw [<- HTS.out] at KS
     have HH:hasYS h.words a=(flds h.words a).any youngS:=rfl
     rw [<- HH]
     clear TA HH
     generalize hasYS h.words a=y at *
     have hg2:∀ (W:World),(W.alloc (.cells #[.int .i64 a] 2)).cell? ⟨W.heap.size,0,none⟩=some (.int .i64 (a:Int)):=fun W=>by simp
     by_cases h2:a<2000
     ·have h2i:(a:Int)<2000:=by omega
      cases y
      ·rw [decide_eq_true h2] at KS
       have KS' : Hid (keptS h.words (l.take (k+1))=keptS h.words (l.take k)):=KS
       clear KS
       go_wp2
       exact ⟨⟨k+1,ov,by omega,by go_num,rfl,by rw [KS'.out];exact hown,bx,hsz,hb⟩,by simp [intOf];omega⟩
      ·rw [decide_eq_true h2] at KS
       have KS' : Hid (keptS h.words (l.take (k+1))=keptS h.words (l.take k) ++ [a]):=KS
       have hlk:(keptS h.words (l.take k)).length<=3200:=by
        have:=List.length_filter_le (fun a=>decide (a<2000) && hasYS h.words a) (l.take k)
        rw [List.length_take] at this
        unfold keptS
        omega
       clear KS
       generalize keptS h.words (l.take k)=ks at *
       have hown2:=own_later hown (bel_one wr (.cells #[.int .i64 a] 2))
       have hb2:=bel_after hb (bel_one wr (.cells #[.int .i64 a] 2))
       have bx2:=cell_later (bel_one wr (.cells #[.int .i64 a] 2)) bx
       go_wp2_with (at_builtin;refine app_int _ rfl _ _ rfl _ _ ks.length (icells (ints ks)) rfl hown2 _ 1 a rfl (hg2 _) (by omega) (Nat.le_trans hsz (by simp)) ?_;intro v4 w4 hown4 hg4';have hg4:(wr.alloc (.cells #[.int .i64 a] 2)).grownBy w4 ov.ownBlock:=hg4';have hb4:=Below.grown hb2 hg4 (Nat.le_trans hb.size (by simp)) (fun b e=>by have:=own_low hown2 e;omega);have bx4:=hg4.cell bx2 (fun e=>by have q:w.heap.size+1<=w.heap.size:=own_low hown2 e.symm;omega);have hs4:=hg4.size)
       exact ⟨⟨k+1,v4,by omega,by go_num,rfl,by rw [KS'.out];simpa [icells,ints] using hown4,bx4,Nat.le_trans hsz (Nat.le_trans (by simp) hs4),hb4⟩,by simp [intOf];omega⟩
     ·have h2i:¬ (a:Int)<2000:=by omega
      rw [decide_eq_false h2] at KS
      have KS' : Hid (keptS h.words (l.take (k+1))=keptS h.words (l.take k)):=KS
      clear KS
      go_wp2
      exact ⟨⟨k+1,ov,by omega,by go_num,rfl,by rw [KS'.out];exact hown,bx,hsz,hb⟩,by simp [intOf];omega⟩
  ·obtain rfl:k=l.length:=by omega
   rw [List.take_length] at hown
   go_wp2
   exact bodyPost_ret (v:=ov) (by simp [results,Tryz.results92,go_sem]) rfl ⟨⟨ov,rfl,IR_of_owns' hown⟩,hb⟩
end Go.Proofs.YtgnbibinclepcaaGreatDoor
