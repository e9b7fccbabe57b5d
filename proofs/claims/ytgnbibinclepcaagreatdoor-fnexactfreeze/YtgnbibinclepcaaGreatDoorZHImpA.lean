import Derived.Test.YtgnbibinclepcaaGreatDoorZP7
namespace Go.Proofs.YtgnbibinclepcaaGreatDoor
open Go.RowKit
theorem isSize_any (x:Int) (w:World):Calls Tryz.prog 232 #[.int .i64 x] w fun e w'=>e=.returned (.bool (decide (0<=x/\x<=60)))/\w' = w:=by
 by_cases h:0<=x
 ·go_enter Tryz.func232,Tryz.ntmps232
  go_wp2
  go_ret
  exact ⟨wret_bool (by simp [h]),rfl⟩
 ·go_enter Tryz.func232,Tryz.ntmps232
  go_wp2
  go_ret
  exact ⟨wret_bool (by simp;omega),rfl⟩
theorem isClass_any (x:Int) (w:World):Calls Tryz.prog 233 #[.int .i64 x] w fun e w'=>e=.returned (.bool (decide (0<=x/\x<=99)))/\w' = w:=by
 by_cases h:0<=x
 ·go_enter Tryz.func233,Tryz.ntmps233
  go_wp2
  go_ret
  exact ⟨wret_bool (by simp [h]),rfl⟩
 ·go_enter Tryz.func233,Tryz.ntmps233
  go_wp2
  go_ret
  exact ⟨wret_bool (by simp;omega),rfl⟩
theorem isYoung_any (x:Int) (w:World):Calls Tryz.prog 175 #[.int .i64 x] w fun e w'=>e=.returned (.bool (decide (2000<=x)))/\w' = w:=by
 go_enter Tryz.func175,Tryz.ntmps175
 go_wp2
 go_ret
 exact ⟨rfl,rfl⟩
theorem isRight_any (x0 x1 x2 x3:Int) (w:World) :
  Calls Tryz.prog 201 #[.agg #[.int .i64 x0,.int .i64 x1,.int .i64 x2,.int .i64 x3]] w fun e w'=>e=.returned (.bool (decide (0<=x0/\x0<=60) && (decide (0<=x1/\x1<=99) && decide (0<=x3/\x3<=15)) && decide (1<=x2)))/\Below w.heap.size w w':=by
 have hb0:=bel_one w (.cells #[.int .i64 x0,.int .i64 x1,.int .i64 x2,.int .i64 x3] 79)
 by_cases h0:0<=x0/\x0<=60
 ·have D0:=decide_eq_true h0
  by_cases h1:0<=x1/\x1<=99
  ·have D1:=decide_eq_true h1
   by_cases h2:1<=x2
   ·by_cases h3:0<=x3
    ·go_enter Tryz.func201,Tryz.ntmps201
     go_wp2_with (first|(go_at_call 232;refine (isSize_any _ _).mono ?_;rintro x wq ⟨rfl,rfl⟩;rw [D0])|(go_at_call 233;refine (isClass_any _ _).mono ?_;rintro x wq ⟨rfl,rfl⟩;rw [D1]))
     go_ret
     exact ⟨wret_bool (by simp [h0,h1,h2,h3]),hb0⟩
    ·go_enter Tryz.func201,Tryz.ntmps201
     go_wp2_with (first|(go_at_call 232;refine (isSize_any _ _).mono ?_;rintro x wq ⟨rfl,rfl⟩;rw [D0])|(go_at_call 233;refine (isClass_any _ _).mono ?_;rintro x wq ⟨rfl,rfl⟩;rw [D1]))
     go_ret
     exact ⟨wret_bool (by rw [decide_eq_false (by omega:¬ 0<=x3)];rfl),hb0⟩
   ·go_enter Tryz.func201,Tryz.ntmps201
    go_wp2_with (first|(go_at_call 232;refine (isSize_any _ _).mono ?_;rintro x wq ⟨rfl,rfl⟩;rw [D0])|(go_at_call 233;refine (isClass_any _ _).mono ?_;rintro x wq ⟨rfl,rfl⟩;rw [D1]))
    go_ret
    exact ⟨wret_bool (by simp [h2]),hb0⟩
  ·have D1:=decide_eq_false h1
   go_enter Tryz.func201,Tryz.ntmps201
   go_wp2_with (first|(go_at_call 232;refine (isSize_any _ _).mono ?_;rintro x wq ⟨rfl,rfl⟩;rw [D0])|(go_at_call 233;refine (isClass_any _ _).mono ?_;rintro x wq ⟨rfl,rfl⟩;rw [D1]))
   go_ret
   exact ⟨wret_bool (by rw [D1];simp),hb0⟩
 ·have D0:=decide_eq_false h0
  go_enter Tryz.func201,Tryz.ntmps201
  go_wp2_with (go_at_call 232;refine (isSize_any _ _).mono ?_;rintro x wq ⟨rfl,rfl⟩;rw [D0])
  go_ret
  exact ⟨wret_bool (by rw [D0];simp),hb0⟩
theorem headerAt_any (b o cap:Nat) (W:List Int) (a:Nat) (w:World) (hW:WS w b o W) (hl:W.length=3200) (ha:a+4<=3200) :
  Calls Tryz.prog 47 #[.slice (some ⟨b,o,none⟩) 3200 cap,.int .i64 a] w fun e w'=>e=.returned (.agg #[.int .i64 (gw W a),.int .i64 (gw W (a+1)),.int .i64 (gw W (a+2)),.int .i64 (gw W (a+3))])/\Below w.heap.size w w':=by
 have hb0:=bel_one w (.cells #[.int .i64 0,.int .i64 0,.int .i64 0,.int .i64 0] 79)
 have hW1:=hW.later hb0
 have c0:=hW1 a (by omega)
 have c1:=hW1 (a+1) (by omega)
 have c2:=hW1 (a+2) (by omega)
 have c3:=hW1 (a+3) (by omega)
 generalize gw W a=x0 at *
 generalize gw W (a+1)=x1 at *
 generalize gw W (a+2)=x2 at *
 generalize gw W (a+3)=x3 at *
 have i0:(a:Int)<3200:=by omega
 have i1:(a:Int)+1<3200:=by omega
 have i2:(a:Int)+2<3200:=by omega
 have i3:(a:Int)+3<3200:=by omega
 clear hW hl hW1
 go_enter Tryz.func47,Tryz.ntmps47
 go_wp2
 go_region
 all_goals go_wp2
 all_goals exact bodyPost_ret (v:=.agg #[.int .i64 x0,.int .i64 x1,.int .i64 x2,.int .i64 x3]) (by simp [results,Tryz.results47,go_sem]) rfl ⟨rfl,(bel_one _ _).drew⟩
theorem behind_any (b o cap:Nat) (W:List Int) (a:Nat) (w:World) (hW:WS w b o W) (hl:W.length=3200) (ha:a+4<=3200) (hs:0<=gw W a/\gw W a<=60) :
  Calls Tryz.prog 98 #[.slice (some ⟨b,o,none⟩) 3200 cap,.int .i64 a] w fun e w'=>e=.returned (.int .i64 (nx W a:Nat))/\w' = w:=by
 have c0:=hW a (by omega)
 obtain ⟨m,hm⟩:=Int.eq_ofNat_of_zero_le hs.1
 have hn:Hid (nx W a=a+4+m):=(by unfold nx;rw [hm];rfl:nx W a=a+4+m)
 rw [hm] at c0
 have m60:m<=60:=by omega
 have i0:(a:Int)<3200:=by omega
 clear hm hs hW hl
 go_enter Tryz.func98,Tryz.ntmps98
 go_wp2
 go_ret
 exact ⟨wret_int (by rw [hn.out];omega),rfl⟩
def hasB (W:List Int) (a e:Nat):Bool:=decide (a+4<=e) && (objB W a && decide (nx W a<=e))
set_option maxHeartbeats 400000 in
theorem hasObject_any (b o cap:Nat) (W:List Int) (a e:Nat) (w:World) (hW:WS w b o W) (hl:W.length=3200) (ha:a<=3200) (he:e<=3200) :
  Calls Tryz.prog 170 #[.slice (some ⟨b,o,none⟩) 3200 cap,.int .i64 a,.int .i64 e] w fun x w'=>x=.returned (.bool (hasB W a e))/\Below w.heap.size w w':=by
 by_cases h4:a+4<=e
 ·have h4i:(a:Int)+4<=e:=by omega
  have H:=headerAt_any b o cap W a w hW hl (by omega)
  cases ho:objB W a
  ·have G:Hid (hasB W a e=false):=(by unfold hasB;rw [ho];simp:hasB W a e=false)
   have R:=fun w=>isRight_any (gw W a) (gw W (a+1)) (gw W (a+2)) (gw W (a+3)) w
   rw [show (decide (0<=gw W a/\gw W a<=60) && (decide (0<=gw W (a+1)/\gw W (a+1)<=99) && decide (0<=gw W (a+3)/\gw W (a+3)<=15)) && decide (1<=gw W (a+2)))=objB W a from rfl,ho] at R
   go_enter Tryz.func170,Tryz.ntmps170
   go_wp2_with fail
   refine H.mono ?_
   rintro x w1 ⟨rfl,hb1⟩
   go_wp2_with fail
   refine (R _).mono ?_
   rintro x w2 ⟨rfl,hb2⟩
   go_wp2
   go_ret
   exact ⟨wret_bool G.out.symm,bel_after hb1 hb2⟩
  ·have G:Hid (hasB W a e=decide (nx W a<=e)):=(by unfold hasB;rw [ho,decide_eq_true h4];simp:hasB W a e=decide (nx W a<=e))
   have R:=fun w=>isRight_any (gw W a) (gw W (a+1)) (gw W (a+2)) (gw W (a+3)) w
   rw [show (decide (0<=gw W a/\gw W a<=60) && (decide (0<=gw W (a+1)/\gw W (a+1)<=99) && decide (0<=gw W (a+3)/\gw W (a+3)<=15)) && decide (1<=gw W (a+2)))=objB W a from rfl,ho] at R
   have B:=fun w hW=>behind_any b o cap W a w hW hl (by omega) (size_of (headB_of ho))
   generalize nx W a=n at *
   go_enter Tryz.func170,Tryz.ntmps170
   go_wp2_with fail
   refine H.mono ?_
   rintro x w1 ⟨rfl,hb1⟩
   go_wp2_with fail
   refine (R _).mono ?_
   rintro x w2 ⟨rfl,hb2⟩
   go_wp2_with fail
   refine (B _ (hW.later (bel_after hb1 hb2))).mono ?_
   rintro x w3 ⟨rfl,rfl⟩
   go_wp2
   go_ret
   exact ⟨wret_bool G.out.symm,bel_after hb1 hb2⟩
 ·have h4i:¬ (a:Int)+4<=e:=by omega
  have G:Hid (hasB W a e=false):=(by unfold hasB;rw [decide_eq_false h4];rfl:hasB W a e=false)
  go_enter Tryz.func170,Tryz.ntmps170
  go_wp2
  go_ret
  exact ⟨wret_bool G.out.symm,Below.refl _ _⟩
theorem flds_length (W:List Int) (a:Nat):(flds W a).length=(gw W a).toNat:=by simp [flds]
theorem fieldsAt_any (b o cap:Nat) (W:List Int) (a:Nat) (w:World) (hW:WS w b o W) (hl:W.length=3200) (hc:3200<=cap) (ha:a+4<=3200) (hs:0<=gw W a/\gw W a<=60) (hn:nx W a<=3200) :
  Calls Tryz.prog 49 #[.slice (some ⟨b,o,none⟩) 3200 cap,.int .i64 a] w fun e w'=>(∃ v,e=.returned v/\IR w v (flds W a))/\w' = w:=by
 have B:=behind_any b o cap W a w hW hl ha hs
 obtain ⟨m,hm⟩:=Int.eq_ofNat_of_zero_le hs.1
 have hn' : nx W a=a+4+m:=by unfold nx;rw [hm];rfl
 rw [hn'] at B hn
 have F:Hid (∀ c q,m<=c->(m=0 ∨ q=o+(a+4))->IR w (.slice (some ⟨b,q,none⟩) m c) (flds W a)):=fun c q hc hq=>by
  have e:(flds W a).length=m:=by rw [flds_length,hm];rfl
  refine ⟨_,c,by rw [e],by rw [e];exact hc,fun i hi=>⟨b,q,rfl,?_⟩⟩
  rw [e] at hi
  obtain rfl:=hq.resolve_left (by omega)
  have:=hW (a+4+i) (by omega)
  rw [show o+(a+4)+i=o+(a+4+i) from by omega,this]
  simp [flds,hm,hi]
 have m60:m<=60:=by omega
 clear hm hs hW hl hn'
 go_enter Tryz.func49,Tryz.ntmps49
 go_wp2_with fail
 refine B.mono ?_
 rintro x w1 ⟨rfl,rfl⟩
 go_wp2
 ·have h0:m=0:=by omega
  go_ret
  exact ⟨⟨_,rfl,F.out _ _ (by omega) (.inl h0)⟩,rfl⟩
 ·go_ret
  exact ⟨⟨_,rfl,F.out _ _ (by omega) (.inr rfl)⟩,rfl⟩
theorem areNoughts_any (v:Value) (l:List Int) (w:World) (hv:IR w v l) (h1:l.length<=1000000000000) :
  Calls Tryz.prog 171 #[v] w fun e w'=>e=.returned (.bool (l.all (· == 0)))/\w' = w:=by
 obtain ⟨ao,cap,rfl,_,hv⟩:=hv
 go_enter Tryz.func171,Tryz.ntmps171
 go_wp2
 go_loopw [7] (fun a wr=>∃ k:Nat,a=.int .i64 k/\k<=l.length/\Hid (∀ j,j<k->l.getD j 0=0)/\wr=w) (fun a _=>l.length - (intOf a).toNat)
 case atStart=>exact ⟨0,rfl,Nat.zero_le _,fun j hj=>by omega,rfl⟩
 case round =>
  obtain ⟨k,rfl,hk,hj,rfl⟩:=hrel
  by_cases hlt:k<l.length
  ·obtain ⟨b,o,rfl,hc⟩:=hv k hlt
   have NX:Hid (l.getD k 0=0->∀ j,j<k+1->l.getD j 0=0):=fun e=>all_upto hj.out e
   have BAD:Hid (l.getD k 0 ≠ 0->l.all (· == 0)=false):=fun e=>by
    rw [Bool.eq_false_iff]
    intro h
    rw [List.all_eq_true] at h
    exact e (by simpa using h (l.getD k 0) (by simp [hlt]))
   clear hv hj
   generalize l.getD k 0=x at *
   by_cases hx:x=0
   ·have N:=NX.out hx
    subst hx
    clear NX BAD
    go_wp2
    exact ⟨⟨k+1,by go_num,by omega,N,trivial⟩,by simp [intOf];omega⟩
   ·have G:Hid (l.all (· == 0)=false):=BAD.out hx
    have hx' : (x != 0)=true:=by simpa using hx
    clear NX BAD
    go_wp2
    go_ret
    exact ⟨wret_bool G.out.symm,rfl⟩
  ·obtain rfl:k=l.length:=by omega
   have G:Hid (l.all (· == 0)=true):=(by
    rw [List.all_eq_true]
    intro x hx
    obtain ⟨i,hi,e⟩:=List.getElem_of_mem hx
    have:=hj.out i hi
    simp [hi,e] at this
    simp [this]:l.all (· == 0)=true)
   go_wp2
   go_ret
   exact ⟨wret_bool G.out.symm,rfl⟩
end Go.Proofs.YtgnbibinclepcaaGreatDoor
