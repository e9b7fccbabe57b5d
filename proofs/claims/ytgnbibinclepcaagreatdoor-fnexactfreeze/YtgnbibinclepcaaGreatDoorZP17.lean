
import Derived.Test.YtgnbibinclepcaaGreatDoorZP16
import Derived.Test.YtgnbibinclepcaaGreatDoorZP13
/- isProgram, isPlaceIn, isOut, isState of the program. -/
namespace Go.Proofs.YtgnbibinclepcaaGreatDoor
open Go.RowKit
theorem anyN_stop {α:Type} {l:List α} {p:α->Bool} {k:Nat} {d:α} (h:k<l.length) (e:p (l.getD k d)=true):l.any p=true :=
 List.any_eq_true.2 ⟨l.getD k d,by simp [h],e⟩
theorem anyN_done {α:Type} {l:List α} {p:α->Bool} {d:α} (h:∀ j,j<l.length->p (l.getD j d)=false):l.any p=false:=by
 rw [Bool.eq_false_iff]
 intro q
 obtain ⟨x,hx,e⟩:=List.any_eq_true.1 q
 obtain ⟨i,hi,rfl⟩:=List.getElem_of_mem hx
 have:=h i hi
 simp [hi] at this
 rw [this] at e
 cases e
theorem all_any {α:Type} (l:List α) (p:α->Bool):(!(l.any fun x=>!p x))=l.all p:=by
 induction l with
 | nil=>rfl
 | cons a l ih=>rw [List.any_cons,List.all_cons,← ih];cases p a <;> simp
theorem outOne_any (x:Int) (w:World):Calls Tryz.prog 151 #[.int .i64 x] w fun e w'=>e=.returned (.bool (!numB x))/\Below w.heap.size w w':=by
 have I:=fun W=>isInt_any x W
 go_enter Tryz.func151,Tryz.ntmps151
 go_wp2_with (go_at_call 152;refine (I _).mono ?_;rintro e wq ⟨rfl,hq⟩;obtain rfl:=hq.symm)
 go_ret
 exact ⟨rfl,Below.refl _ _⟩
set_option maxHeartbeats 1600000 in
theorem outIndex_any (u:Value) (ws:List Int) (w:World) (hu:IR w u ws) (h2:ws.length<=1000000000) :
  Calls Tryz.prog 186 #[u,.func (.func 151) #[] #[]] w fun e w'=>(∃ z:Int,e=.returned (.int .i64 z)/\decide (0<=z)=ws.any fun x=>!numB x)/\Below w.heap.size w w':=by
 obtain ⟨ao,cap,rfl,_,hc⟩:=hu
 go_enter Tryz.func186,Tryz.ntmps186
 go_wp2
 go_loopw [5,8] (fun _ kv wr=>∃ k:Nat,k<=ws.length/\kv=.int .i64 k/\Hid (∀ j,j<k->(fun x=>!numB x) (ws.getD j 0)=false)/\Below w.heap.size w wr) (fun _ kv _=>ws.length - (intOf kv).toNat)
 case atStart=>exact ⟨0,Nat.zero_le _,rfl,fun j hj=>absurd hj (Nat.not_lt_zero j),Below.refl _ _⟩
 case round =>
  obtain ⟨k,hk,rfl,hd,hbw⟩:=hrel
  by_cases hlt:k<ws.length
  ·obtain ⟨b,o,rfl,ck⟩:=hc k hlt
   have ck':=cell_later hbw ck
   have P:=fun W=>outOne_any (ws.getD k 0) W
   have NX:Hid ((fun x=>!numB x) (ws.getD k 0)=false->∀ j,j<k+1->(fun x=>!numB x) (ws.getD j 0)=false):=fun e=>all_upto hd.out e
   have YES:Hid ((fun x=>!numB x) (ws.getD k 0)=true->(ws.any fun x=>!numB x)=true):=fun e=>anyN_stop (d:=0) hlt e
   clear hc ck hd
   generalize ws.getD k 0=x at *
   cases hx:numB x
   ·rw [hx] at P
    have N:Hid ((ws.any fun x=>!numB x)=true):=YES.out (by show (!numB x)=true;rw [hx];rfl)
    clear NX YES hx
    go_wp2_with fail
    refine (P _).mono ?_
    rintro e w1 ⟨rfl,hb1⟩
    have hbw1:=bel_after hbw hb1
    go_wp2
    go_ret
    exact ⟨⟨k,rfl,by rw [N.out];exact decide_eq_true (by omega)⟩,hbw1⟩
   ·rw [hx] at P
    have N:Hid (∀ j,j<k+1->(fun x=>!numB x) (ws.getD j 0)=false):=NX.out (by show (!numB x)=false;rw [hx];rfl)
    clear NX YES hx
    go_wp2_with fail
    refine (P _).mono ?_
    rintro e w1 ⟨rfl,hb1⟩
    have hbw1:=bel_after hbw hb1
    go_wp2
    exact ⟨⟨k+1,by omega,by go_num,N,hbw1⟩,by simp [intOf];omega⟩
  ·obtain rfl:k=ws.length:=by omega
   have G:Hid ((ws.any fun x=>!numB x)=false):=anyN_done hd.out
   clear hd hc
   go_wp2
   go_ret
   exact ⟨⟨-1,rfl,by rw [G.out];rfl⟩,hbw⟩
theorem outContains_any (u:Value) (ws:List Int) (w:World) (hu:IR w u ws) (h2:ws.length<=1000000000) :
  Calls Tryz.prog 150 #[u,.func (.func 151) #[] #[]] w fun e w'=>e=.returned (.bool (ws.any fun x=>!numB x))/\Below w.heap.size w w':=by
 have C:=outIndex_any u ws w hu h2
 clear hu
 generalize (ws.any fun x=>!numB x)=r at *
 go_enter Tryz.func150,Tryz.ntmps150
 go_wp2_with fail
 refine C.mono ?_
 rintro e w1 ⟨⟨z,rfl,hz⟩,hb1⟩
 replace hz:Hid (decide (0<=z)=r):=hz
 go_wp2
 go_ret
 exact ⟨wret_bool hz.out,hb1⟩
theorem isOut_any (u:Value) (ws:List Int) (w:World) (hu:IR w u ws) (h2:ws.length<=1000000000) :
  Calls Tryz.prog 113 #[u] w fun e w'=>e=.returned (.bool (outB ws))/\Below w.heap.size w w':=by
 have C:=outContains_any u ws w hu h2
 have G:Hid ((!(ws.any fun x=>!numB x))=ws.all numB):=all_any ws numB
 obtain ⟨ao,cap,rfl,_,_⟩:=hu
 by_cases hl:ws.length<=300
 ·have dl:decide ((ws.length:Int)<=300)=true:=decide_eq_true (by omega)
  have OB:Hid (outB ws=ws.all numB):=(by unfold outB;rw [decide_eq_true hl];rfl:outB ws=ws.all numB)
  go_enter Tryz.func113,Tryz.ntmps113
  go_wp2_with fail
  refine C.mono ?_
  rintro e w1 ⟨rfl,hb1⟩
  go_wp2
  go_ret
  exact ⟨wret_bool (by rw [OB.out,← G.out]),hb1⟩
 ·have dl:decide ((ws.length:Int)<=300)=false:=decide_eq_false (by omega)
  have OB:Hid (outB ws=false):=(by unfold outB;rw [decide_eq_false hl];rfl:outB ws=false)
  clear C G
  go_enter Tryz.func113,Tryz.ntmps113
  go_wp2
  go_ret
  exact ⟨wret_bool OB.out.symm,Below.refl _ _⟩
theorem progOne_any (op n:Int) (w:World):Calls Tryz.prog 148 #[.agg #[.int .i64 op,.int .i64 n]] w fun e w'=>e=.returned (.bool (!cokB op n))/\Below w.heap.size w w':=by
 have I:=fun W=>implCodeOk_any op n W
 unfold codeV at I
 go_enter Tryz.func148,Tryz.ntmps148
 go_wp2_with fail
 refine (I _).mono ?_
 rintro e w1 ⟨rfl,hb1⟩
 go_wp2
 go_ret
 exact ⟨rfl,bel_after (bel_one _ _) hb1⟩
set_option maxHeartbeats 1600000 in
theorem progIndex_any (u:Value) (ws:List Cd) (w:World) (hu:CR w u ws) (h2:ws.length<=1000000000) :
  Calls Tryz.prog 184 #[u,.func (.func 148) #[] #[]] w fun e w'=>(∃ z:Int,e=.returned (.int .i64 z)/\decide (0<=z)=ws.any fun p=>!cokB p.1 p.2)/\Below w.heap.size w w':=by
 obtain ⟨ao,cap,rfl,_,hc⟩:=hu
 go_enter Tryz.func184,Tryz.ntmps184
 go_wp2
 go_loopw [5,8] (fun _ kv wr=>∃ k:Nat,k<=ws.length/\kv=.int .i64 k/\Hid (∀ j,j<k->(fun p:Cd=>!cokB p.1 p.2) (ws.getD j cd0)=false)/\Below w.heap.size w wr) (fun _ kv _=>ws.length - (intOf kv).toNat)
 case atStart=>exact ⟨0,Nat.zero_le _,rfl,fun j hj=>absurd hj (Nat.not_lt_zero j),Below.refl _ _⟩
 case round =>
  obtain ⟨k,hk,rfl,hd,hbw⟩:=hrel
  by_cases hlt:k<ws.length
  ·obtain ⟨b,o,rfl,ck,cl⟩:=hc k hlt
   have ck':=cell_later hbw ck
   have cl':=cell_later hbw cl
   have NX:Hid ((fun p:Cd=>!cokB p.1 p.2) (ws.getD k cd0)=false->∀ j,j<k+1->(fun p:Cd=>!cokB p.1 p.2) (ws.getD j cd0)=false):=fun e=>all_upto hd.out e
   have YES:Hid ((fun p:Cd=>!cokB p.1 p.2) (ws.getD k cd0)=true->(ws.any fun p=>!cokB p.1 p.2)=true):=fun e=>anyN_stop (d:=cd0) hlt e
   clear hc ck cl hd
   generalize ws.getD k cd0=s at *
   obtain ⟨x,y⟩:=s
   have P:=fun W=>progOne_any x y W
   cases hx:cokB x y
   ·rw [hx] at P
    have N:Hid ((ws.any fun p=>!cokB p.1 p.2)=true):=YES.out (by show (!cokB x y)=true;rw [hx];rfl)
    clear NX YES hx
    go_wp2_with fail
    refine (P _).mono ?_
    rintro e w1 ⟨rfl,hb1⟩
    have hbw1:=bel_after hbw hb1
    go_wp2
    go_ret
    exact ⟨⟨k,rfl,by rw [N.out];exact decide_eq_true (by omega)⟩,hbw1⟩
   ·rw [hx] at P
    have N:Hid (∀ j,j<k+1->(fun p:Cd=>!cokB p.1 p.2) (ws.getD j cd0)=false):=NX.out (by show (!cokB x y)=false;rw [hx];rfl)
    clear NX YES hx
    go_wp2_with fail
    refine (P _).mono ?_
    rintro e w1 ⟨rfl,hb1⟩
    have hbw1:=bel_after hbw hb1
    go_wp2
    exact ⟨⟨k+1,by omega,by go_num,N,hbw1⟩,by simp [intOf];omega⟩
  ·obtain rfl:k=ws.length:=by omega
   have G:Hid ((ws.any fun p=>!cokB p.1 p.2)=false):=anyN_done hd.out
   clear hd hc
   go_wp2
   go_ret
   exact ⟨⟨-1,rfl,by rw [G.out];rfl⟩,hbw⟩
theorem progContains_any (u:Value) (ws:List Cd) (w:World) (hu:CR w u ws) (h2:ws.length<=1000000000) :
  Calls Tryz.prog 147 #[u,.func (.func 148) #[] #[]] w fun e w'=>e=.returned (.bool (ws.any fun p=>!cokB p.1 p.2))/\Below w.heap.size w w':=by
 have C:=progIndex_any u ws w hu h2
 clear hu
 generalize (ws.any fun p=>!cokB p.1 p.2)=r at *
 go_enter Tryz.func147,Tryz.ntmps147
 go_wp2_with fail
 refine C.mono ?_
 rintro e w1 ⟨⟨z,rfl,hz⟩,hb1⟩
 replace hz:Hid (decide (0<=z)=r):=hz
 go_wp2
 go_ret
 exact ⟨wret_bool hz.out,hb1⟩
theorem isProgram_any (u:Value) (ws:List Cd) (w:World) (hu:CR w u ws) (h2:ws.length<=1000000000) :
  Calls Tryz.prog 111 #[u] w fun e w'=>e=.returned (.bool (progB ws))/\Below w.heap.size w w':=by
 have C:=progContains_any u ws w hu h2
 have G:Hid ((!(ws.any fun p=>!cokB p.1 p.2))=ws.all fun p=>cokB p.1 p.2):=all_any ws fun p=>cokB p.1 p.2
 obtain ⟨ao,cap,rfl,_,_⟩:=hu
 by_cases hl:ws.length<=100
 ·have dl:decide ((ws.length:Int)<=100)=true:=decide_eq_true (by omega)
  have OB:Hid (progB ws=ws.all fun p=>cokB p.1 p.2):=(by unfold progB;rw [decide_eq_true hl];rfl:progB ws=ws.all fun p=>cokB p.1 p.2)
  go_enter Tryz.func111,Tryz.ntmps111
  go_wp2_with fail
  refine C.mono ?_
  rintro e w1 ⟨rfl,hb1⟩
  go_wp2
  go_ret
  exact ⟨wret_bool (by rw [OB.out,← G.out]),hb1⟩
 ·have dl:decide ((ws.length:Int)<=100)=false:=decide_eq_false (by omega)
  have OB:Hid (progB ws=false):=(by unfold progB;rw [decide_eq_false hl];rfl:progB ws=false)
  clear C G
  go_enter Tryz.func111,Tryz.ntmps111
  go_wp2
  go_ret
  exact ⟨wret_bool OB.out.symm,Below.refl _ _⟩
theorem isPlace_any (u:Value) (ws:List Cd) (pc:Int) (w:World) (hu:CR w u ws) (_h2:ws.length<=1000000000) :
  Calls Tryz.prog 112 #[u,.int .i64 pc] w fun e w'=>e=.returned (.bool (placeB ws.length pc))/\Below w.heap.size w w':=by
 obtain ⟨ao,cap,rfl,_,_⟩:=hu
 unfold placeB
 by_cases h1:0<=pc
 ·have d1:decide (0<=pc)=true:=decide_eq_true h1
  rw [d1]
  go_enter Tryz.func112,Tryz.ntmps112
  go_wp2
  go_ret
  exact ⟨by first|rfl|simp,Below.refl _ _⟩
 ·have d1:decide (0<=pc)=false:=decide_eq_false h1
  rw [d1]
  go_enter Tryz.func112,Tryz.ntmps112
  go_wp2
  go_ret
  exact ⟨by first|rfl|simp,Below.refl _ _⟩
theorem isState_any (s:Int) (w:World) :
  Calls Tryz.prog 114 #[.int .i64 s] w fun e w'=>e=.returned (.bool (stateB s))/\Below w.heap.size w w':=by
 unfold stateB
 by_cases h1:0<=s
 ·have d1:decide (0<=s)=true:=decide_eq_true h1
  rw [d1]
  go_enter Tryz.func114,Tryz.ntmps114
  go_wp2
  go_ret
  exact ⟨by first|rfl|simp,Below.refl _ _⟩
 ·have d1:decide (0<=s)=false:=decide_eq_false h1
  rw [d1]
  go_enter Tryz.func114,Tryz.ntmps114
  go_wp2
  go_ret
  exact ⟨by first|rfl|simp,Below.refl _ _⟩
end Go.Proofs.YtgnbibinclepcaaGreatDoor
/- What a word means in a heap, behind an interface: elementOf, elementIn, their methods, Get, ClassOf, HashOf of the program. -/
namespace Go.Proofs.YtgnbibinclepcaaGreatDoor
open Go.RowKit
def elV (l:List Nat) (u:Value) (x:Int):Value :=
 if fitB l x=true then (if kindW x=2 then (if 2000<=x / 2 then .iface 263 (.agg #[u,.int .i64 (x / 2)]) else .iface 261 (.agg #[u,.int .i64 (x / 2)])) else .iface 259 (.agg #[])) else .iface 258 (.agg #[])
theorem mNF (w:World):(method 425 258 (.agg #[]) "loop.example/g00140/impl.fields").run Tryz.prog w=.ok (285,.agg #[]) w:=by kernel_rfl
theorem mNC (w:World):(method 425 258 (.agg #[]) "loop.example/g00140/impl.class").run Tryz.prog w=.ok (284,.agg #[]) w:=by kernel_rfl
theorem mUF (w:World):(method 425 259 (.agg #[]) "loop.example/g00140/impl.fields").run Tryz.prog w=.ok (288,.agg #[]) w:=by kernel_rfl
theorem mUC (w:World):(method 425 259 (.agg #[]) "loop.example/g00140/impl.class").run Tryz.prog w=.ok (287,.agg #[]) w:=by kernel_rfl
theorem mOF (u:Value) (x:Int) (w:World):(method 425 261 (.agg #[u,.int .i64 x]) "loop.example/g00140/impl.fields").run Tryz.prog w=.ok (291,.agg #[u,.int .i64 x]) w:=by kernel_rfl
theorem mOC (u:Value) (x:Int) (w:World):(method 425 261 (.agg #[u,.int .i64 x]) "loop.example/g00140/impl.class").run Tryz.prog w=.ok (290,.agg #[u,.int .i64 x]) w:=by kernel_rfl
theorem mYF (u:Value) (x:Int) (w:World):(method 425 263 (.agg #[u,.int .i64 x]) "loop.example/g00140/impl.fields").run Tryz.prog w=.ok (291,.agg #[u,.int .i64 x]) w:=by kernel_rfl
theorem mYC (u:Value) (x:Int) (w:World):(method 425 263 (.agg #[u,.int .i64 x]) "loop.example/g00140/impl.class").run Tryz.prog w=.ok (290,.agg #[u,.int .i64 x]) w:=by kernel_rfl
set_option maxHeartbeats 1600000 in
theorem elementOf_any (a1 oa:Option Addr) (n1 c1 oc:Nat) (l:List Nat) (x:Int) (w:World) (ho:IR w (.slice oa l.length oc) (ints l)) (hs:l.Pairwise (· < ·)) (h1:l.length<=1000000000) :
  Calls Tryz.prog 187 #[.agg #[.slice a1 n1 c1,.slice oa l.length oc],.int .i64 x] w fun e w'=>e=.returned (elV l (.slice a1 n1 c1) x)/\Below w.heap.size w w':=by
 have hb0:=bel_one w (.cells #[.slice a1 n1 c1,.slice oa l.length oc] 106)
 have FT:=draftFits_any a1 oa n1 c1 oc l x _ (ho.later hb0) hs h1
 have R:=fun W=>implRefOf_any x W
 have Y:=fun W=>isYoung_any (x / 2) W
 have EV:Hid (elV l (.slice a1 n1 c1) x=if fitB l x=true then (if kindW x=2 then (if 2000<=x / 2 then .iface 263 (.agg #[.slice a1 n1 c1,.int .i64 (x / 2)]) else .iface 261 (.agg #[.slice a1 n1 c1,.int .i64 (x / 2)])) else .iface 259 (.agg #[])) else .iface 258 (.agg #[])):=(rfl:_=_)
 clear ho hs
 cases hf:fitB l x
 ·rw [hf] at FT EV
  go_enter Tryz.func187,Tryz.ntmps187
  go_wp2_with fail
  refine FT.mono ?_
  rintro e w1 ⟨rfl,hb1⟩
  go_wp2
  go_ret
  exact ⟨by rw [EV.out];rfl,bel_after hb0 hb1⟩
 rw [hf] at FT EV
 by_cases hk:kindW x=2
 ·have V:valK 2 x=x / 2:=by unfold valK;rw [if_pos hk]
  have K:isK 2 x=true:=decide_eq_true hk
  rw [V,K] at R
  rw [if_pos rfl,if_pos hk] at EV
  clear V K hk hf
  by_cases hy:2000<=x / 2
  ·rw [decide_eq_true hy] at Y
   rw [if_pos hy] at EV
   clear hy
   go_enter Tryz.func187,Tryz.ntmps187
   go_wp2_with fail
   refine FT.mono ?_
   rintro e w1 ⟨rfl,hb1⟩
   have c0:w1.cell? ⟨w.heap.size,0,none⟩=some (.slice a1 n1 c1):=cell_later hb1 (cell_new w _ _ _ rfl 0 _ rfl)
   go_wp2_with (first|(go_at_call 96;refine (R _).mono ?_;rintro e wq ⟨rfl,hq⟩;obtain rfl:=hq.symm)|(go_at_call 175;refine (Y _).mono ?_;rintro e wq ⟨rfl,hq⟩;obtain rfl:=hq.symm))
   go_ret
   exact ⟨by rw [EV.out];rfl,bel_after hb0 hb1⟩
  ·rw [decide_eq_false hy] at Y
   rw [if_neg hy] at EV
   clear hy
   go_enter Tryz.func187,Tryz.ntmps187
   go_wp2_with fail
   refine FT.mono ?_
   rintro e w1 ⟨rfl,hb1⟩
   have c0:w1.cell? ⟨w.heap.size,0,none⟩=some (.slice a1 n1 c1):=cell_later hb1 (cell_new w _ _ _ rfl 0 _ rfl)
   go_wp2_with (first|(go_at_call 96;refine (R _).mono ?_;rintro e wq ⟨rfl,hq⟩;obtain rfl:=hq.symm)|(go_at_call 175;refine (Y _).mono ?_;rintro e wq ⟨rfl,hq⟩;obtain rfl:=hq.symm))
   go_ret
   exact ⟨by rw [EV.out];rfl,bel_after hb0 hb1⟩
 ·have K:isK 2 x=false:=decide_eq_false hk
  rw [K] at R
  rw [if_pos rfl,if_neg hk] at EV
  clear K hk hf Y
  go_enter Tryz.func187,Tryz.ntmps187
  go_wp2_with fail
  refine FT.mono ?_
  rintro e w1 ⟨rfl,hb1⟩
  go_wp2_with (go_at_call 96;refine (R _).mono ?_;rintro e wq ⟨rfl,hq⟩;obtain rfl:=hq.symm)
  go_ret
  exact ⟨by rw [EV.out];rfl,bel_after hb0 hb1⟩
theorem noneF_any (w:World):Calls Tryz.prog 285 #[.agg #[]] w fun e w'=>e=.returned (.slice none 0 0)/\Below w.heap.size w w':=by
 have hb:=bel_one w (.cells #[] 258)
 go_enter Tryz.func285,Tryz.ntmps285
 go_wp2
 go_ret
 exact ⟨rfl,hb⟩
theorem noneC_any (w:World):Calls Tryz.prog 284 #[.agg #[]] w fun e w'=>e=.returned (.int .i64 (-1))/\Below w.heap.size w w':=by
 have hb:=bel_one w (.cells #[] 258)
 go_enter Tryz.func284,Tryz.ntmps284
 go_wp2
 go_ret
 exact ⟨rfl,hb⟩
theorem numF_any (w:World):Calls Tryz.prog 288 #[.agg #[]] w fun e w'=>e=.returned (.slice none 0 0)/\Below w.heap.size w w':=by
 have hb:=bel_one w (.cells #[] 259)
 go_enter Tryz.func288,Tryz.ntmps288
 go_wp2
 go_ret
 exact ⟨rfl,hb⟩
theorem numC_any (w:World):Calls Tryz.prog 287 #[.agg #[]] w fun e w'=>e=.returned (.int .i64 100)/\Below w.heap.size w w':=by
 have hb:=bel_one w (.cells #[] 259)
 go_enter Tryz.func287,Tryz.ntmps287
 go_wp2
 go_ret
 exact ⟨rfl,hb⟩
theorem hdC1 (a b c d:Int) (w:World):(Instr.field 79 (.agg #[.int .i64 a,.int .i64 b,.int .i64 c,.int .i64 d]) 1).run Tryz.prog w=.ok (.int .i64 b) w:=by kernel_rfl
section
variable (b o cap : Nat) (W : List Int) (a : Nat) (w : World) (hW : WS w b o W) (hl : W.length = 3200) (ha : a + 4 <= 3200)
include hW hl ha
theorem objC_any:Calls Tryz.prog 290 #[.agg #[.slice (some ⟨b,o,none⟩) 3200 cap,.int .i64 a]] w fun e w'=>e=.returned (.int .i64 (gw W (a+1)))/\Below w.heap.size w w':=by
 have hb:=bel_one w (.cells #[.slice (some ⟨b,o,none⟩) 3200 cap,.int .i64 a] 261)
 have C:=headerAt_any b o cap W a _ (hW.later hb) hl ha
 have f1:=hdC1 (gw W a) (gw W (a+1)) (gw W (a+2)) (gw W (a+3))
 clear hW hl
 generalize gw W a=x0 at *
 generalize gw W (a+1)=x1 at *
 generalize gw W (a+2)=x2 at *
 generalize gw W (a+3)=x3 at *
 go_enter Tryz.func290,Tryz.ntmps290
 go_wp2_with fail
 refine C.mono ?_
 rintro e w1 ⟨rfl,hb1⟩
 go_wp2
 go_ret
 exact ⟨rfl,bel_after hb hb1⟩
end
theorem fieldsAt_at (b o cap:Nat) (W:List Int) (a:Nat) (w:World) (hW:WS w b o W) (hl:W.length=3200) (hc:3200<=cap) (ha:a+4<=3200) (hs:0<=gw W a/\gw W a<=60) (hn:nx W a<=3200) :
  Calls Tryz.prog 49 #[.slice (some ⟨b,o,none⟩) 3200 cap,.int .i64 a] w fun e w'=>(∃ q c,e=.returned (.slice (some ⟨b,q,none⟩) (gw W a).toNat c)/\(gw W a).toNat<=c/\((gw W a).toNat=0 ∨ q=o+(a+4)))/\w' = w:=by
 have B:=behind_any b o cap W a w hW hl ha hs
 obtain ⟨m,hm⟩:=Int.eq_ofNat_of_zero_le hs.1
 have hn' : nx W a=a+4+m:=by unfold nx;rw [hm];rfl
 rw [hn'] at B hn
 have m60:m<=60:=by omega
 rw [hm,Int.toNat_natCast]
 clear hm hs hW hl hn'
 go_enter Tryz.func49,Tryz.ntmps49
 go_wp2_with fail
 refine B.mono ?_
 rintro x w1 ⟨rfl,rfl⟩
 go_wp2
 ·have h0:m=0:=by omega
  go_ret
  exact ⟨⟨_,_,rfl,by omega,.inl h0⟩,rfl⟩
 ·go_ret
  exact ⟨⟨_,_,rfl,by omega,.inr rfl⟩,rfl⟩
theorem objF_any (b o cap:Nat) (W:List Int) (a:Nat) (w:World) (hW:WS w b o W) (hl:W.length=3200) (hc:3200<=cap) (ha:a+4<=3200) (hs:0<=gw W a/\gw W a<=60) (hn:nx W a<=3200) :
  Calls Tryz.prog 291 #[.agg #[.slice (some ⟨b,o,none⟩) 3200 cap,.int .i64 a]] w fun e w'=>(∃ q c,e=.returned (.slice (some ⟨b,q,none⟩) (gw W a).toNat c)/\(gw W a).toNat<=c/\((gw W a).toNat=0 ∨ q=o+(a+4)))/\Below w.heap.size w w':=by
 have hb:=bel_one w (.cells #[.slice (some ⟨b,o,none⟩) 3200 cap,.int .i64 a] 261)
 have C:=fieldsAt_at b o cap W a _ (hW.later hb) hl hc ha hs hn
 clear hW hl hs hn
 generalize gw W a=x0 at *
 go_enter Tryz.func291,Tryz.ntmps291
 go_wp2_with fail
 refine C.mono ?_
 rintro e w1 ⟨⟨q,c,rfl,hc,hq⟩,hw⟩
 obtain rfl:=hw.symm
 go_wp2
 go_ret
 exact ⟨⟨q,c,rfl,hc,hq⟩,hb⟩
end Go.Proofs.YtgnbibinclepcaaGreatDoor
/- What a word means in a heap, in plain words. -/
namespace Go.Proofs.YtgnbibinclepcaaGreatDoor
open Go.RowKit
noncomputable def elW (h:Hp) (u:Value) (x:Int):Value:=if okC h=true then elV (obC h) u x else .iface 258 (.agg #[])
theorem el_cases (h:Hp) (u:Value) (x:Int) :
  (elW h u x=.iface 258 (.agg #[])/\(refB h x && okC h)=false/\(okC h=true->¬ kindW x=1)) ∨
  (okC h=true/\elW h u x=.iface 259 (.agg #[])/\refB h x=false/\kindW x=1) ∨
  (okC h=true/\refB h x=true/\∃ a:Nat,a ∈ obC h/\x / 2=a/\kindW x=2/\(elW h u x=.iface 261 (.agg #[u,.int .i64 a]) ∨ elW h u x=.iface 263 (.agg #[u,.int .i64 a]))):=by
 unfold elW
 cases hk:okC h
 ·exact .inl ⟨rfl,by simp,fun q=>by cases q⟩
 rw [if_pos rfl]
 unfold elV
 cases hf:fitB (obC h) x
 ·refine .inl ⟨rfl,?_,fun _ k=>?_⟩
  ·cases hr:refB h x
   ·rfl
   ·obtain ⟨k,a,ha,e⟩:=ref_mem hr
    rw [fit_ref (decide_eq_true k),e,show (ints (obC h)).contains (a:Int)=true from List.contains_iff_mem.2 (List.mem_map.2 ⟨a,ha,rfl⟩)] at hf
    cases hf
  ·unfold fitB at hf
   rw [k] at hf
   simp at hf
 rw [if_pos rfl]
 by_cases k:kindW x=2
 ·rw [if_pos k]
  rw [fit_ref (decide_eq_true k),List.contains_iff_mem] at hf
  obtain ⟨a,ha,e⟩:=List.mem_map.1 hf
  refine .inr (.inr ⟨rfl,ref_of k ha e.symm,a,ha,e.symm,k,?_⟩)
  rw [<- e]
  split
  ·exact .inr rfl
  ·exact .inl rfl
 ·rw [if_neg k]
  have k1:kindW x=1:=by
   unfold fitB at hf
   rw [decide_eq_false k] at hf
   simpa using hf
  refine .inr (.inl ⟨rfl,rfl,?_,k1⟩)
  unfold refB
  rw [decide_eq_false k]
  rfl
end Go.Proofs.YtgnbibinclepcaaGreatDoor
