import Derived.Test.YtgnbibinclepcaaGreatDoorZP14
import Derived.Test.YtgnbibinclepcaaGreatDoorZP15
import Derived.Laws.CopyRow
namespace Go.Proofs.YtgnbibinclepcaaGreatDoor
open Go.RowKit
abbrev Cd:=Int × Int
def cd0:Cd:=(0,0)
def CR (w:World) (v:Value) (l:List Cd):Prop :=
 ∃ ao cap,v=.slice ao l.length cap/\l.length<=cap/\∀ i,i<l.length->∃ b o,ao=some ⟨b,o,none⟩/\w.cell? ⟨b,o+i * 2,none⟩=some (.int .i64 (l.getD i cd0).1)/\w.cell? ⟨b,o+i * 2+1,none⟩=some (.int .i64 (l.getD i cd0).2)
theorem CR.later {w w' : World} {v:Value} {l:List Cd} (h:CR w v l) (hb:Below w.heap.size w w'):CR w' v l:=by
 obtain ⟨ao,cap,rfl,hle,h⟩:=h
 exact ⟨ao,cap,rfl,hle,fun i hi=>by obtain ⟨b,o,e,hc,hd⟩:=h i hi;exact ⟨b,o,e,cell_later hb hc,cell_later hb hd⟩⟩
theorem CR.grown {w w' : World} {v:Value} {l:List Cd} {row:Option Nat} (h:CR w v l) (hg:w.grownBy w' row) (hne:l=[] ∨ v.ownBlock ≠ row):CR w' v l:=by
 obtain ⟨ao,cap,rfl,hle,h⟩:=h
 refine ⟨ao,cap,rfl,hle,fun i hi=>?_⟩
 obtain ⟨b,o,rfl,hc,hd⟩:=h i hi
 rcases hne with rfl|hne
 ·simp at hi
 ·exact ⟨b,o,rfl,hg.cell hc hne,hg.cell hd hne⟩
theorem CRs {w:World} {v:Value} {l:List Cd} (h:CR w v l):∃ ao cap,v=.slice ao l.length cap/\l.length<=cap:=by
 obtain ⟨ao,cap,e,hle,_⟩:=h
 exact ⟨ao,cap,e,hle⟩
theorem OS.keepC {w w' : World} {v:Value} {t s n B S:Nat} (h:Disk.OS w t s v n) (hk:∀ b,B<=b->b<S->w'.heap[b]?=w.heap[b]?) (hS:∀ b,Disk.rowOf v n=some b->B<=b/\b<S):Disk.OS w' t s v n:=by
 obtain ⟨ao,cap,rfl,h⟩:=h
 refine ⟨ao,cap,rfl,?_⟩
 by_cases h0:n=0
 ·exact .inl h0
 ·obtain ⟨b,N,f,rfl,hN,hr⟩:=h.resolve_left h0
  have q:=hS b (by unfold Disk.rowOf;rw [if_neg h0];rfl)
  exact .inr ⟨b,N,f,rfl,hN,hr.of_block (hk b q.1 q.2)⟩
theorem clists_eq {a b:List Cd} (hl:a.length=b.length) (h:∀ j,j<a.length->a.getD j cd0=b.getD j cd0):a=b:=by
 refine List.ext_getElem hl fun j h1 h2=>?_
 have q:=h j h1
 simpa [List.getD_eq_getElem?_getD,h1,h2] using q
theorem szCodeS_any (v:Value) (l:List Cd) (x:Int) (w:World) (hv:CR w v l) (h1:l.length<=1000000000000000) (x0:0<=x) (x1:x<=1048576) :
  Calls Tryz.prog 27 #[v,.int .i64 x] w fun e w'=>(∃ y:Int,e=.returned (.int .i64 y)/\(0<=y->y=x - l.length/\l.length<=x))/\Below w.heap.size w w':=by
 obtain ⟨ao,cap,rfl,hle⟩:=CRs hv
 by_cases h:x - l.length<0
 ·go_enter Tryz.func27,Tryz.ntmps27
  go_wp2
  go_ret
  exact ⟨⟨-1,rfl,fun q=>absurd q (by omega)⟩,Below.refl _ _⟩
 ·go_enter Tryz.func27,Tryz.ntmps27
  go_wp2
  go_ret
  exact ⟨⟨x - l.length,rfl,fun q=>⟨rfl,by omega⟩⟩,Below.refl _ _⟩
set_option maxHeartbeats 400000 in
theorem eqCodeV_any (a b c d:Int) (w:World) :
  Calls Tryz.prog 70 #[.agg #[.int .i64 a,.int .i64 b],.agg #[.int .i64 c,.int .i64 d]] w fun e w'=>e=.returned (.bool (decide ((a,b)=(c,d))))/\Below w.heap.size w w':=by
 by_cases h1:a=c
 ·subst h1
  by_cases h2:b=d
  ·subst h2
   have k1:(a != a)=false:=by simp
   have k2:(b != b)=false:=by simp
   go_enter Tryz.func70,Tryz.ntmps70
   go_wp2
   go_ret
   exact ⟨ret_bool (by simp),bel_after (bel_one _ _) (bel_one _ _)⟩
  ·have k1:(a != a)=false:=by simp
   have k2:(b != d)=true:=by simpa using h2
   go_enter Tryz.func70,Tryz.ntmps70
   go_wp2
   go_ret
   exact ⟨ret_bool (by simp [h2]),bel_after (bel_one _ _) (bel_one _ _)⟩
 ·have k1:(a != c)=true:=by simpa using h1
  go_enter Tryz.func70,Tryz.ntmps70
  go_wp2
  go_ret
  exact ⟨ret_bool (by simp [h1]),bel_after (bel_one _ _) (bel_one _ _)⟩
set_option maxHeartbeats 400000 in
theorem eqCodes_any (v u:Value) (ss tt:List Cd) (w:World) (hv:CR w v ss) (hu:CR w u tt) (h1:ss.length<=1000000000000000) (_h2:tt.length<=1000000000000000) :
  Calls Tryz.prog 30 #[v,u] w fun e w'=>e=.returned (.bool (decide (ss=tt)))/\Below w.heap.size w w':=by
 obtain ⟨ao,cap,rfl,_,hv⟩:=hv
 obtain ⟨bo,cbp,rfl,_,hu⟩:=hu
 by_cases hl:ss.length=tt.length
 ·have hl' : ((ss.length:Int) != (tt.length:Int))=false:=by simp [hl]
  have HL:Hid (ss.length=tt.length):=hl
  go_enter Tryz.func30,Tryz.ntmps30
  go_wp2
  go_loopw [5] (fun a wr=>∃ (k:Nat),a=.int .i64 k/\k<=ss.length/\Hid (∀ j,j<k->ss.getD j cd0=tt.getD j cd0)/\Below w.heap.size w wr) (fun a _=>(ss.length - (intOf a).toNat))
  case atStart=>exact ⟨0,rfl,Nat.zero_le _,fun j hj=>absurd hj (by omega),Below.refl _ _⟩
  case round =>
   obtain ⟨k,rfl,hk,hj,hb⟩:=hrel
   by_cases hlt:k<ss.length
   ·obtain ⟨b,o,rfl,hc,hd⟩:=hv k hlt
    obtain ⟨b',o',rfl,hc',hd'⟩:=hu k (by omega)
    have hlt' : k<tt.length:=by omega
    generalize hs:ss.getD k cd0=s at *
    generalize ht:tt.getD k cd0=t at *
    have HS:Hid (ss.getD k cd0=s):=hs
    have HT:Hid (tt.getD k cd0=t):=ht
    obtain ⟨s1,s2⟩:=s
    obtain ⟨t1,t2⟩:=t
    have g1:=cell_later hb hc
    have g2:=cell_later hb hd
    have g3:=cell_later hb hc'
    have g4:=cell_later hb hd'
    have EQ:=fun W=>eqCodeV_any s1 s2 t1 t2 W
    by_cases hq:((s1,s2):Cd)=(t1,t2)
    ·rw [decide_eq_true hq] at EQ
     have HQ:Hid (((s1,s2):Cd)=(t1,t2)):=hq
     clear hs ht hv hu hl hc hd hc' hd' hq
     go_wp2
     go_region_with (go_at_call 70;refine (EQ _).mono ?_;rintro e w' ⟨rfl,hb'⟩)
     all_goals have hb2:Below w.heap.size w w':=hb.drew.trans (hb'.mono hb.size)
     all_goals clear EQ
     all_goals go_wp2
     all_goals exact ⟨⟨k+1,by go_num,by omega,all_upto hj.out (by rw [HS.out,HT.out,HQ.out]),hb2⟩,by simp [intOf];omega⟩
    ·rw [decide_eq_false hq] at EQ
     have HQ:Hid (¬ ((s1,s2):Cd)=(t1,t2)):=hq
     clear hs ht hv hu hl hc hd hc' hd' hq
     go_wp2
     go_region_with (go_at_call 70;refine (EQ _).mono ?_;rintro e w' ⟨rfl,hb'⟩)
     all_goals have hb2:Below w.heap.size w w':=hb.drew.trans (hb'.mono hb.size)
     all_goals clear EQ
     all_goals go_wp2
     all_goals go_ret
     all_goals exact ⟨ret_bool (decide_eq_false (fun e=>HQ.out (by rw [<- HS.out,← HT.out,e]))).symm,hb2⟩
   ·go_wp2
    go_ret
    exact ⟨ret_bool (decide_eq_true (clists_eq hl (fun j hj'=>hj.out j (by omega)))).symm,hb⟩
 ·have hl' : ((ss.length:Int) != (tt.length:Int))=true:=by simp;omega
  go_enter Tryz.func30,Tryz.ntmps30
  go_wp2
  go_ret
  exact ⟨ret_bool (decide_eq_false (fun e=>hl (by rw [e]))).symm,Below.refl _ _⟩
def cmarks (k:Int) (n:Nat):List Cd:=(List.range n).map fun i:Nat=>(k+2 * i,k+2 * i+1)
theorem cmarks_length (k:Int) (n:Nat):(cmarks k n).length=n:=by simp [cmarks]
theorem cmarks_get (k:Int) (n i:Nat) (h:i<n):(cmarks k n).getD i cd0=(k+2 * i,k+2 * i+1):=by simp [cmarks,h]
theorem kcell_at (k:Int) (j:Nat):(Value.int .i64 (k+2 * j)=.int .i64 (k+((j * 2:Nat):Int)))/\(Value.int .i64 (k+2 * j+1)=.int .i64 (k+((j * 2+1:Nat):Int))):=by
 constructor
 ·congr 1
  omega
 ·congr 1
  omega
theorem krow_marks {w:World} {b N n cap:Nat} {k:Int} {f:Nat->Value} (h:w.rowIs b 70 N (fun c=>if c<n * 2 then .int .i64 (k+(c:Nat)) else f c)) (hN:n * 2<=N) (hc:n<=cap) :
  CR w (.slice (some ⟨b,0,none⟩) n cap) (cmarks k n):=by
 refine ⟨some ⟨b,0,none⟩,cap,by rw [cmarks_length],by rw [cmarks_length];exact hc,fun i hi=>⟨b,0,rfl,?_,?_⟩⟩
 ·rw [cmarks_length] at hi
  rw [cmarks_get k n i hi,Nat.zero_add,h.cell (by omega),if_pos (by omega)]
  exact congrArg some (kcell_at k i).1.symm
 ·rw [cmarks_length] at hi
  rw [cmarks_get k n i hi,Nat.zero_add,h.cell (by omega),if_pos (by omega)]
  exact congrArg some (kcell_at k i).2.symm
set_option maxHeartbeats 400000 in
theorem markCodes_any (v:Value) (n:Nat) (k:Int) (w:World) (hv:Disk.OS w 70 2 v n) (hc:∃ ao cap,v=.slice ao n cap/\n<=cap) (h0:0<k) (h1:k+2 * n<=1000000000000000) :
  Calls Tryz.prog 31 #[v,.int .i64 k] w fun e w'=>e=.returned (.int .i64 (k+2 * n))/\w.grownBy w' (Disk.rowOf v n)/\CR w' v (cmarks k n):=by
 obtain ⟨ao,cap,rfl,hv⟩:=hv
 have hcap:n<=cap:=by
  obtain ⟨a,c,e,hle⟩:=hc
  simp only [Value.slice.injEq,true_and] at e
  omega
 clear hc
 by_cases hn:n=0
 ·subst hn
  go_enter Tryz.func31,Tryz.ntmps31
  go_wp2
  refine wp_loop_rounds 1 ?_
  rw [rounds_succ]
  go_wp2
  go_ret
  exact ⟨Disk.ret_int (by simp),World.grownBy.refl _ _,⟨ao,cap,by simp [cmarks],by simp [cmarks],fun i hi=>by simp [cmarks] at hi⟩⟩
 ·obtain ⟨b,N,f,rfl,hN,hr⟩:=hv.resolve_left hn
  have hro:Disk.rowOf (.slice (some ⟨b,0,none⟩) n cap) n=some b:=by simp [Disk.rowOf,hn,Value.ownBlock]
  rw [hro]
  clear hv hro
  go_enter Tryz.func31,Tryz.ntmps31
  go_wp2
  go_loopw [1,5] (fun c i wr=>∃ j:Nat,j<=n/\i=.int .i64 j/\c=.int .i64 (k+2 * j)/\w.grownBy wr (some b)/\wr.rowIs b 70 N (fun c=>if c<j * 2 then .int .i64 (k+(c:Nat)) else f c)) (fun _ i _=>n - (intOf i).toNat)
  case atStart=>exact ⟨0,Nat.zero_le _,rfl,by go_num,World.grownBy.refl _ _,hr.congr (fun i _=>by simp)⟩
  case round =>
   obtain ⟨j,hj,rfl,rfl,hg,hrow⟩:=hrel
   by_cases hlt:j<n
   ·have hc1:=hrow.cell (i:=j * 2) (by omega)
    have hf1:=hrow.frozen (j * 2)
    have R1:=row_copy hrow (.int .i64 (k+2 * j)) (kcell_at k j).1
    have G1:=Disk.grown_trans hg (Disk.grown_set wr b (j * 2) (.int .i64 (k+2 * j)))
    have hc2:=R1.cell (i:=j * 2+1) (by omega)
    have hf2:=R1.frozen (j * 2+1)
    have R:=row_copy R1 (.int .i64 (k+2 * j+1)) (kcell_at k j).2
    have G:=Disk.grown_trans G1 (Disk.grown_set _ b (j * 2+1) (.int .i64 (k+2 * j+1)))
    clear hrow hg G1 R1
    go_wp2
    go_roundw
    case rel=>exact ⟨j+1,by omega,by go_num,by go_num,G,by rw [Nat.add_mul];exact R⟩
    case measure=>simp [intOf];omega
   ·obtain rfl:j=n:=by omega
    go_wp2
    go_ret
    exact ⟨rfl,hg,krow_marks hrow hN hcap⟩
def RC (w:World) (g:Nat) (l:List Cd):Prop:=w.rowIs g 70 (l.length * 2) (fun c=>.int .i64 (if c % 2=0 then (l.getD (c / 2) cd0).1 else (l.getD (c / 2) cd0).2))
theorem RC.block {w w' : World} {g:Nat} {l:List Cd} (h:RC w g l) (hb:w'.heap[g]?=w.heap[g]?):RC w' g l:=World.rowIs.of_block h hb
theorem RC.lt {w:World} {g:Nat} {l:List Cd} (h:RC w g l):g<w.heap.size:=World.rowIs.lt h
theorem RC.later {w w' : World} {g:Nat} {l:List Cd} (h:RC w g l) (hb:Below w.heap.size w w'):RC w' g l:=h.block (hb.block g h.lt)
theorem RC.cr {w:World} {g cap:Nat} {l:List Cd} (h:RC w g l) (hc:l.length<=cap):CR w (.slice (some ⟨g,0,none⟩) l.length cap) l:=by
 refine ⟨_,_,rfl,hc,fun i hi=>⟨g,0,rfl,?_,?_⟩⟩
 ·rw [Nat.zero_add,World.rowIs.cell h (by omega),if_pos (by omega),show i * 2 / 2=i from by omega]
 ·rw [Nat.zero_add,World.rowIs.cell h (by omega),if_neg (by omega),show (i * 2+1) / 2=i from by omega]
theorem RC.os {w:World} {g cap:Nat} {l:List Cd} (h:RC w g l):Disk.OS w 70 2 (.slice (some ⟨g,0,none⟩) l.length cap) l.length :=
 ⟨_,_,rfl,.inr ⟨g,_,_,rfl,Nat.le_refl _,h⟩⟩
theorem Tryz.infoCK:(Tryz.prog.info? 70).map (fun i=>(i.zero,i.size,i.bytes))=some (some (.agg #[.int .i64 0,.int .i64 0]),2,16):=by kernel_rfl
theorem Tryz.underCK:Tryz.prog.underlying 27=some (.slice 70):=by kernel_rfl
theorem makeC (n:Nat) (hn:n<=1000000000000) (w:World):(Instr.makeSlice 27 (.int .i64 (n:Int)) (.int .i64 (n:Int))).run Tryz.prog w=.ok (.slice (some ⟨w.heap.size,0,none⟩) n n) (w.alloc (.cells (madeCells #[.int .i64 0,.int .i64 0] (n * 2)) 70)):=by
 obtain ⟨i,hi,hzz⟩:=Option.map_eq_some_iff.1 Tryz.infoCK
 simp only [Prod.mk.injEq] at hzz
 obtain ⟨hz,hs,hb⟩:=hzz
 have hr:=run_make (P:=Tryz.prog) w 27 70 i _ Tryz.underCK hi hz .i64 .i64 n n (by omega) (Int.le_refl _) (by rw [hb];omega) (by omega)
 rw [hs,Int.toNat_natCast] at hr
 exact hr
theorem made_codes (w:World) (n:Nat):∃ f,(w.alloc (.cells (madeCells #[.int .i64 0,.int .i64 0] (n * 2)) 70)).rowIs w.heap.size 70 (n * 2) f:=by
 have h:=row_any w (madeCells #[.int .i64 0,.int .i64 0] (n * 2)) 70
 rw [size_madeCells] at h
 exact ⟨_,h⟩
def kcell (l:List Cd) (c:Nat):Value:=.int .i64 (if c % 2=0 then (l.getD (c / 2) cd0).1 else (l.getD (c / 2) cd0).2)
theorem kcell_even (l:List Cd) (j:Nat):kcell l (j * 2)=.int .i64 (l.getD j cd0).1:=by
 unfold kcell
 rw [if_pos (by omega),show j * 2 / 2=j from by omega]
theorem kcell_odd (l:List Cd) (j:Nat):kcell l (j * 2+1)=.int .i64 (l.getD j cd0).2:=by
 unfold kcell
 rw [if_neg (by omega),show (j * 2+1) / 2=j from by omega]
theorem toCodeV_any (op n:Int) (w:World) :
  Calls Tryz.prog 69 #[.agg #[.int .i64 op,.int .i64 n]] w fun e w'=>e=.returned (.agg #[.int .i64 op,.int .i64 n])/\Below w.heap.size w w':=toCode_any op n w
set_option maxHeartbeats 400000 in
theorem toCodes_any (v:Value) (ws:List Cd) (w:World) (hv:CR w v ws) (h1:ws.length<=1000000000000) :
  Calls Tryz.prog 29 #[v] w fun e w'=>(e=.returned (.slice (some ⟨w.heap.size,0,none⟩) ws.length ws.length)/\RC w' w.heap.size ws)/\Below w.heap.size w w' /\ w.heap.size<w'.heap.size:=by
 obtain ⟨ao,cap,rfl,_,hv⟩:=hv
 have hmk:=makeC ws.length h1
 obtain ⟨f,hr0⟩:=made_codes w ws.length
 go_enter Tryz.func29,Tryz.ntmps29
 go_wp2
 go_loopw [4] (fun i wr=>∃ (j:Nat),j<=ws.length/\i=.int .i64 j/\Below w.heap.size w wr/\wr.rowIs w.heap.size 70 (ws.length * 2) (fun i=>if i<j * 2 then kcell ws i else f i)) (fun i _=>ws.length - (intOf i).toNat)
 case atStart=>exact ⟨0,Nat.zero_le _,rfl,bel_one _ _,hr0.congr (fun i _=>by simp)⟩
 case round =>
  obtain ⟨j,hj,rfl,hb,hrow⟩:=hrel
  by_cases hlt:j<ws.length
  ·obtain ⟨b,o,rfl,hc,hd⟩:=hv j hlt
   have hc1:=cell_later hb hc
   have hd1:=cell_later hb hd
   have E1:=kcell_even ws j
   have E2:=kcell_odd ws j
   generalize ws.getD j cd0=s at *
   obtain ⟨s1,s2⟩:=s
   have HE1:Hid (kcell ws (j * 2)=.int .i64 s1):=E1
   have HE2:Hid (kcell ws (j * 2+1)=.int .i64 s2):=E2
   clear hv hc hd hr0 hmk E1 E2
   go_wp2_with (fail)
   refine (toCodeV_any _ _ _).mono ?_
   rintro e w2 ⟨rfl,hb2⟩
   have hb3:=bel_after hb hb2
   have hrow2:=hrow.of_block (hb2.block _ hrow.lt)
   have k1:=hrow2.cell (i:=j * 2) (by omega)
   have k2:=hrow2.cell (i:=j * 2+1) (by omega)
   have f1:=hrow2.frozen (j * 2)
   have f2:=hrow2.frozen (j * 2+1)
   have R1:=row_copy hrow2 (.int .i64 s1) HE1.out.symm
   have R2:=row_copy R1 (.int .i64 s2) HE2.out.symm
   have G1:=hb3.setCell (p:=⟨w.heap.size,j * 2,none⟩) (Nat.le_refl _) (.int .i64 s1)
   have G2:=G1.setCell (p:=⟨w.heap.size,j * 2+1,none⟩) (Nat.le_refl _) (.int .i64 s2)
   clear hrow hrow2 R1 G1
   go_wp2
   go_roundw
   case rel=>exact ⟨j+1,by omega,by go_num,G2,by rw [Nat.add_mul];exact R2⟩
   case measure=>simp [intOf];omega
  ·obtain rfl:j=ws.length:=by omega
   go_wp2
   go_ret
   exact ⟨⟨rfl,hrow.congr fun i hi=>by rw [if_pos hi];rfl⟩,hb,hrow.lt⟩
theorem run_copy_row2 {P:Program} (w:World) (dT sT ty elem:TypeId) (g o dLen dCap:Nat) (a:Addr) (sLen sCap:Nat) (cur:Array Value) (t:TypeId) (cs:List Value)
  (hu:P.underlying dT=some (.slice elem)) (hs:(P.info? elem).map (·.size)=some 2)
  (hg:w.heap[g]?=some (.cells cur t (0,0))) (hn:cs.length=Nat.min sLen dLen * 2)
  (hsrc:∀ j v,cs[j]?=some v->w.cell? (a.add j)=some v) (hfit:o+cs.length<=cur.size) (h1:∀ v ∈ cs,v.oneCell' = true) :
  (Builtin.copy_ #[dT,sT] ty #[.slice (some ⟨g,o,none⟩) dLen dCap,.slice (some a) sLen sCap]).run P w =
   .ok (goInt (Nat.min sLen dLen)) (w.setRow g (cur.toList.take o ++ cs ++ cur.toList.drop (o+cs.length)).toArray):=by
 have hl:=run_loadCells_list (P:=P) w a cs hsrc
 have hst:=run_storeCells_at P g o t cs 0 cur w hg (by simpa using hfit) h1
 cases hq:P.info? elem with
 | none=>simp [hq] at hs
 | some i =>
  have hi:i.size=2:=by simpa [hq] using hs
  have hm:Nat.min sLen dLen * 2=cs.length:=hn.symm
  simp [Builtin.copy_,run_underlying hu,Builtin.lenOf,Builtin.firstCells,sizeOf,typeInfo,hq,hi,hm,hl,hst]
theorem run_copy_none2 {P:Program} (w:World) (dT sT ty elem:TypeId) (d a:Option Addr) (dLen dCap sCap:Nat) (hu:P.underlying dT=some (.slice elem)) (hs:(P.info? elem).map (·.size)=some 2) (hd:dLen=0) :
  (Builtin.copy_ #[dT,sT] ty #[.slice d dLen dCap,.slice a 0 sCap]).run P w=.ok (goInt 0) w:=by
 subst hd
 cases hq:P.info? elem with
 | none=>simp [hq] at hs
 | some i =>
  have hi:i.size=2:=by simpa [hq] using hs
  have hst:∀ x:Addr,(storeCells x [] 0).run P w=.ok () w:=fun x=>rfl
  have hl:=fun x=>run_loadCells_list (P:=P) w x [] (fun j v h=>by simp at h)
  simp only [List.length_nil] at hl
  cases d <;> cases a <;> simp [Builtin.copy_,run_underlying hu,Builtin.lenOf,Builtin.firstCells,sizeOf,typeInfo,hq,hst,hl]
end Go.Proofs.YtgnbibinclepcaaGreatDoor
