import Derived.Test.YtgnbibinclepcaaGreatDoorZHImpS
import Derived.Test.YtgnbibinclepcaaGreatDoorZHImpE
namespace Go.Proofs.YtgnbibinclepcaaGreatDoor
open Go.RowKit
theorem row_low {w w' : World} {b t n:Nat} {f:Nat->Value} (h:w.rowIs b t n f) (hb:Below w.heap.size w w'):w'.rowIs b t n f:=h.of_block (hb.block b h.lt)
theorem row_keep {w w' : World} {b t n e' size' n' B' : Nat} {f:Nat->Value} {v' : Value} {xs' : List Value} (h:w.rowIs b t n f) (h' : w.ownsRow B' e' size' v' n' xs') (hne:t ≠ e') (hg:w.grownBy w' v'.ownBlock):w'.rowIs b t n f:=by
 refine h.of_block (hg.block b h.lt (fun e=>?_))
 obtain ⟨c,hc,_⟩:=h
 obtain ⟨_,h'⟩:=h'
 rcases h' with ⟨rfl,_⟩|⟨g',cap',cur',rfl,hB',hh',_⟩
 ·simp [Value.ownBlock] at e
 ·simp only [Value.ownBlock,Option.some.injEq] at e
  subst e
  rw [hc] at hh'
  cases hh'
  exact hne rfl
theorem own_set {w:World} {b t n e' size' n' B' i:Nat} {f:Nat->Value} {v' : Value} {xs' : List Value} (h:w.rowIs b t n f) (h' : w.ownsRow B' e' size' v' n' xs') (hne:t ≠ e') (u:Value):(w.setCell ⟨b,i,none⟩ u).ownsRow B' e' size' v' n' xs':=by
 refine World.ownsRow.kept h' (Disk.grown_set w b i u) ?_
 obtain ⟨c,hc,_⟩:=h
 obtain ⟨_,h'⟩:=h'
 rcases h' with ⟨rfl,_⟩|⟨g',cap',cur',rfl,hB',hh',_⟩
 ·exact .inl rfl
 ·refine .inr (fun e=>?_)
  simp only [Value.ownBlock,Option.some.injEq] at e
  subst e
  rw [hc] at hh'
  cases hh'
  exact hne rfl
def bsA (k:Nat):Nat:=if k=0 then 0 else if k=1 then 2000 else if k=2 then 2600 else 2900
def esA (k:Nat):Nat:=if k=0 then 2000 else if k=1 then 2600 else if k=2 then 2900 else 3200
def tuA (h:Hp) (k:Nat):Int:=if k=0 then h.old else if k=1 then h.eden else if k=2 then su2 h else su3 h
def fuA (h:Hp) (ns:Nat->Nat) (k j:Nat):Int:=if j<k then ((it h.words (bsA j) (ns j):Nat):Int) else tuA h j
def spF (u:Nat->Int) (i:Nat):Value:=.int .i64 (if i % 3=0 then (bsA (i / 3):Nat) else if i % 3=1 then u (i / 3) else (esA (i / 3):Nat))
def objsK (W:List Int) (ns:Nat->Nat):Nat->List Nat
 | 0=>[]
 | k+1=>objsK W ns k ++ its W (bsA k) (ns k)
def upd (ns:Nat->Nat) (k n:Nat):Nat->Nat:=fun j=>if j=k then n else ns j
theorem objsK_congr {W:List Int} {ns ms:Nat->Nat}:∀ k,(∀ j,j<k->ns j=ms j)->objsK W ns k=objsK W ms k
 | 0,_=>rfl
 | k+1,h=>by unfold objsK;rw [objsK_congr k (fun j hj=>h j (by omega)),h k (by omega)]
theorem objsK_upd (W:List Int) (ns:Nat->Nat) (k n:Nat):objsK W (upd ns k n) (k+1)=objsK W ns k ++ its W (bsA k) n:=by
 show objsK W (upd ns k n) k ++ its W (bsA k) (upd ns k n k)=_
 rw [objsK_congr (ms:=ns) k (fun j hj=>by unfold upd;rw [if_neg (by omega)])]
 unfold upd
 rw [if_pos rfl]
theorem fuA_upd {h:Hp} {ns:Nat->Nat} {k n:Nat} (i:Nat):(if i=3 * k+1 then Value.int .i64 ((it h.words (bsA k) n:Nat):Int) else spF (fuA h ns k) i)=spF (fuA h (upd ns k n) (k+1)) i:=by
 unfold spF
 by_cases e:i=3 * k+1
 ·rw [if_pos e]
  have e1:i % 3=1:=by omega
  have e2:i / 3=k:=by omega
  rw [if_neg (by omega),if_pos e1,e2]
  unfold fuA
  rw [if_pos (by omega)]
  unfold upd
  rw [if_pos rfl]
 ·rw [if_neg e]
  by_cases e1:i % 3=1
  ·have e2:i / 3 ≠ k:=by omega
   rw [if_neg (by omega),if_pos e1,if_neg (by omega),if_pos e1]
   unfold fuA upd
   by_cases e3:i / 3<k
   ·rw [if_pos e3,if_pos (by omega),if_neg e2]
   ·rw [if_neg e3,if_neg (by omega)]
  ·by_cases e0:i % 3=0
   ·rw [if_pos e0,if_pos e0]
   ·rw [if_neg e0,if_neg e1,if_neg e0,if_neg e1]
theorem sp_row (h:Hp) (w:World):(w.alloc (.cells #[.int .i64 0,.int .i64 h.old,.int .i64 2000,.int .i64 2000,.int .i64 h.eden,.int .i64 2600,.int .i64 2600,.int .i64 (su2 h),.int .i64 2900,.int .i64 2900,.int .i64 (su3 h),.int .i64 3200] 208)).rowIs w.heap.size 208 12 (spF (tuA h)) :=
 World.rowIs_alloc w #[.int .i64 0,.int .i64 h.old,.int .i64 2000,.int .i64 2000,.int .i64 h.eden,.int .i64 2600,.int .i64 2600,.int .i64 (su2 h),.int .i64 2900,.int .i64 2900,.int .i64 (su3 h),.int .i64 3200] 208 _ (fun i hi=>by
  match i,hi with
  | 0,_=>rfl
  | 1,_=>rfl
  | 2,_=>rfl
  | 3,_=>rfl
  | 4,_=>rfl
  | 5,_=>rfl
  | 6,_=>rfl
  | 7,_=>rfl
  | 8,_=>rfl
  | 9,_=>rfl
  | 10,_=>rfl
  | 11,_=>rfl
  | n+12,hn=>simp at hn;omega)
theorem fuA_zero (h:Hp) (ns:Nat->Nat) (i:Nat):spF (tuA h) i=spF (fuA h ns 0) i:=by
 unfold spF fuA
 simp
theorem three_row (w:World) (x y z:Int):(w.alloc (.cells #[.int .i64 x,.int .i64 y,.int .i64 z] 207)).rowIs w.heap.size 207 3 (fun i=>.int .i64 (if i=0 then x else if i=1 then y else z)) :=
 World.rowIs_alloc w #[.int .i64 x,.int .i64 y,.int .i64 z] 207 _ (fun i hi=>by
  match i,hi with
  | 0,_=>rfl
  | 1,_=>rfl
  | 2,_=>rfl
  | n+3,hn=>simp at hn;omega)
theorem own_lowI {w:World} {B e size n b:Nat} {v:Value} {xs:List Value} (h:w.ownsRow B e size v n xs) (hk:v.ownBlock=some b):B<=b:=by
 rcases h.2 with ⟨rfl,_⟩|⟨g,cap,cur,rfl,hg,_⟩
 ·cases hk
 ·cases hk;exact hg
theorem spIdx0 (u0 u1 u2 u3:Int) (w:World):(Instr.index 208 (.agg #[.int .i64 0,.int .i64 u0,.int .i64 2000,.int .i64 2000,.int .i64 u1,.int .i64 2600,.int .i64 2600,.int .i64 u2,.int .i64 2900,.int .i64 2900,.int .i64 u3,.int .i64 3200]) (.int .i64 0)).run Tryz.prog w=.ok (.agg #[.int .i64 0,.int .i64 u0,.int .i64 2000]) w:=by kernel_rfl
theorem spIdx1 (u0 u1 u2 u3:Int) (w:World):(Instr.index 208 (.agg #[.int .i64 0,.int .i64 u0,.int .i64 2000,.int .i64 2000,.int .i64 u1,.int .i64 2600,.int .i64 2600,.int .i64 u2,.int .i64 2900,.int .i64 2900,.int .i64 u3,.int .i64 3200]) (.int .i64 1)).run Tryz.prog w=.ok (.agg #[.int .i64 2000,.int .i64 u1,.int .i64 2600]) w:=by kernel_rfl
theorem spIdx2 (u0 u1 u2 u3:Int) (w:World):(Instr.index 208 (.agg #[.int .i64 0,.int .i64 u0,.int .i64 2000,.int .i64 2000,.int .i64 u1,.int .i64 2600,.int .i64 2600,.int .i64 u2,.int .i64 2900,.int .i64 2900,.int .i64 u3,.int .i64 3200]) (.int .i64 2)).run Tryz.prog w=.ok (.agg #[.int .i64 2600,.int .i64 u2,.int .i64 2900]) w:=by kernel_rfl
theorem spIdx3 (u0 u1 u2 u3:Int) (w:World):(Instr.index 208 (.agg #[.int .i64 0,.int .i64 u0,.int .i64 2000,.int .i64 2000,.int .i64 u1,.int .i64 2600,.int .i64 2600,.int .i64 u2,.int .i64 2900,.int .i64 2900,.int .i64 u3,.int .i64 3200]) (.int .i64 3)).run Tryz.prog w=.ok (.agg #[.int .i64 2900,.int .i64 u3,.int .i64 3200]) w:=by kernel_rfl
theorem hasB_no {W:List Int} {e b n a:Nat} (h:it W b n=a) (hs:∀ i,i<n->objB W (it W b i)=true/\it W b (i+1)<=e) (hb:hasB W a e=false):Stops W e b n:=by
 refine ⟨hs,?_⟩
 rintro ⟨h1,h2,h3⟩
 unfold it at h3
 rw [h] at h1 h2 h3
 unfold hasB at hb
 rw [decide_eq_true h1,h2,decide_eq_true h3] at hb
 cases hb
theorem hasB_yes {W:List Int} {e a:Nat} (hb:hasB W a e=true):a+4<=e/\objB W a=true/\nx W a<=e:=by
 unfold hasB at hb
 simp only [Bool.and_eq_true,decide_eq_true_eq] at hb
 exact ⟨hb.1,hb.2.1,hb.2.2⟩
def cutL (W:List Int) (m e:Nat):List Int:=(List.range (e - m)).map fun i=>gw W (m+i)
theorem cutL_length (W:List Int) (m e:Nat):(cutL W m e).length=e - m:=by simp [cutL]
theorem cutL_all {W:List Int} {m e:Nat}:(cutL W m e).all (· == 0)=true ↔ ∀ i,m<=i->i<e->gw W i=0:=by
 rw [List.all_eq_true]
 unfold cutL
 constructor
 ·intro h i h1 h2
  have:=h (gw W (m+(i - m))) (List.mem_map.2 ⟨i - m,by rw [List.mem_range];omega,rfl⟩)
  rw [show m+(i - m)=i from by omega] at this
  simpa using this
 ·intro h x hx
  obtain ⟨i,hi,rfl⟩:=List.mem_map.1 hx
  rw [List.mem_range] at hi
  rw [h (m+i) (by omega) (by omega)]
  rfl
theorem words_cut {w:World} {b o q c m e:Nat} {W:List Int} (hW:WS w b o W) (hl:W.length=3200) (he:e<=3200) (hq:e - m=0 ∨ q=o+m) (hc:e - m<=c):IR w (.slice (some ⟨b,q,none⟩) (e - m) c) (cutL W m e):=by
 refine ⟨_,c,by rw [cutL_length],by rw [cutL_length];exact hc,fun i hi=>⟨b,q,rfl,?_⟩⟩
 rw [cutL_length] at hi
 obtain rfl:=hq.resolve_left (by omega)
 rw [show o+m+i=o+(m+i) from by omega,hW (m+i) (by omega)]
 simp [cutL,hi]
def LaidOut (h:Hp) (B:Nat) (x:Ending) (w' : World):Prop :=
 (∃ l v',l.length<=3200/\x=.returned (.tuple #[v',.bool true])/\w'.ownsRow B 2 1 v' l.length (icells (ints l))/\LaidAt h l) ∨ (x=.returned (.tuple #[.slice none 0 0,.bool false])/\∀ l,¬ LaidAt h l)
set_option maxRecDepth 100000 in
set_option maxHeartbeats 6400000 in
theorem laidObjects_any (v:Value) (h:Hp) (w:World) (hv:HR w v h) (hlen:h.words.length=3200) :
  Calls Tryz.prog 130 #[v] w fun x w'=>LaidOut h w.heap.size x w' /\ Below w.heap.size w w':=by
 obtain ⟨v1,v2,v3,rfl,i1,i2,i3⟩:=id hv
 obtain ⟨b,o,cap,rfl,hcap,hW⟩:=i1.ws (by omega)
 rw [hlen] at hv hcap ⊢
 have HLN:Hid (h.words.length=3200):=hlen
 have hb0:=bel_one w (.cells #[.slice (some ⟨b,o,none⟩) 3200 cap,v2,.int .i64 h.old,.int .i64 h.eden,.int .i64 h.surv,.bool h.flip,.int .i64 h.hash,v3] 26)
 have X0:=Bx.new w (.slice (some ⟨b,o,none⟩) 3200 cap) v2 v3 h 26
 have C1:=heapSpaces_any _ h _ (hv.later hb0)
 clear i1 i2 i3 hv hlen
 go_enter Tryz.func130,Tryz.ntmps130
 go_wp2_with fail
 refine C1.mono ?_
 rintro x w1 ⟨rfl,hb1⟩
 have hbw1:=bel_after hb0 hb1
 have X1:=X0.later hb1
 clear C1 X0 hb1 hb0
 have rT:=row_low (sp_row h w1) (bel_one _ (.cells #[.int .i64 0,.int .i64 h.old,.int .i64 2000,.int .i64 2000,.int .i64 h.eden,.int .i64 2600,.int .i64 2600,.int .i64 (su2 h),.int .i64 2900,.int .i64 2900,.int .i64 (su3 h),.int .i64 3200] 208))
 have rF0:=sp_row h (w1.alloc (.cells #[.int .i64 0,.int .i64 h.old,.int .i64 2000,.int .i64 2000,.int .i64 h.eden,.int .i64 2600,.int .i64 2600,.int .i64 (su2 h),.int .i64 2900,.int .i64 2900,.int .i64 (su3 h),.int .i64 3200] 208))
 have rF:∀ ns,((w1.alloc (.cells #[.int .i64 0,.int .i64 h.old,.int .i64 2000,.int .i64 2000,.int .i64 h.eden,.int .i64 2600,.int .i64 2600,.int .i64 (su2 h),.int .i64 2900,.int .i64 2900,.int .i64 (su3 h),.int .i64 3200] 208)).alloc (.cells #[.int .i64 0,.int .i64 h.old,.int .i64 2000,.int .i64 2000,.int .i64 h.eden,.int .i64 2600,.int .i64 2600,.int .i64 (su2 h),.int .i64 2900,.int .i64 2900,.int .i64 (su3 h),.int .i64 3200] 208)).rowIs (w1.heap.size+1) 208 12 (spF (fuA h ns 0)):=fun ns=>by
  rw [World.size_alloc] at rF0
  exact rF0.congr (fun i _=>fuA_zero h ns i)
 have hb4:=bel_after (bel_one w1 (.cells #[.int .i64 0,.int .i64 h.old,.int .i64 2000,.int .i64 2000,.int .i64 h.eden,.int .i64 2600,.int .i64 2600,.int .i64 (su2 h),.int .i64 2900,.int .i64 2900,.int .i64 (su3 h),.int .i64 3200] 208)) (bel_one _ (.cells #[.int .i64 0,.int .i64 h.old,.int .i64 2000,.int .i64 2000,.int .i64 h.eden,.int .i64 2600,.int .i64 2600,.int .i64 (su2 h),.int .i64 2900,.int .i64 2900,.int .i64 (su3 h),.int .i64 3200] 208))
 have X4:=X1.later hb4
 have hwz:w.heap.size<w1.heap.size:=World.block_lt_of_cell? _ _ X1.c0
 clear rF0 X1
 have eqa:=eqA
 have x0:=spIdx0
 have x1:=spIdx1
 have x2:=spIdx2
 have x3:=spIdx3
 go_wp2_with fail
 generalize hw4:(w1.alloc (.cells #[.int .i64 0,.int .i64 h.old,.int .i64 2000,.int .i64 2000,.int .i64 h.eden,.int .i64 2600,.int .i64 2600,.int .i64 (su2 h),.int .i64 2900,.int .i64 2900,.int .i64 (su3 h),.int .i64 3200] 208)).alloc (.cells #[.int .i64 0,.int .i64 h.old,.int .i64 2000,.int .i64 2000,.int .i64 h.eden,.int .i64 2600,.int .i64 2600,.int .i64 (su2 h),.int .i64 2900,.int .i64 2900,.int .i64 (su3 h),.int .i64 3200] 208)=w4 at *
 have s4:w4.heap.size=w1.heap.size+2:=by rw [<- hw4];simp
 clear hw4
 have hbw4:=bel_after hbw1 hb4
 generalize hF:w1.heap.size+1=F at *
 have hF1:w1.heap.size<F:=by omega
 have hF2:w4.heap.size=F+1:=by omega
 have c04:=X4.c0
 clear hF s4 hb4 hbw1
 go_loopw [6,16] (fun ov iv wr=>∃ (k:Nat) (ns:Nat->Nat) (v0:Value),k<=4/\iv=.int .i64 k/\v0=ov/\Hid (∀ j,j<k->Stops h.words (esA j) (bsA j) (ns j))/\(objsK h.words ns k).length<=800 * k/\wr.ownsRow (F+1) 2 1 v0 (objsK h.words ns k).length (icells (ints (objsK h.words ns k)))/\wr.rowIs F 208 12 (spF (fuA h ns k))/\F+1<=wr.heap.size/\Below F w4 wr) (fun _ iv _=>4 - (intOf iv).toNat)
 case atStart=>exact ⟨0,fun _=>0,_,by omega,rfl,rfl,fun j hj=>by omega,by simp [objsK],⟨by simp [objsK,icells,ints],.inl ⟨rfl,rfl⟩⟩,rF _,by omega,Below.refl _ _⟩
 case round =>
  obtain ⟨k,ns,ov,hk,rfl,rfl,hst,hlk,hown,hrow,hsz,hb⟩:=hrel
  obtain ⟨wo,hwo⟩:∃ wo,wo=wr:=⟨wr,rfl⟩
  obtain rfl:=hwo
  have hbW:Below w.heap.size w wo:=hbw4.trans (hb.mono (by omega))
  have cbx:wo.cell? ⟨w.heap.size,0,none⟩=some (.slice (some ⟨b,o,none⟩) 3200 cap):=(hb.cell (p:=⟨w.heap.size,0,none⟩) (by show w.heap.size<F;omega)).trans c04
  by_cases hlt:k<4
  ·have hko:=fun n=>objsK_upd h.words ns k n
   have hfu:=fun n i=>fuA_upd (h:=h) (ns:=ns) (k:=k) (n:=n) i
   generalize objsK h.words ns k=lk at *
   rcases (by omega:k=0 ∨ k=1 ∨ k=2 ∨ k=3) with rfl|rfl|rfl|rfl
   ·rw [show ((0:Nat):Int)=0 from rfl]
    have al:=bel_one wo (.cells #[.int .i64 0,.int .i64 h.old,.int .i64 2000] 207)
    have hown1:=own_later hown al
    have hrow1:=row_low hrow al
    have hrS:=three_row wo 0 h.old 2000
    have hb1:=hb.trans (al.mono (by omega:F<=wo.heap.size))
    have hsz1:F+1<=(wo.alloc (.cells #[.int .i64 0,.int .i64 h.old,.int .i64 2000] 207)).heap.size:=by simp;omega
    go_wp2_with fail
    go_loopw [6,9] (fun ov av wr2=>∃ (n a:Nat) (v0:Value),Hid (it h.words 0 n=a/\∀ i,i<n->objB h.words (it h.words 0 i)=true/\it h.words 0 (i+1)<=2000)/\av=.int .i64 a/\a<=2000/\0+4 * n<=a/\v0=ov/\wr2.ownsRow (F+1) 2 1 v0 (lk.length+n) (icells (ints (lk ++ its h.words 0 n)))/\wr2.rowIs F 208 12 (spF (fuA h ns 0))/\wr2.rowIs wo.heap.size 207 3 (fun i=>.int .i64 (if i=0 then 0 else if i=1 then h.old else 2000))/\F+1<=wr2.heap.size/\Below F w4 wr2) (fun _ av _=>2000 - (intOf av).toNat)
    case atStart=>exact ⟨0,0,_,⟨rfl,fun i hi=>by omega⟩,rfl,by omega,by omega,rfl,by simpa [its_zero] using hown1,hrow1,hrS,hsz1,hb1⟩
    case round =>
     obtain ⟨n,a,ov,hI,rfl,hae,hna,rfl,hown,hrow,hrS,hsz,hb⟩:=hrel
     have hbW2:Below w.heap.size w wr:=hbw4.trans (hb.mono (by omega))
     have cb2:wr.cell? ⟨w.heap.size,0,none⟩=some (.slice (some ⟨b,o,none⟩) 3200 cap):=(hb.cell (p:=⟨w.heap.size,0,none⟩) (by show w.heap.size<F;omega)).trans c04
     have ce:wr.cell? ⟨wo.heap.size,2,none⟩=some (.int .i64 2000):=hrS.cell (i:=2) (by omega)
     have HO:=hasObject_any b o cap h.words a 2000 wr (hW.later hbW2) HLN.out (by omega) (by omega)
     cases hh:hasB h.words a 2000
     ·rw [hh] at HO
      have ST:Hid (Stops h.words 2000 0 n):=hasB_no hI.out.1 hI.out.2 hh
      have hn8:n<=800:=by omega
      go_wp2_with fail
      refine HO.mono ?_
      rintro x w5 ⟨rfl,hb5⟩
      have hrow5:=row_low hrow hb5
      have hown5:=own_later hown hb5
      have cF:w5.cell? ⟨F,1,none⟩=some _:=hrow5.cell (i:=1) (by omega)
      have fF:=hrow5.frozen 1
      have sb5:=hb5.size
      have NR:(w5.setCell ⟨F,1,none⟩ (.int .i64 (a:Int))).rowIs F 208 12 (spF (fuA h (upd ns 0 n) (0+1))):=(hrow5.set 1 (.int .i64 (a:Int))).congr (fun i _=>by
       have q:(if i=3 * 0+1 then Value.int .i64 ((it h.words 0 n:Nat):Int) else spF (fuA h ns 0) i)=spF (fuA h (upd ns 0 n) (0+1)) i:=hfu n i
       rw [hI.out.1] at q
       exact q)
      have NO:=own_set (i:=1) hrow5 hown5 (by decide) (.int .i64 (a:Int))
      have NB:=(hb.trans (hb5.mono (by omega))).setCell (p:=⟨F,1,none⟩) (Nat.le_refl _) (.int .i64 (a:Int))
      have NL:Hid (objsK h.words (upd ns 0 n) (0+1)=lk ++ its h.words 0 n):=hko n
      have NS:Hid (∀ j,j<0+1->Stops h.words (esA j) (bsA j) (upd ns 0 n j)):=fun j hj=>by
       unfold upd
       by_cases e:j=0
       ·subst e;exact ST.out
       ·rw [if_neg e];exact hst.out j (by omega)
      have hlen2:(lk ++ its h.words 0 n).length=lk.length+n:=by simp [its_length]
      clear HO hrow hown hrow5 hown5 hfu hko cb2 ce
      go_wp2
      exact ⟨⟨0+1,upd ns 0 n,ov,by omega,by go_num,rfl,NS,by rw [NL.out,hlen2];omega,by rw [NL.out,hlen2];exact NO,NR,by simp;omega,NB⟩,by simp [intOf]⟩
     ·rw [hh] at HO
      obtain ⟨y1,y2,y3⟩:=hasB_yes hh
      have hn8:n<=800:=by omega
      have HNX:Hid (it h.words 0 (n+1)=nx h.words a):=(by show nx h.words (it h.words 0 n)=_;rw [hI.out.1]:it h.words 0 (n+1)=nx h.words a)
      have BH:=fun W hW'=>behind_any b o cap h.words a W hW' HLN.out (by omega) (size_of (headB_of y2))
      have ny:a+4<=nx h.words a:=by unfold nx;omega
      generalize nx h.words a=na at *
      go_wp2_with fail
      refine HO.mono ?_
      rintro x w5 ⟨rfl,hb5⟩
      have sb5:=hb5.size
      have al5:=bel_after hb5 (bel_one w5 (.cells #[.int .i64 (a:Int)] 2))
      have hown6:=own_later hown al5
      have hrow6:=row_low hrow al5
      have hrS6:=row_low hrS al5
      have hb6:=hb.trans (al5.mono (by omega))
      have hc:∀ W:World,(W.alloc (.cells #[.int .i64 (a:Int)] 2)).cell? ⟨W.heap.size,0,none⟩=some (.int .i64 (a:Int)):=fun W=>by simp
      clear HO hrow hown hrS hfu hko cb2 ce
      go_wp2_with (at_builtin;refine app_int _ rfl _ _ rfl _ _ (lk.length+n) _ rfl hown6 _ 1 (a:Int) rfl (hc _) (by omega) (by simp;omega) ?_;intro v7 w7 hown7 hg7';have hg7:(w5.alloc (.cells #[.int .i64 (a:Int)] 2)).grownBy w7 ov.ownBlock:=hg7';have hb7:=Below.grown hb6 hg7 (by simp;omega) (fun b e=>by have:=own_lowI hown6 e;omega);have hrow7:=row_keep hrow6 hown6 (by decide) hg7;have hrS7:=row_keep hrS6 hown6 (by decide) hg7;have sz7:=hg7.size;have cb7:w7.cell? ⟨w.heap.size,0,none⟩=some (.slice (some ⟨b,o,none⟩) 3200 cap):=(hb7.cell (p:=⟨w.heap.size,0,none⟩) (by show w.heap.size<F;omega)).trans c04)
      refine (BH _ (hW.later (hbw4.trans (hb7.mono (by omega))))).mono ?_
      rintro x w8 ⟨rfl,hw8⟩
      obtain rfl:=hw8.symm
      have ei:icells (ints (lk ++ its h.words 0 (n+1)))=icells (ints (lk ++ its h.words 0 n)) ++ [.int .i64 (a:Int)]:=by rw [its_succ,hI.out.1];simp [icells,ints]
      have HG:Hid (it h.words 0 (n+1)=na/\∀ i,i<n+1->objB h.words (it h.words 0 i)=true/\it h.words 0 (i+1)<=2000):=⟨HNX.out,fun i hi=>by
       by_cases e:i=n
       ·subst e;rw [hI.out.1,HNX.out];exact ⟨y2,y3⟩
       ·exact hI.out.2 i (by omega)⟩
      go_wp2
      exact ⟨⟨n+1,na,v7,HG,rfl,y3,by omega,rfl,by rw [ei];exact hown7,hrow7,hrS7,by simp at sz7;omega,hb7⟩,by simp [intOf];omega⟩
   ·rw [show ((1:Nat):Int)=1 from rfl]
    have al:=bel_one wo (.cells #[.int .i64 2000,.int .i64 h.eden,.int .i64 2600] 207)
    have hown1:=own_later hown al
    have hrow1:=row_low hrow al
    have hrS:=three_row wo 2000 h.eden 2600
    have hb1:=hb.trans (al.mono (by omega:F<=wo.heap.size))
    have hsz1:F+1<=(wo.alloc (.cells #[.int .i64 2000,.int .i64 h.eden,.int .i64 2600] 207)).heap.size:=by simp;omega
    go_wp2_with fail
    go_loopw [6,9] (fun ov av wr2=>∃ (n a:Nat) (v0:Value),Hid (it h.words 2000 n=a/\∀ i,i<n->objB h.words (it h.words 2000 i)=true/\it h.words 2000 (i+1)<=2600)/\av=.int .i64 a/\a<=2600/\2000+4 * n<=a/\v0=ov/\wr2.ownsRow (F+1) 2 1 v0 (lk.length+n) (icells (ints (lk ++ its h.words 2000 n)))/\wr2.rowIs F 208 12 (spF (fuA h ns 1))/\wr2.rowIs wo.heap.size 207 3 (fun i=>.int .i64 (if i=0 then 2000 else if i=1 then h.eden else 2600))/\F+1<=wr2.heap.size/\Below F w4 wr2) (fun _ av _=>2600 - (intOf av).toNat)
    case atStart=>exact ⟨0,2000,_,⟨rfl,fun i hi=>by omega⟩,rfl,by omega,by omega,rfl,by simpa [its_zero] using hown1,hrow1,hrS,hsz1,hb1⟩
    case round =>
     obtain ⟨n,a,ov,hI,rfl,hae,hna,rfl,hown,hrow,hrS,hsz,hb⟩:=hrel
     have hbW2:Below w.heap.size w wr:=hbw4.trans (hb.mono (by omega))
     have cb2:wr.cell? ⟨w.heap.size,0,none⟩=some (.slice (some ⟨b,o,none⟩) 3200 cap):=(hb.cell (p:=⟨w.heap.size,0,none⟩) (by show w.heap.size<F;omega)).trans c04
     have ce:wr.cell? ⟨wo.heap.size,2,none⟩=some (.int .i64 2600):=hrS.cell (i:=2) (by omega)
     have HO:=hasObject_any b o cap h.words a 2600 wr (hW.later hbW2) HLN.out (by omega) (by omega)
     cases hh:hasB h.words a 2600
     ·rw [hh] at HO
      have ST:Hid (Stops h.words 2600 2000 n):=hasB_no hI.out.1 hI.out.2 hh
      have hn8:n<=800:=by omega
      go_wp2_with fail
      refine HO.mono ?_
      rintro x w5 ⟨rfl,hb5⟩
      have hrow5:=row_low hrow hb5
      have hown5:=own_later hown hb5
      have cF:w5.cell? ⟨F,4,none⟩=some _:=hrow5.cell (i:=4) (by omega)
      have fF:=hrow5.frozen 4
      have sb5:=hb5.size
      have NR:(w5.setCell ⟨F,4,none⟩ (.int .i64 (a:Int))).rowIs F 208 12 (spF (fuA h (upd ns 1 n) (1+1))):=(hrow5.set 4 (.int .i64 (a:Int))).congr (fun i _=>by
       have q:(if i=3 * 1+1 then Value.int .i64 ((it h.words 2000 n:Nat):Int) else spF (fuA h ns 1) i)=spF (fuA h (upd ns 1 n) (1+1)) i:=hfu n i
       rw [hI.out.1] at q
       exact q)
      have NO:=own_set (i:=4) hrow5 hown5 (by decide) (.int .i64 (a:Int))
      have NB:=(hb.trans (hb5.mono (by omega))).setCell (p:=⟨F,4,none⟩) (Nat.le_refl _) (.int .i64 (a:Int))
      have NL:Hid (objsK h.words (upd ns 1 n) (1+1)=lk ++ its h.words 2000 n):=hko n
      have NS:Hid (∀ j,j<1+1->Stops h.words (esA j) (bsA j) (upd ns 1 n j)):=fun j hj=>by
       unfold upd
       by_cases e:j=1
       ·subst e;exact ST.out
       ·rw [if_neg e];exact hst.out j (by omega)
      have hlen2:(lk ++ its h.words 2000 n).length=lk.length+n:=by simp [its_length]
      clear HO hrow hown hrow5 hown5 hfu hko cb2 ce
      go_wp2
      exact ⟨⟨1+1,upd ns 1 n,ov,by omega,by go_num,rfl,NS,by rw [NL.out,hlen2];omega,by rw [NL.out,hlen2];exact NO,NR,by simp;omega,NB⟩,by simp [intOf]⟩
     ·rw [hh] at HO
      obtain ⟨y1,y2,y3⟩:=hasB_yes hh
      have hn8:n<=800:=by omega
      have HNX:Hid (it h.words 2000 (n+1)=nx h.words a):=(by show nx h.words (it h.words 2000 n)=_;rw [hI.out.1]:it h.words 2000 (n+1)=nx h.words a)
      have BH:=fun W hW'=>behind_any b o cap h.words a W hW' HLN.out (by omega) (size_of (headB_of y2))
      have ny:a+4<=nx h.words a:=by unfold nx;omega
      generalize nx h.words a=na at *
      go_wp2_with fail
      refine HO.mono ?_
      rintro x w5 ⟨rfl,hb5⟩
      have sb5:=hb5.size
      have al5:=bel_after hb5 (bel_one w5 (.cells #[.int .i64 (a:Int)] 2))
      have hown6:=own_later hown al5
      have hrow6:=row_low hrow al5
      have hrS6:=row_low hrS al5
      have hb6:=hb.trans (al5.mono (by omega))
      have hc:∀ W:World,(W.alloc (.cells #[.int .i64 (a:Int)] 2)).cell? ⟨W.heap.size,0,none⟩=some (.int .i64 (a:Int)):=fun W=>by simp
      clear HO hrow hown hrS hfu hko cb2 ce
      go_wp2_with (at_builtin;refine app_int _ rfl _ _ rfl _ _ (lk.length+n) _ rfl hown6 _ 1 (a:Int) rfl (hc _) (by omega) (by simp;omega) ?_;intro v7 w7 hown7 hg7';have hg7:(w5.alloc (.cells #[.int .i64 (a:Int)] 2)).grownBy w7 ov.ownBlock:=hg7';have hb7:=Below.grown hb6 hg7 (by simp;omega) (fun b e=>by have:=own_lowI hown6 e;omega);have hrow7:=row_keep hrow6 hown6 (by decide) hg7;have hrS7:=row_keep hrS6 hown6 (by decide) hg7;have sz7:=hg7.size;have cb7:w7.cell? ⟨w.heap.size,0,none⟩=some (.slice (some ⟨b,o,none⟩) 3200 cap):=(hb7.cell (p:=⟨w.heap.size,0,none⟩) (by show w.heap.size<F;omega)).trans c04)
      refine (BH _ (hW.later (hbw4.trans (hb7.mono (by omega))))).mono ?_
      rintro x w8 ⟨rfl,hw8⟩
      obtain rfl:=hw8.symm
      have ei:icells (ints (lk ++ its h.words 2000 (n+1)))=icells (ints (lk ++ its h.words 2000 n)) ++ [.int .i64 (a:Int)]:=by rw [its_succ,hI.out.1];simp [icells,ints]
      have HG:Hid (it h.words 2000 (n+1)=na/\∀ i,i<n+1->objB h.words (it h.words 2000 i)=true/\it h.words 2000 (i+1)<=2600):=⟨HNX.out,fun i hi=>by
       by_cases e:i=n
       ·subst e;rw [hI.out.1,HNX.out];exact ⟨y2,y3⟩
       ·exact hI.out.2 i (by omega)⟩
      go_wp2
      exact ⟨⟨n+1,na,v7,HG,rfl,y3,by omega,rfl,by rw [ei];exact hown7,hrow7,hrS7,by simp at sz7;omega,hb7⟩,by simp [intOf];omega⟩
   ·rw [show ((2:Nat):Int)=2 from rfl]
    have al:=bel_one wo (.cells #[.int .i64 2600,.int .i64 (su2 h),.int .i64 2900] 207)
    have hown1:=own_later hown al
    have hrow1:=row_low hrow al
    have hrS:=three_row wo 2600 (su2 h) 2900
    have hb1:=hb.trans (al.mono (by omega:F<=wo.heap.size))
    have hsz1:F+1<=(wo.alloc (.cells #[.int .i64 2600,.int .i64 (su2 h),.int .i64 2900] 207)).heap.size:=by simp;omega
    go_wp2_with fail
    go_loopw [6,9] (fun ov av wr2=>∃ (n a:Nat) (v0:Value),Hid (it h.words 2600 n=a/\∀ i,i<n->objB h.words (it h.words 2600 i)=true/\it h.words 2600 (i+1)<=2900)/\av=.int .i64 a/\a<=2900/\2600+4 * n<=a/\v0=ov/\wr2.ownsRow (F+1) 2 1 v0 (lk.length+n) (icells (ints (lk ++ its h.words 2600 n)))/\wr2.rowIs F 208 12 (spF (fuA h ns 2))/\wr2.rowIs wo.heap.size 207 3 (fun i=>.int .i64 (if i=0 then 2600 else if i=1 then (su2 h) else 2900))/\F+1<=wr2.heap.size/\Below F w4 wr2) (fun _ av _=>2900 - (intOf av).toNat)
    case atStart=>exact ⟨0,2600,_,⟨rfl,fun i hi=>by omega⟩,rfl,by omega,by omega,rfl,by simpa [its_zero] using hown1,hrow1,hrS,hsz1,hb1⟩
    case round =>
     obtain ⟨n,a,ov,hI,rfl,hae,hna,rfl,hown,hrow,hrS,hsz,hb⟩:=hrel
     have hbW2:Below w.heap.size w wr:=hbw4.trans (hb.mono (by omega))
     have cb2:wr.cell? ⟨w.heap.size,0,none⟩=some (.slice (some ⟨b,o,none⟩) 3200 cap):=(hb.cell (p:=⟨w.heap.size,0,none⟩) (by show w.heap.size<F;omega)).trans c04
     have ce:wr.cell? ⟨wo.heap.size,2,none⟩=some (.int .i64 2900):=hrS.cell (i:=2) (by omega)
     have HO:=hasObject_any b o cap h.words a 2900 wr (hW.later hbW2) HLN.out (by omega) (by omega)
     cases hh:hasB h.words a 2900
     ·rw [hh] at HO
      have ST:Hid (Stops h.words 2900 2600 n):=hasB_no hI.out.1 hI.out.2 hh
      have hn8:n<=800:=by omega
      go_wp2_with fail
      refine HO.mono ?_
      rintro x w5 ⟨rfl,hb5⟩
      have hrow5:=row_low hrow hb5
      have hown5:=own_later hown hb5
      have cF:w5.cell? ⟨F,7,none⟩=some _:=hrow5.cell (i:=7) (by omega)
      have fF:=hrow5.frozen 7
      have sb5:=hb5.size
      have NR:(w5.setCell ⟨F,7,none⟩ (.int .i64 (a:Int))).rowIs F 208 12 (spF (fuA h (upd ns 2 n) (2+1))):=(hrow5.set 7 (.int .i64 (a:Int))).congr (fun i _=>by
       have q:(if i=3 * 2+1 then Value.int .i64 ((it h.words 2600 n:Nat):Int) else spF (fuA h ns 2) i)=spF (fuA h (upd ns 2 n) (2+1)) i:=hfu n i
       rw [hI.out.1] at q
       exact q)
      have NO:=own_set (i:=7) hrow5 hown5 (by decide) (.int .i64 (a:Int))
      have NB:=(hb.trans (hb5.mono (by omega))).setCell (p:=⟨F,7,none⟩) (Nat.le_refl _) (.int .i64 (a:Int))
      have NL:Hid (objsK h.words (upd ns 2 n) (2+1)=lk ++ its h.words 2600 n):=hko n
      have NS:Hid (∀ j,j<2+1->Stops h.words (esA j) (bsA j) (upd ns 2 n j)):=fun j hj=>by
       unfold upd
       by_cases e:j=2
       ·subst e;exact ST.out
       ·rw [if_neg e];exact hst.out j (by omega)
      have hlen2:(lk ++ its h.words 2600 n).length=lk.length+n:=by simp [its_length]
      clear HO hrow hown hrow5 hown5 hfu hko cb2 ce
      go_wp2
      exact ⟨⟨2+1,upd ns 2 n,ov,by omega,by go_num,rfl,NS,by rw [NL.out,hlen2];omega,by rw [NL.out,hlen2];exact NO,NR,by simp;omega,NB⟩,by simp [intOf]⟩
     ·rw [hh] at HO
      obtain ⟨y1,y2,y3⟩:=hasB_yes hh
      have hn8:n<=800:=by omega
      have HNX:Hid (it h.words 2600 (n+1)=nx h.words a):=(by show nx h.words (it h.words 2600 n)=_;rw [hI.out.1]:it h.words 2600 (n+1)=nx h.words a)
      have BH:=fun W hW'=>behind_any b o cap h.words a W hW' HLN.out (by omega) (size_of (headB_of y2))
      have ny:a+4<=nx h.words a:=by unfold nx;omega
      generalize nx h.words a=na at *
      go_wp2_with fail
      refine HO.mono ?_
      rintro x w5 ⟨rfl,hb5⟩
      have sb5:=hb5.size
      have al5:=bel_after hb5 (bel_one w5 (.cells #[.int .i64 (a:Int)] 2))
      have hown6:=own_later hown al5
      have hrow6:=row_low hrow al5
      have hrS6:=row_low hrS al5
      have hb6:=hb.trans (al5.mono (by omega))
      have hc:∀ W:World,(W.alloc (.cells #[.int .i64 (a:Int)] 2)).cell? ⟨W.heap.size,0,none⟩=some (.int .i64 (a:Int)):=fun W=>by simp
      clear HO hrow hown hrS hfu hko cb2 ce
      go_wp2_with (at_builtin;refine app_int _ rfl _ _ rfl _ _ (lk.length+n) _ rfl hown6 _ 1 (a:Int) rfl (hc _) (by omega) (by simp;omega) ?_;intro v7 w7 hown7 hg7';have hg7:(w5.alloc (.cells #[.int .i64 (a:Int)] 2)).grownBy w7 ov.ownBlock:=hg7';have hb7:=Below.grown hb6 hg7 (by simp;omega) (fun b e=>by have:=own_lowI hown6 e;omega);have hrow7:=row_keep hrow6 hown6 (by decide) hg7;have hrS7:=row_keep hrS6 hown6 (by decide) hg7;have sz7:=hg7.size;have cb7:w7.cell? ⟨w.heap.size,0,none⟩=some (.slice (some ⟨b,o,none⟩) 3200 cap):=(hb7.cell (p:=⟨w.heap.size,0,none⟩) (by show w.heap.size<F;omega)).trans c04)
      refine (BH _ (hW.later (hbw4.trans (hb7.mono (by omega))))).mono ?_
      rintro x w8 ⟨rfl,hw8⟩
      obtain rfl:=hw8.symm
      have ei:icells (ints (lk ++ its h.words 2600 (n+1)))=icells (ints (lk ++ its h.words 2600 n)) ++ [.int .i64 (a:Int)]:=by rw [its_succ,hI.out.1];simp [icells,ints]
      have HG:Hid (it h.words 2600 (n+1)=na/\∀ i,i<n+1->objB h.words (it h.words 2600 i)=true/\it h.words 2600 (i+1)<=2900):=⟨HNX.out,fun i hi=>by
       by_cases e:i=n
       ·subst e;rw [hI.out.1,HNX.out];exact ⟨y2,y3⟩
       ·exact hI.out.2 i (by omega)⟩
      go_wp2
      exact ⟨⟨n+1,na,v7,HG,rfl,y3,by omega,rfl,by rw [ei];exact hown7,hrow7,hrS7,by simp at sz7;omega,hb7⟩,by simp [intOf];omega⟩
   ·rw [show ((3:Nat):Int)=3 from rfl]
    have al:=bel_one wo (.cells #[.int .i64 2900,.int .i64 (su3 h),.int .i64 3200] 207)
    have hown1:=own_later hown al
    have hrow1:=row_low hrow al
    have hrS:=three_row wo 2900 (su3 h) 3200
    have hb1:=hb.trans (al.mono (by omega:F<=wo.heap.size))
    have hsz1:F+1<=(wo.alloc (.cells #[.int .i64 2900,.int .i64 (su3 h),.int .i64 3200] 207)).heap.size:=by simp;omega
    go_wp2_with fail
    go_loopw [6,9] (fun ov av wr2=>∃ (n a:Nat) (v0:Value),Hid (it h.words 2900 n=a/\∀ i,i<n->objB h.words (it h.words 2900 i)=true/\it h.words 2900 (i+1)<=3200)/\av=.int .i64 a/\a<=3200/\2900+4 * n<=a/\v0=ov/\wr2.ownsRow (F+1) 2 1 v0 (lk.length+n) (icells (ints (lk ++ its h.words 2900 n)))/\wr2.rowIs F 208 12 (spF (fuA h ns 3))/\wr2.rowIs wo.heap.size 207 3 (fun i=>.int .i64 (if i=0 then 2900 else if i=1 then (su3 h) else 3200))/\F+1<=wr2.heap.size/\Below F w4 wr2) (fun _ av _=>3200 - (intOf av).toNat)
    case atStart=>exact ⟨0,2900,_,⟨rfl,fun i hi=>by omega⟩,rfl,by omega,by omega,rfl,by simpa [its_zero] using hown1,hrow1,hrS,hsz1,hb1⟩
    case round =>
     obtain ⟨n,a,ov,hI,rfl,hae,hna,rfl,hown,hrow,hrS,hsz,hb⟩:=hrel
     have hbW2:Below w.heap.size w wr:=hbw4.trans (hb.mono (by omega))
     have cb2:wr.cell? ⟨w.heap.size,0,none⟩=some (.slice (some ⟨b,o,none⟩) 3200 cap):=(hb.cell (p:=⟨w.heap.size,0,none⟩) (by show w.heap.size<F;omega)).trans c04
     have ce:wr.cell? ⟨wo.heap.size,2,none⟩=some (.int .i64 3200):=hrS.cell (i:=2) (by omega)
     have HO:=hasObject_any b o cap h.words a 3200 wr (hW.later hbW2) HLN.out (by omega) (by omega)
     cases hh:hasB h.words a 3200
     ·rw [hh] at HO
      have ST:Hid (Stops h.words 3200 2900 n):=hasB_no hI.out.1 hI.out.2 hh
      have hn8:n<=800:=by omega
      go_wp2_with fail
      refine HO.mono ?_
      rintro x w5 ⟨rfl,hb5⟩
      have hrow5:=row_low hrow hb5
      have hown5:=own_later hown hb5
      have cF:w5.cell? ⟨F,10,none⟩=some _:=hrow5.cell (i:=10) (by omega)
      have fF:=hrow5.frozen 10
      have sb5:=hb5.size
      have NR:(w5.setCell ⟨F,10,none⟩ (.int .i64 (a:Int))).rowIs F 208 12 (spF (fuA h (upd ns 3 n) (3+1))):=(hrow5.set 10 (.int .i64 (a:Int))).congr (fun i _=>by
       have q:(if i=3 * 3+1 then Value.int .i64 ((it h.words 2900 n:Nat):Int) else spF (fuA h ns 3) i)=spF (fuA h (upd ns 3 n) (3+1)) i:=hfu n i
       rw [hI.out.1] at q
       exact q)
      have NO:=own_set (i:=10) hrow5 hown5 (by decide) (.int .i64 (a:Int))
      have NB:=(hb.trans (hb5.mono (by omega))).setCell (p:=⟨F,10,none⟩) (Nat.le_refl _) (.int .i64 (a:Int))
      have NL:Hid (objsK h.words (upd ns 3 n) (3+1)=lk ++ its h.words 2900 n):=hko n
      have NS:Hid (∀ j,j<3+1->Stops h.words (esA j) (bsA j) (upd ns 3 n j)):=fun j hj=>by
       unfold upd
       by_cases e:j=3
       ·subst e;exact ST.out
       ·rw [if_neg e];exact hst.out j (by omega)
      have hlen2:(lk ++ its h.words 2900 n).length=lk.length+n:=by simp [its_length]
      clear HO hrow hown hrow5 hown5 hfu hko cb2 ce
      go_wp2
      exact ⟨⟨3+1,upd ns 3 n,ov,by omega,by go_num,rfl,NS,by rw [NL.out,hlen2];omega,by rw [NL.out,hlen2];exact NO,NR,by simp;omega,NB⟩,by simp [intOf]⟩
     ·rw [hh] at HO
      obtain ⟨y1,y2,y3⟩:=hasB_yes hh
      have hn8:n<=800:=by omega
      have HNX:Hid (it h.words 2900 (n+1)=nx h.words a):=(by show nx h.words (it h.words 2900 n)=_;rw [hI.out.1]:it h.words 2900 (n+1)=nx h.words a)
      have BH:=fun W hW'=>behind_any b o cap h.words a W hW' HLN.out (by omega) (size_of (headB_of y2))
      have ny:a+4<=nx h.words a:=by unfold nx;omega
      generalize nx h.words a=na at *
      go_wp2_with fail
      refine HO.mono ?_
      rintro x w5 ⟨rfl,hb5⟩
      have sb5:=hb5.size
      have al5:=bel_after hb5 (bel_one w5 (.cells #[.int .i64 (a:Int)] 2))
      have hown6:=own_later hown al5
      have hrow6:=row_low hrow al5
      have hrS6:=row_low hrS al5
      have hb6:=hb.trans (al5.mono (by omega))
      have hc:∀ W:World,(W.alloc (.cells #[.int .i64 (a:Int)] 2)).cell? ⟨W.heap.size,0,none⟩=some (.int .i64 (a:Int)):=fun W=>by simp
      clear HO hrow hown hrS hfu hko cb2 ce
      go_wp2_with (at_builtin;refine app_int _ rfl _ _ rfl _ _ (lk.length+n) _ rfl hown6 _ 1 (a:Int) rfl (hc _) (by omega) (by simp;omega) ?_;intro v7 w7 hown7 hg7';have hg7:(w5.alloc (.cells #[.int .i64 (a:Int)] 2)).grownBy w7 ov.ownBlock:=hg7';have hb7:=Below.grown hb6 hg7 (by simp;omega) (fun b e=>by have:=own_lowI hown6 e;omega);have hrow7:=row_keep hrow6 hown6 (by decide) hg7;have hrS7:=row_keep hrS6 hown6 (by decide) hg7;have sz7:=hg7.size;have cb7:w7.cell? ⟨w.heap.size,0,none⟩=some (.slice (some ⟨b,o,none⟩) 3200 cap):=(hb7.cell (p:=⟨w.heap.size,0,none⟩) (by show w.heap.size<F;omega)).trans c04)
      refine (BH _ (hW.later (hbw4.trans (hb7.mono (by omega))))).mono ?_
      rintro x w8 ⟨rfl,hw8⟩
      obtain rfl:=hw8.symm
      have ei:icells (ints (lk ++ its h.words 2900 (n+1)))=icells (ints (lk ++ its h.words 2900 n)) ++ [.int .i64 (a:Int)]:=by rw [its_succ,hI.out.1];simp [icells,ints]
      have HG:Hid (it h.words 2900 (n+1)=na/\∀ i,i<n+1->objB h.words (it h.words 2900 i)=true/\it h.words 2900 (i+1)<=3200):=⟨HNX.out,fun i hi=>by
       by_cases e:i=n
       ·subst e;rw [hI.out.1,HNX.out];exact ⟨y2,y3⟩
       ·exact hI.out.2 i (by omega)⟩
      go_wp2
      exact ⟨⟨n+1,na,v7,HG,rfl,y3,by omega,rfl,by rw [ei];exact hown7,hrow7,hrS7,by simp at sz7;omega,hb7⟩,by simp [intOf];omega⟩
  ·obtain rfl:k=4:=by omega
   have rTo:wo.rowIs w1.heap.size 208 12 (spF (tuA h)):=rT.of_block (hb.block _ hF1)
   have S0:=hst.out 0 (by omega)
   have S1:=hst.out 1 (by omega)
   have S2:=hst.out 2 (by omega)
   have S3:=hst.out 3 (by omega)
   have hks:Hid (objsK h.words ns 4=its h.words 0 (ns 0) ++ its h.words 2000 (ns 1) ++ its h.words 2600 (ns 2) ++ its h.words 2900 (ns 3)):=(by simp [objsK,bsA]:objsK h.words ns 4=its h.words 0 (ns 0) ++ its h.words 2000 (ns 1) ++ its h.words 2600 (ns 2) ++ its h.words 2900 (ns 3))
   obtain ⟨m0,hm0⟩:∃ m0,m0=it h.words 0 (ns 0):=⟨_,rfl⟩
   obtain ⟨m1,hm1⟩:∃ m1,m1=it h.words 2000 (ns 1):=⟨_,rfl⟩
   obtain ⟨m2,hm2⟩:∃ m2,m2=it h.words 2600 (ns 2):=⟨_,rfl⟩
   obtain ⟨m3,hm3⟩:∃ m3,m3=it h.words 2900 (ns 3):=⟨_,rfl⟩
   have hrow:wo.rowIs F 208 12 (spF (fun j=>if j=0 then (m0:Int) else if j=1 then (m1:Int) else if j=2 then (m2:Int) else (m3:Int))):=hrow.congr (fun i hi=>by
    rw [hm0,hm1,hm2,hm3]
    match i,hi with
    | 0,_=>rfl
    | 1,_=>rfl
    | 2,_=>rfl
    | 3,_=>rfl
    | 4,_=>rfl
    | 5,_=>rfl
    | 6,_=>rfl
    | 7,_=>rfl
    | 8,_=>rfl
    | 9,_=>rfl
    | 10,_=>rfl
    | 11,_=>rfl
    | n+12,hn=>omega)
   have F0:wo.cell? ⟨F,0,none⟩=some (.int .i64 0):=hrow.cell (i:=0) (by omega)
   have F1:wo.cell? ⟨F,1,none⟩=some (.int .i64 ((m0:Nat):Int)):=hrow.cell (i:=1) (by omega)
   have F2:wo.cell? ⟨F,2,none⟩=some (.int .i64 2000):=hrow.cell (i:=2) (by omega)
   have G0:wo.cell? ⟨w1.heap.size,0,none⟩=some (.int .i64 0):=rTo.cell (i:=0) (by omega)
   have G1:wo.cell? ⟨w1.heap.size,1,none⟩=some (.int .i64 h.old):=rTo.cell (i:=1) (by omega)
   have G2:wo.cell? ⟨w1.heap.size,2,none⟩=some (.int .i64 2000):=rTo.cell (i:=2) (by omega)
   have F3:wo.cell? ⟨F,3,none⟩=some (.int .i64 2000):=hrow.cell (i:=3) (by omega)
   have F4:wo.cell? ⟨F,4,none⟩=some (.int .i64 ((m1:Nat):Int)):=hrow.cell (i:=4) (by omega)
   have F5:wo.cell? ⟨F,5,none⟩=some (.int .i64 2600):=hrow.cell (i:=5) (by omega)
   have G3:wo.cell? ⟨w1.heap.size,3,none⟩=some (.int .i64 2000):=rTo.cell (i:=3) (by omega)
   have G4:wo.cell? ⟨w1.heap.size,4,none⟩=some (.int .i64 h.eden):=rTo.cell (i:=4) (by omega)
   have G5:wo.cell? ⟨w1.heap.size,5,none⟩=some (.int .i64 2600):=rTo.cell (i:=5) (by omega)
   have F6:wo.cell? ⟨F,6,none⟩=some (.int .i64 2600):=hrow.cell (i:=6) (by omega)
   have F7:wo.cell? ⟨F,7,none⟩=some (.int .i64 ((m2:Nat):Int)):=hrow.cell (i:=7) (by omega)
   have F8:wo.cell? ⟨F,8,none⟩=some (.int .i64 2900):=hrow.cell (i:=8) (by omega)
   have G6:wo.cell? ⟨w1.heap.size,6,none⟩=some (.int .i64 2600):=rTo.cell (i:=6) (by omega)
   have G7:wo.cell? ⟨w1.heap.size,7,none⟩=some (.int .i64 (su2 h)):=rTo.cell (i:=7) (by omega)
   have G8:wo.cell? ⟨w1.heap.size,8,none⟩=some (.int .i64 2900):=rTo.cell (i:=8) (by omega)
   have F9:wo.cell? ⟨F,9,none⟩=some (.int .i64 2900):=hrow.cell (i:=9) (by omega)
   have F10:wo.cell? ⟨F,10,none⟩=some (.int .i64 ((m3:Nat):Int)):=hrow.cell (i:=10) (by omega)
   have F11:wo.cell? ⟨F,11,none⟩=some (.int .i64 3200):=hrow.cell (i:=11) (by omega)
   have G9:wo.cell? ⟨w1.heap.size,9,none⟩=some (.int .i64 2900):=rTo.cell (i:=9) (by omega)
   have G10:wo.cell? ⟨w1.heap.size,10,none⟩=some (.int .i64 (su3 h)):=rTo.cell (i:=10) (by omega)
   have G11:wo.cell? ⟨w1.heap.size,11,none⟩=some (.int .i64 3200):=rTo.cell (i:=11) (by omega)
   have H0:Hid (m0=it h.words 0 (ns 0)):=hm0
   have H1:Hid (m1=it h.words 2000 (ns 1)):=hm1
   have H2:Hid (m2=it h.words 2600 (ns 2)):=hm2
   have H3:Hid (m3=it h.words 2900 (ns 3)):=hm3
   clear hm0 hm1 hm2 hm3 rT rTo hst rF
   rw [show ((4:Nat):Int)=4 from rfl]
   have hbWo:Below w.heap.size w wo:=hbW
   have LE0:m0<=2000:=by rw [H0.out];exact stops_le S0 (by decide)
   have LE1:m1<=2600:=by rw [H1.out];exact stops_le S1 (by decide)
   have LE2:m2<=2900:=by rw [H2.out];exact stops_le S2 (by decide)
   have LE3:m3<=3200:=by rw [H3.out];exact stops_le S3 (by decide)
   obtain ⟨mm,hmm⟩:∃ mm:Nat->Nat,mm 0=m0/\mm 1=m1/\mm 2=m2/\mm 3=m3:=⟨fun j=>if j=0 then m0 else if j=1 then m1 else if j=2 then m2 else m3,rfl,rfl,rfl,rfl⟩
   have HMM:Hid (mm 0=m0/\mm 1=m1/\mm 2=m2/\mm 3=m3):=hmm
   have LA:Hid (∀ l,LaidAt h l->((m0:Int)=h.old/\(m1:Int)=h.eden/\(m2:Int)=su2 h/\(m3:Int)=su3 h)/\(∀ j,j<4->∀ i,mm j<=i->i<esA j->gw h.words i=0)):=fun l hl=>by
    obtain ⟨n0,n1,n2,n3,⟨s0,s1,s2,s3⟩,⟨u0,u1,u2,u3⟩,⟨z0,z1,z2,z3⟩,_⟩:=hl
    obtain rfl:=s0.eq S0
    obtain rfl:=s1.eq S1
    obtain rfl:=s2.eq S2
    obtain rfl:=s3.eq S3
    obtain ⟨e0,e1,e2,e3⟩:=HMM.out
    rw [H0.out,H1.out,H2.out,H3.out]
    refine ⟨⟨u0,u1,u2,u3⟩,fun j hj=>?_⟩
    rcases (by omega:j=0 ∨ j=1 ∨ j=2 ∨ j=3) with rfl|rfl|rfl|rfl
    ·rw [e0,H0.out];exact z0
    ·rw [e1,H1.out];exact z1
    ·rw [e2,H2.out];exact z2
    ·rw [e3,H3.out];exact z3
   have NOZ:Hid (∀ j,j<4->¬ (∀ i,mm j<=i->i<esA j->gw h.words i=0)->∀ l,¬ LaidAt h l):=fun j hj hn l hl=>hn ((LA.out l hl).2 j hj)
   clear hmm
   by_cases he:(m0:Int)=h.old/\(m1:Int)=h.eden/\(m2:Int)=su2 h/\(m3:Int)=su3 h
   ·have BQ:((m0:Int) == h.old && ((m1:Int) == h.eden && ((m2:Int) == su2 h && (m3:Int) == su3 h)))=true:=by simp [he.1,he.2.1,he.2.2.1,he.2.2.2]
    have YES:Hid ((∀ j,j<4->∀ i,mm j<=i->i<esA j->gw h.words i=0)->LaidAt h (objsK h.words ns 4)):=fun z=>by
     obtain ⟨e0,e1,e2,e3⟩:=HMM.out
     have z0:=z 0 (by omega)
     have z1:=z 1 (by omega)
     have z2:=z 2 (by omega)
     have z3:=z 3 (by omega)
     rw [e0,H0.out] at z0
     rw [e1,H1.out] at z1
     rw [e2,H2.out] at z2
     rw [e3,H3.out] at z3
     obtain ⟨q0,q1,q2,q3⟩:=he
     rw [H0.out] at q0
     rw [H1.out] at q1
     rw [H2.out] at q2
     rw [H3.out] at q3
     exact ⟨ns 0,ns 1,ns 2,ns 3,⟨S0,S1,S2,S3⟩,⟨q0,q1,q2,q3⟩,⟨z0,z1,z2,z3⟩,hks.out⟩
    have HE:Hid ((m0:Int)=h.old/\(m1:Int)=h.eden/\(m2:Int)=su2 h/\(m3:Int)=su3 h):=he
    clear he LA S0 S1 S2 S3
    go_wp2_with fail
    go_loopw [45] (fun iv wr=>∃ k:Nat,k<=4/\iv=.int .i64 k/\Hid (∀ j,j<k->∀ i,mm j<=i->i<esA j->gw h.words i=0)/\Below wo.heap.size wo wr) (fun iv _=>4 - (intOf iv).toNat)
    case atStart=>exact ⟨0,by omega,rfl,fun j hj=>by omega,Below.refl _ _⟩
    case round =>
     obtain ⟨k,hk,rfl,hz,hb3⟩:=hrel
     obtain ⟨em0,em1,em2,em3⟩:=HMM.out
     have e0' : Hid (mm 0=m0):=em0
     have e1' : Hid (mm 1=m1):=em1
     have e2' : Hid (mm 2=m2):=em2
     have e3' : Hid (mm 3=m3):=em3
     clear em0 em1 em2 em3
     by_cases hlt:k<4
     ·rcases (by omega:k=0 ∨ k=1 ∨ k=2 ∨ k=3) with rfl|rfl|rfl|rfl
      ·rw [show ((0:Nat):Int)=0 from rfl]
       have al:=bel_after hb3 (bel_one wr (.cells #[.int .i64 0,.int .i64 ((m0:Nat):Int),.int .i64 2000] 207))
       have W3:=hW.later (bel_after hbWo al)
       have cb3:=cell_later al cbx
       have AN:=fun q c hq hc=>areNoughts_any _ _ _ (words_cut (q:=q) (c:=c) (m:=m0) (e:=2000) W3 HLN.out (by omega) hq hc) (by rw [cutL_length];omega)
       have LK:=LE0
       have CA:(cutL h.words m0 2000).all (· == 0)=true ↔ ∀ i,mm 0<=i->i<esA 0->gw h.words i=0:=by rw [e0'.out];exact cutL_all
       have BAD:Hid ((cutL h.words m0 2000).all (· == 0)=false->∀ l,¬ LaidAt h l):=fun e=>NOZ.out 0 (by omega) (fun z=>by rw [CA.2 z] at e;cases e)
       have NXT:Hid ((cutL h.words m0 2000).all (· == 0)=true->∀ j,j<0+1->∀ i,mm j<=i->i<esA j->gw h.words i=0):=fun e=>all_upto hz.out (CA.1 e)
       cases hca:(cutL h.words m0 2000).all (· == 0)
       ·have G:Hid (∀ l,¬ LaidAt h l):=BAD.out hca
        simp only [hca] at AN
        clear BAD NXT CA W3
        go_wp2_with (go_at_call 171;refine (AN (o+m0) (cap - m0) (.inr rfl) (by omega)).mono ?_;rintro x wq ⟨rfl,hq⟩;obtain rfl:=hq.symm)
        exact bodyPost_ret (v:=.tuple #[.slice none 0 0,.bool false]) (by simp [results,Tryz.results130,go_sem]) rfl ⟨.inr ⟨rfl,G.out⟩,bel_after hbWo al⟩
       ·have N:=NXT.out hca
        simp only [hca] at AN
        clear BAD NXT CA W3
        go_wp2_with (go_at_call 171;refine (AN (o+m0) (cap - m0) (.inr rfl) (by omega)).mono ?_;rintro x wq ⟨rfl,hq⟩;obtain rfl:=hq.symm)
        exact ⟨⟨0+1,by omega,by go_num,N,al⟩,by simp [intOf]⟩
      ·rw [show ((1:Nat):Int)=1 from rfl]
       have al:=bel_after hb3 (bel_one wr (.cells #[.int .i64 2000,.int .i64 ((m1:Nat):Int),.int .i64 2600] 207))
       have W3:=hW.later (bel_after hbWo al)
       have cb3:=cell_later al cbx
       have AN:=fun q c hq hc=>areNoughts_any _ _ _ (words_cut (q:=q) (c:=c) (m:=m1) (e:=2600) W3 HLN.out (by omega) hq hc) (by rw [cutL_length];omega)
       have LK:=LE1
       have CA:(cutL h.words m1 2600).all (· == 0)=true ↔ ∀ i,mm 1<=i->i<esA 1->gw h.words i=0:=by rw [e1'.out];exact cutL_all
       have BAD:Hid ((cutL h.words m1 2600).all (· == 0)=false->∀ l,¬ LaidAt h l):=fun e=>NOZ.out 1 (by omega) (fun z=>by rw [CA.2 z] at e;cases e)
       have NXT:Hid ((cutL h.words m1 2600).all (· == 0)=true->∀ j,j<1+1->∀ i,mm j<=i->i<esA j->gw h.words i=0):=fun e=>all_upto hz.out (CA.1 e)
       cases hca:(cutL h.words m1 2600).all (· == 0)
       ·have G:Hid (∀ l,¬ LaidAt h l):=BAD.out hca
        simp only [hca] at AN
        clear BAD NXT CA W3
        go_wp2_with (go_at_call 171;refine (AN (o+m1) (cap - m1) (.inr rfl) (by omega)).mono ?_;rintro x wq ⟨rfl,hq⟩;obtain rfl:=hq.symm)
        exact bodyPost_ret (v:=.tuple #[.slice none 0 0,.bool false]) (by simp [results,Tryz.results130,go_sem]) rfl ⟨.inr ⟨rfl,G.out⟩,bel_after hbWo al⟩
       ·have N:=NXT.out hca
        simp only [hca] at AN
        clear BAD NXT CA W3
        go_wp2_with (go_at_call 171;refine (AN (o+m1) (cap - m1) (.inr rfl) (by omega)).mono ?_;rintro x wq ⟨rfl,hq⟩;obtain rfl:=hq.symm)
        exact ⟨⟨1+1,by omega,by go_num,N,al⟩,by simp [intOf]⟩
      ·rw [show ((2:Nat):Int)=2 from rfl]
       have al:=bel_after hb3 (bel_one wr (.cells #[.int .i64 2600,.int .i64 ((m2:Nat):Int),.int .i64 2900] 207))
       have W3:=hW.later (bel_after hbWo al)
       have cb3:=cell_later al cbx
       have AN:=fun q c hq hc=>areNoughts_any _ _ _ (words_cut (q:=q) (c:=c) (m:=m2) (e:=2900) W3 HLN.out (by omega) hq hc) (by rw [cutL_length];omega)
       have LK:=LE2
       have CA:(cutL h.words m2 2900).all (· == 0)=true ↔ ∀ i,mm 2<=i->i<esA 2->gw h.words i=0:=by rw [e2'.out];exact cutL_all
       have BAD:Hid ((cutL h.words m2 2900).all (· == 0)=false->∀ l,¬ LaidAt h l):=fun e=>NOZ.out 2 (by omega) (fun z=>by rw [CA.2 z] at e;cases e)
       have NXT:Hid ((cutL h.words m2 2900).all (· == 0)=true->∀ j,j<2+1->∀ i,mm j<=i->i<esA j->gw h.words i=0):=fun e=>all_upto hz.out (CA.1 e)
       cases hca:(cutL h.words m2 2900).all (· == 0)
       ·have G:Hid (∀ l,¬ LaidAt h l):=BAD.out hca
        simp only [hca] at AN
        clear BAD NXT CA W3
        go_wp2_with (go_at_call 171;refine (AN (o+m2) (cap - m2) (.inr rfl) (by omega)).mono ?_;rintro x wq ⟨rfl,hq⟩;obtain rfl:=hq.symm)
        exact bodyPost_ret (v:=.tuple #[.slice none 0 0,.bool false]) (by simp [results,Tryz.results130,go_sem]) rfl ⟨.inr ⟨rfl,G.out⟩,bel_after hbWo al⟩
       ·have N:=NXT.out hca
        simp only [hca] at AN
        clear BAD NXT CA W3
        go_wp2_with (go_at_call 171;refine (AN (o+m2) (cap - m2) (.inr rfl) (by omega)).mono ?_;rintro x wq ⟨rfl,hq⟩;obtain rfl:=hq.symm)
        exact ⟨⟨2+1,by omega,by go_num,N,al⟩,by simp [intOf]⟩
      ·rw [show ((3:Nat):Int)=3 from rfl]
       have al:=bel_after hb3 (bel_one wr (.cells #[.int .i64 2900,.int .i64 ((m3:Nat):Int),.int .i64 3200] 207))
       have W3:=hW.later (bel_after hbWo al)
       have cb3:=cell_later al cbx
       have AN:=fun q c hq hc=>areNoughts_any _ _ _ (words_cut (q:=q) (c:=c) (m:=m3) (e:=3200) W3 HLN.out (by omega) hq hc) (by rw [cutL_length];omega)
       have LK:=LE3
       have CA:(cutL h.words m3 3200).all (· == 0)=true ↔ ∀ i,mm 3<=i->i<esA 3->gw h.words i=0:=by rw [e3'.out];exact cutL_all
       have BAD:Hid ((cutL h.words m3 3200).all (· == 0)=false->∀ l,¬ LaidAt h l):=fun e=>NOZ.out 3 (by omega) (fun z=>by rw [CA.2 z] at e;cases e)
       have NXT:Hid ((cutL h.words m3 3200).all (· == 0)=true->∀ j,j<3+1->∀ i,mm j<=i->i<esA j->gw h.words i=0):=fun e=>all_upto hz.out (CA.1 e)
       by_cases hcm:cap<=m3
       ·have hcm2:m3<=cap:=by omega
        cases hca:(cutL h.words m3 3200).all (· == 0)
        ·have G:Hid (∀ l,¬ LaidAt h l):=BAD.out hca
         simp only [hca] at AN
         clear BAD NXT CA W3
         go_wp2_with (go_at_call 171;refine (AN o 0 (.inl (by omega)) (by omega)).mono ?_;rintro x wq ⟨rfl,hq⟩;obtain rfl:=hq.symm)
         exact bodyPost_ret (v:=.tuple #[.slice none 0 0,.bool false]) (by simp [results,Tryz.results130,go_sem]) rfl ⟨.inr ⟨rfl,G.out⟩,bel_after hbWo al⟩
        ·have N:=NXT.out hca
         simp only [hca] at AN
         clear BAD NXT CA W3
         go_wp2_with (go_at_call 171;refine (AN o 0 (.inl (by omega)) (by omega)).mono ?_;rintro x wq ⟨rfl,hq⟩;obtain rfl:=hq.symm)
         exact ⟨⟨3+1,by omega,by go_num,N,al⟩,by simp [intOf]⟩
       ·have hcm2:m3<cap:=by omega
        cases hca:(cutL h.words m3 3200).all (· == 0)
        ·have G:Hid (∀ l,¬ LaidAt h l):=BAD.out hca
         simp only [hca] at AN
         clear BAD NXT CA W3
         go_wp2_with (go_at_call 171;refine (AN (o+m3) (cap - m3) (.inr rfl) (by omega)).mono ?_;rintro x wq ⟨rfl,hq⟩;obtain rfl:=hq.symm)
         exact bodyPost_ret (v:=.tuple #[.slice none 0 0,.bool false]) (by simp [results,Tryz.results130,go_sem]) rfl ⟨.inr ⟨rfl,G.out⟩,bel_after hbWo al⟩
        ·have N:=NXT.out hca
         simp only [hca] at AN
         clear BAD NXT CA W3
         go_wp2_with (go_at_call 171;refine (AN (o+m3) (cap - m3) (.inr rfl) (by omega)).mono ?_;rintro x wq ⟨rfl,hq⟩;obtain rfl:=hq.symm)
         exact ⟨⟨3+1,by omega,by go_num,N,al⟩,by simp [intOf]⟩
     ·obtain rfl:k=4:=by omega
      rw [show ((4:Nat):Int)=4 from rfl]
      have G:=YES.out hz.out
      have hown3:=own_mono (own_later hown hb3) (B':=w.heap.size) (by omega)
      go_wp2
      exact bodyPost_ret (v:=.tuple #[ov,.bool true]) (by simp [results,Tryz.results130,go_sem]) rfl ⟨.inl ⟨_,ov,by omega,rfl,hown3,G⟩,bel_after hbWo hb3⟩
   ·have BQ:((m0:Int) == h.old && ((m1:Int) == h.eden && ((m2:Int) == su2 h && (m3:Int) == su3 h)))=false:=by
     rw [Bool.eq_false_iff]
     intro q
     simp only [Bool.and_eq_true,beq_iff_eq] at q
     exact he q
    have G:Hid (∀ l,¬ LaidAt h l):=fun l hl=>he (LA.out l hl).1
    clear he LA S0 S1 S2 S3 NOZ
    go_wp2
    exact bodyPost_ret (v:=.tuple #[.slice none 0 0,.bool false]) (by simp [results,Tryz.results130,go_sem]) rfl ⟨.inr ⟨rfl,G.out⟩,hbWo⟩
end Go.Proofs.YtgnbibinclepcaaGreatDoor
