
import Derived.Test.YtgnbibinclepcaaGreatDoorZP24
import Derived.Test.YtgnbibinclepcaaGreatDoorZGTourO
import Derived.Test.YtgnbibinclepcaaGreatDoorZP12
import Derived.Test.YtgnbibinclepcaaGreatDoorZP11
import Derived.Test.YtgnbibinclepcaaGreatDoorZP23
import Derived.Laws.MakeOwn
/- Reached of the model and of the program. -/
namespace Go.Proofs.YtgnbibinclepcaaGreatDoor
open Go.RowKit
def rsum (W:List Int) (l:List Nat):Int:=(l.map fun a=>(nx W a:Int) - a).sum
theorem rsum_snoc (W:List Int) (l:List Nat) (k:Nat) (h:k<l.length):rsum W (l.take (k+1))=rsum W (l.take k)+((nx W (l.getD k 0):Int) - (l.getD k 0:Nat)):=by
 unfold rsum
 rw [ltake_snoc l k h,List.map_append,List.sum_append]
 simp
theorem reach_need {h:Hp} {l:List Nat} (r:RightAt h l) {k:Nat} (hk:k<(ordF h.words h.roots).length) :
  ∃ m:Nat,m<=60/\gw h.words ((ordF h.words h.roots).getD k 0)=(m:Int)/\(ordF h.words h.roots).getD k 0+4+m<=3200/\nx h.words ((ordF h.words h.roots).getD k 0)=(ordF h.words h.roots).getD k 0+4+m ∧
   rsum h.words ((ordF h.words h.roots).take (k+1))=rsum h.words ((ordF h.words h.roots).take k)+(4+m):=by
 obtain ⟨q1,q2,q3⟩:=r.1.obj (ord_sub r (lget_mem _ _ hk))
 have q4:=size_of q3
 obtain ⟨m,hm⟩:=Int.eq_ofNat_of_zero_le q4.1
 have hn:nx h.words ((ordF h.words h.roots).getD k 0)=(ordF h.words h.roots).getD k 0+4+m:=by unfold nx;rw [hm];rfl
 rw [hn] at q2
 refine ⟨m,by omega,hm,q2,hn,?_⟩
 rw [rsum_snoc _ _ _ hk,hn]
 omega
end Go.Proofs.YtgnbibinclepcaaGreatDoor
/- Shape and Reached of the model. -/
namespace Go.Proofs.YtgnbibinclepcaaGreatDoor
open Go.RowKit
theorem shape_c (h:Hp):shC h=if okC h=true then shP h else gr0:=rfl
theorem gres (w:World) (C:Array Value) (t:TypeId):((w.alloc (.cells C t)).alloc (.cells #[.slice none 0 0,.slice none 0 0,.int .i64 0] 41)).rowIs (w.heap.size+1) 41 3 (grF (.slice none 0 0) (.slice none 0 0) 0):=by
 have q:=graphC (w.alloc (.cells C t)) (.slice none 0 0) (.slice none 0 0) 0 41
 rwa [World.size_alloc] at q
end Go.Proofs.YtgnbibinclepcaaGreatDoor
/- Graphs in the laws: eqGraph, markGraph, heldGraph; graphs that own their memory. -/
namespace Go.Proofs.YtgnbibinclepcaaGreatDoor
open Go.RowKit
def mkK (k:Int) (ns:List Nd) (i:Nat):Int:=k+(((ns.take i).map fun n=>2+n.fl.length).sum:Nat)
end Go.Proofs.YtgnbibinclepcaaGreatDoor
/- Graphs that own their memory; markNodeS, markGraph, heldGraph. -/
namespace Go.Proofs.YtgnbibinclepcaaGreatDoor
open Go.RowKit
def mkF (k:Int) (ns:List Nd) (f:Nat->Value) (i j:Nat):Value:=if j<i * 3/\j % 3=0 then .int .i64 (mkK k ns (j / 3)) else if j<i * 3/\j % 3=1 then .int .i64 (mkK k ns (j / 3)+1) else f j
structure MkSt (w wr:World) (g N:Nat) (k:Int) (ns:List Nd) (f fv:Nat->Value) (i B:Nat):Prop where
 row:wr.rowIs g 73 N (mkF k ns f i)
 done:∀ j,j<i->IR wr (fv j) (imarks (mkK k ns j+2) (ns.getD j nd0).fl.length)
 left:∀ j,i<=j->j<ns.length->wr.ownsRow B 2 1 (fv j) (ns.getD j nd0).fl.length (icells (ns.getD j nd0).fl)
 grew:Grew w wr (fun b=>b=g ∨ ∃ j,j<ns.length/\(fv j).ownBlock=some b)
end Go.Proofs.YtgnbibinclepcaaGreatDoor
/- renamed of the program: words with each address changed for the one that it has in a map. -/
namespace Go.Proofs.YtgnbibinclepcaaGreatDoor
open Go.RowKit Go.Maps
def rnM (f:Int->Option Int) (x:Int):Int:=if isK 2 x=true then 2 * (f (x / 2)).getD 0+1 else x
theorem make_cap (n B:Nat) (hn:n<=100000000000) (w:World) (hB:B<=w.heap.size):∃ w',(Instr.makeSlice 24 (.int .i64 0) (.int .i64 (n:Int))).run Tryz.prog w=.ok (.slice (some ⟨w.heap.size,0,none⟩) 0 n) w' /\ w'.ownsRow B 2 1 (.slice (some ⟨w.heap.size,0,none⟩) 0 n) 0 []/\Below w.heap.size w w':=by
 obtain ⟨i,hi,hzz⟩:=Option.map_eq_some_iff.1 Tryz.infoI
 simp only [Prod.mk.injEq] at hzz
 obtain ⟨hz,hsz,hby⟩:=hzz
 obtain ⟨w',h1,h2,h3⟩:=run_make_own (P:=Tryz.prog) w B 24 2 i _ 1 Tryz.underlying24 hi hz hsz .i64 .i64 n (by rw [hby];omega) (by unfold maxLen;omega) hB
 exact ⟨w',h1,h2,⟨h3.os,h3.tape,h3.output,h3.size,fun k hk=>h3.block k hk (by simp)⟩⟩
set_option maxRecDepth 100000 in
set_option maxHeartbeats 1600000 in
theorem renamed_any (v:Value) (ws:List Int) (M n:Nat) (f:Int->Option Int) (w:World) (hv:IR w v ws) (hm:MP w M n f) (hl:ws.length<=100000000) (hf:∀ x,x ∈ ws->isK 2 x=true->0<=(f (x / 2)).getD 0/\(f (x / 2)).getD 0<=3199) :
  Calls Tryz.prog 48 #[v,.map (some M)] w fun e w'=>(∃ v',e=.returned v' /\ w'.ownsRow w.heap.size 2 1 v' ws.length (icells (ws.map (rnM f))))/\Below w.heap.size w w':=by
 obtain ⟨va,vc,rfl,_,hvc⟩:=id hv
 obtain ⟨wm,hrun,hown,hbm⟩:=make_cap ws.length w.heap.size (by omega) w (Nat.le_refl _)
 have HOW:Hid (wm.ownsRow w.heap.size 2 1 (.slice (some ⟨w.heap.size,0,none⟩) 0 ws.length) 0 []):=hown
 clear hown
 go_enter Tryz.func48,Tryz.ntmps48
 go_wp2
 go_loopw [5,15] (fun ovv iv wr=>∃ (j:Nat) (ov:Value),j<=ws.length/\iv=.int .i64 j/\ov=ovv/\wr.ownsRow w.heap.size 2 1 ov j (icells ((ws.take j).map (rnM f)))/\Below w.heap.size w wr) (fun _ iv _=>ws.length - (intOf iv).toNat)
 case atStart=>exact ⟨0,_,Nat.zero_le _,rfl,rfl,HOW.out,hbm⟩
 case round =>
  obtain ⟨j,ov,hj,rfl,rfl,ho,hb⟩:=hrel
  by_cases hjl:j<ws.length
  ·obtain ⟨vb,vo,rfl,hcw⟩:=hvc j hjl
   have hcr:=cell_later hb hcw
   have TS:Hid ((ws.take (j+1)).map (rnM f)=(ws.take j).map (rnM f) ++ [rnM f (ws.getD j 0)]):=(by rw [itake_snoc _ _ hjl];simp:(ws.take (j+1)).map (rnM f)=(ws.take j).map (rnM f) ++ [rnM f (ws.getD j 0)])
   have hfx:=hf (ws.getD j 0) (by simp [hjl])
   have RN:Hid (rnM f (ws.getD j 0)=if isK 2 (ws.getD j 0)=true then 2 * (f (ws.getD j 0 / 2)).getD 0+1 else ws.getD j 0):=rfl
   generalize rnM f (ws.getD j 0)=y at *
   generalize ws.getD j 0=x at *
   have hji:(j:Int)<ws.length:=by omega
   have hsz:=hb.size
   clear hcw hvc hf hrun HOW
   have FIN:Hid (∀ (z:Int) (w3:World) v3,y=z->w3.ownsRow w.heap.size 2 1 v3 (j+1) (icells ((ws.take j).map (rnM f)) ++ [.int .i64 z])->(wr.alloc (.cells #[.int .i64 z] 2)).grownBy w3 ov.ownBlock->w3.ownsRow w.heap.size 2 1 v3 (j+1) (icells ((ws.take (j+1)).map (rnM f)))/\Below w.heap.size w w3):=fun z w3 v3 e q1 q2=>by
    subst e
    refine ⟨by rw [TS.out];simpa [icells] using q1,?_⟩
    exact (hb.trans (bel_one wr _ |>.mono hb.size)).trans ((Grew.grown q2).below (by simp;omega) fun k _ e=>(ho.lt k e).1)
   cases hx:isK 2 x
   ·rw [hx] at RN
    have RN' : Hid (y=x):=RN
    clear RN hfx TS
    have al:=bel_one wr (.cells #[.int .i64 x] 2)
    have ho2:=own_later ho al
    have hc:∀ W:World,(W.alloc (.cells #[.int .i64 x] 2)).cell? ⟨W.heap.size,0,none⟩=some (.int .i64 x):=fun W=>by simp
    go_wp2_with (first
     | (go_at_call 96;refine (implRefOf_any _ _).mono ?_;rintro e w' ⟨rfl,hw'⟩;obtain rfl:=hw'.symm;rw [hx])
     | (at_builtin;refine app_at _ rfl _ _ rfl w.heap.size _ j (icells ((ws.take j).map (rnM f))) rfl ho2 _ 1 x rfl (hc _) (by omega) (Nat.le_trans hsz (by simp)) ?_;intro v4 w4 hown4 hg4 hloc;have SF:=FIN.out x w4 v4 RN'.out hown4 hg4))
    exact ⟨⟨j+1,v4,by omega,by go_num,rfl,SF.1,SF.2⟩,by simp [intOf];omega⟩
   ·rw [hx] at RN
    have RN' : Hid (y=2 * (f (x / 2)).getD 0+1):=RN
    have hval:=valK_yes hx
    obtain ⟨y1,y2⟩:=hfx hx
    obtain ⟨a,ha,hat,hva⟩:=refOf_fit hx
    have e2:x / 2=(a:Int):=by rw [<- hva,hval]
    rw [e2] at RN' y1 y2 hval
    have a64:In64 (a:Int):=⟨by omega,by omega⟩
    have hmr:=hm.later hb
    clear RN hfx TS e2 hat hva
    have adr:∀ z,(f (a:Int)).getD 0=z->adrB z=true:=fun z e=>by subst e;exact decide_eq_true ⟨y1,y2⟩
    generalize hz:(f (a:Int)).getD 0=z at *
    have HZ:Hid ((f (a:Int)).getD 0=z):=hz
    have had:=adr z rfl
    clear adr hz
    have al:=bel_one wr (.cells #[.int .i64 (2 * z+1)] 2)
    have ho2:=own_later ho al
    have hc:∀ W:World,(W.alloc (.cells #[.int .i64 (2 * z+1)] 2)).cell? ⟨W.heap.size,0,none⟩=some (.int .i64 (2 * z+1)):=fun W=>by simp
    go_wp2_with (first
     | (go_at_call 96;refine (implRefOf_any _ _).mono ?_;rintro e w' ⟨rfl,hw'⟩;obtain rfl:=hw'.symm;rw [hx,hval])
     | (at_lookup;refine look_up _ rfl _ _ rfl M n f rfl hmr _ rfl a64 ?_;rw [HZ.out])
     | (go_at_call 97;refine (refWord_any _ _ had).mono ?_;rintro e w' ⟨rfl,hw'⟩;obtain rfl:=hw'.symm)
     | (at_builtin;refine app_at _ rfl _ _ rfl w.heap.size _ j (icells ((ws.take j).map (rnM f))) rfl ho2 _ 1 (2 * z+1) rfl (hc _) (by omega) (Nat.le_trans hsz (by simp)) ?_;intro v4 w4 hown4 hg4 hloc;have SF:=FIN.out (2 * z+1) w4 v4 RN'.out hown4 hg4))
    exact ⟨⟨j+1,v4,by omega,by go_num,rfl,SF.1,SF.2⟩,by simp [intOf];omega⟩
  ·obtain rfl:j=ws.length:=by omega
   rw [List.take_length] at ho
   clear hvc hf hjl hrun HOW
   go_wp2
   go_ret
   exact ⟨⟨_,rfl,ho⟩,hb⟩
theorem rn_num {F:List Nat} {x:Int} (h:isK 2 x=true->(x / 2).toNat ∈ F):rnM (numF F) x=ren F x:=by
 unfold rnM ren
 split
 ·rename_i hk
  obtain ⟨a,ha,e,ev⟩:=refOf_fit hk
  rw [valK_yes hk] at ev
  have hm:=h hk
  rw [e] at hm ⊢
  rw [ev,numF_at,if_pos hm]
  rfl
 ·rfl
theorem rn_range {F:List Nat} (h3:F.length<=3200) {x:Int} (_:isK 2 x=true):0<=(numF F (x / 2)).getD 0/\(numF F (x / 2)).getD 0<=3199:=by
 unfold numF
 split
 ·rename_i q
  have:=List.idxOf_lt_length_of_mem q.2
  show 0<=((F.idxOf (x / 2).toNat:Nat):Int)/\((F.idxOf (x / 2).toNat:Nat):Int)<=3199
  omega
 ·exact ⟨by simp,by simp⟩
end Go.Proofs.YtgnbibinclepcaaGreatDoor
