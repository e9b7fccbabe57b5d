
import Derived.Test.YtgnbibinclepcaaGreatDoorZGShP
import Derived.Test.YtgnbibinclepcaaGreatDoorZP23
/- The tour of the model, with what it wants. -/
namespace Go.Proofs.YtgnbibinclepcaaGreatDoor
end Go.Proofs.YtgnbibinclepcaaGreatDoor
/- follow, tourOf and renamed of the program: the objects in the order in which they are come to, their numbers in a map. -/
namespace Go.Proofs.YtgnbibinclepcaaGreatDoor
open Go.RowKit Go.Maps
def numF (o:List Nat) (k:Int):Option Int:=if 0<=k/\k.toNat ∈ o then some ((o.idxOf k.toNat:Nat):Int) else none
theorem numF_new {o:List Nat} {a:Nat} (h:a ∉ o):putF (numF o) (a:Int) (o.length:Int)=numF (o ++ [a]):=by
 funext j
 unfold putF numF
 by_cases e:j=(a:Int)
 ·subst e
  rw [if_pos rfl,if_pos ⟨by omega,by simp⟩,Int.toNat_natCast,List.idxOf_append,if_neg h]
  simp
 ·rw [if_neg e]
  by_cases hj:0<=j
  ·by_cases m:j.toNat ∈ o
   ·rw [if_pos ⟨hj,m⟩,if_pos ⟨hj,by simp [m]⟩,List.idxOf_append,if_pos m]
   ·rw [if_neg (fun q=>m q.2),if_neg (fun q=>m (by
     have:=q.2
     rw [List.mem_append,List.mem_singleton] at this
     rcases this with k|k
     ·exact k
     ·exact absurd (show j=(a:Int) by omega) e))]
  ·rw [if_neg (fun q=>hj q.1),if_neg (fun q=>hj q.1)]
theorem numF_nil:numF []=fun _=>none:=by
 funext j
 unfold numF
 rw [if_neg (by simp)]
theorem numF_at {o:List Nat} {a:Nat}:numF o (a:Int)=if a ∈ o then some ((o.idxOf a:Nat):Int) else none:=by
 unfold numF
 by_cases m:a ∈ o
 ·rw [if_pos ⟨by omega,by simpa using m⟩,if_pos m,Int.toNat_natCast]
 ·rw [if_neg (fun q=>m (by simpa using q.2)),if_neg m]
structure Tour (B:Nat) (w:World) (T M:Nat) (n:Nat) (o:List Nat) (ov:Value):Prop where
 bx:w.rowIs T 76 2 (fun i=>if i=0 then ov else .map (some M))
 ob:w.ownsRow B 2 1 ov o.length (icells (ints o))
 mp:MP w M n (numF o)
 tl:B<=T/\B<=M/\M ≠ T
 ap:ov.ownBlock ≠ some T/\ov.ownBlock ≠ some M
theorem Tour.grew {B:Nat} {w w' : World} {T M n:Nat} {o:List Nat} {ov:Value} {S:Nat->Prop} (h:Tour B w T M n o ov) (g:Grew w w' S) (hs:∀ b,S b->b ≠ T/\b ≠ M/\ov.ownBlock ≠ some b):Tour B w' T M n o ov :=
 ⟨g.row h.bx (fun q=>(hs _ q).1 rfl),g.own h.ob (fun b e q=>(hs b q).2.2 e),g.mp h.mp (fun q=>(hs _ q).2.1 rfl),h.tl,h.ap⟩
theorem Tour.put {B:Nat} {w w1 w2 w3:World} {T M n a:Nat} {o:List Nat} {ov ov1:Value} (h:Tour B w T M n o ov) (g1:w.grownBy w1 (some M)) (m1:MP w1 M (n+1) (putF (numF o) (a:Int) (o.length:Int))) (ha:a ∉ o)
  (al:Below w1.heap.size w1 w2) (ho:w3.ownsRow B 2 1 ov1 (o.length+1) (icells (ints o) ++ [.int .i64 (a:Int)])) (g3:w2.grownBy w3 ov.ownBlock) (hl:ov1.ownBlock=ov.ownBlock ∨ ov1.ownBlock=some w2.heap.size) :
  Tour B (w3.setCell ⟨T,0,none⟩ ov1) T M (n+1) (o ++ [a]) ov1/\Grew w (w3.setCell ⟨T,0,none⟩ ov1) (fun k=>k=T ∨ k=M ∨ ov.ownBlock=some k)/\(∀ b,ov1.ownBlock=some b->ov.ownBlock=some b ∨ w.heap.size<=b):=by
 have G1:Grew w w1 (fun k=>k=T ∨ k=M ∨ ov.ownBlock=some k):=(Grew.grown g1).mono fun b _ e=>.inr (.inl (by cases e;rfl))
 have G2:Grew w1 w3 (fun k=>ov.ownBlock=some k):=(Grew.new al _).trans (Grew.grown g3)
 have G4:=Grew.set w3 T 0 ov1
 have tlt:=h.bx.lt
 have mlt:=h.mp.lt
 have sz1:=g1.size
 have sz2:=al.size
 have hl2:∀ b,ov1.ownBlock=some b->ov.ownBlock=some b ∨ w.heap.size<=b:=fun b e=>by
  rcases hl with k|k
  ·exact .inl (by rw [<- k];exact e)
  ·rw [k] at e;simp at e;exact .inr (by omega)
 have nT:ov1.ownBlock ≠ some T:=fun e=>by
  rcases hl2 T e with k|k
  ·exact h.ap.1 k
  ·omega
 have nM:ov1.ownBlock ≠ some M:=fun e=>by
  rcases hl2 M e with k|k
  ·exact h.ap.2 k
  ·omega
 have hne:=h.tl.2.2
 have b1:=(Grew.grown g1).row h.bx (fun e=>hne (by simpa using e))
 have b3:=G2.row b1 h.ap.1
 refine ⟨⟨?_,?_,?_,h.tl,nT,nM⟩,(G1.trans (G2.mono fun b _ e=>.inr (.inr e))).trans (G4.mono fun b _ e=>.inl e),hl2⟩
 ·refine (b3.set 0 ov1).congr fun i _=>?_
  by_cases e:i=0 <;> simp [e]
 ·have:=G4.own ho (fun b e q=>nT (by rw [e,q]))
  simpa [icells,ints] using this
 ·have:=G4.mp (G2.mp m1 h.ap.2) hne
  rwa [numF_new ha] at this
theorem refOf_fit {x:Int} (h:isK 2 x=true):∃ a:Nat,a<3200/\(x / 2).toNat=a/\valK 2 x=(a:Int):=by
 obtain ⟨a,ha,e,_,_⟩:∃ a:Nat,a<3200/\(x / 2).toNat=a/\True/\True:=by
  unfold isK kindW at h
  have h':=of_decide_eq_true h
  split at h'
  ·split at h'
   ·rename_i h2
    unfold adrB at h2
    have h3:=of_decide_eq_true h2
    exact ⟨(x / 2).toNat,by omega,rfl,trivial,trivial⟩
   ·omega
  ·split at h' <;> omega
 refine ⟨a,ha,e,?_⟩
 rw [valK_yes h]
 unfold isK kindW at h
 have h':=of_decide_eq_true h
 split at h'
 ·split at h'
  ·rename_i h2
   unfold adrB at h2
   have h3:=of_decide_eq_true h2
   omega
  ·omega
 ·split at h' <;> omega
def FolOut (B T M n:Nat) (o:List Nat) (ov:Value) (ws:List Int) (w:World) (e:Ending) (w' : World):Prop :=
 e=.returned (.tuple #[])/\∃ ov' n',Tour B w' T M n' (fol o ws) ov' /\ n' <= n+ws.length/\(∀ b,ov'.ownBlock=some b->ov.ownBlock=some b ∨ w.heap.size<=b)/\Grew w w' (fun k=>k=T ∨ k=M ∨ ov.ownBlock=some k)
set_option maxRecDepth 100000 in
set_option maxHeartbeats 1600000 in
theorem follow_any (B T M n:Nat) (o:List Nat) (ov v:Value) (ws:List Int) (w:World) (ht:Tour B w T M n o ov) (hv:IR w v ws) (hva:∀ b,inB v b->b ≠ T/\b ≠ M/\ov.ownBlock ≠ some b) (hB:B<=w.heap.size) (hl:ws.length<=100000) (ho:∀ j,(fol o (ws.take j)).length<=100000) (hn:n<=100000000) :
  Calls Tryz.prog 95 #[.pointer (some ⟨T,0,none⟩),v] w fun e w'=>FolOut B T M n o ov ws w e w':=by
 obtain ⟨va,vc,rfl,_,hvc⟩:=id hv
 go_enter Tryz.func95,Tryz.ntmps95
 go_wp2
 go_loopw [12] (fun iv wr=>∃ (j n' : Nat) (ov' : Value),j<=ws.length/\iv=.int .i64 j/\Tour B wr T M n' (fol o (ws.take j)) ov' /\ n' <= n+j/\(∀ b,ov'.ownBlock=some b->ov.ownBlock=some b ∨ w.heap.size<=b)/\Grew w wr (fun k=>k=T ∨ k=M ∨ ov.ownBlock=some k)) (fun iv _=>ws.length - (intOf iv).toNat)
 case atStart=>exact ⟨0,n,ov,Nat.zero_le _,rfl,ht,Nat.le_refl _,fun b e=>.inl e,Grew.refl _ _⟩
 case round =>
  obtain ⟨j,n',ov',hj,rfl,ht',hn',hl',hg⟩:=hrel
  by_cases hjl:j<ws.length
  ·obtain ⟨vb,vo,rfl,hcw⟩:=hvc j hjl
   have hcr:=hg.cell hcw (fun q=>by
    obtain ⟨q1,q2,q3⟩:=hva vb ⟨vo,_,_,rfl,by omega⟩
    rcases q with q|q|q
    ·exact q1 q
    ·exact q2 q
    ·exact q3 q)
   have SN:=fol_snoc o ws j hjl
   have hob:=ho j
   generalize ws.getD j 0=x at *
   have hji:(j:Int)<ws.length:=by omega
   have HG:Hid (Grew w wr (fun k=>k=T ∨ k=M ∨ ov.ownBlock=some k)):=hg
   clear hg hcw hva hvc ho
   cases hx:isK 2 x
   ·have F1:Hid (fol o (ws.take (j+1))=fol o (ws.take j)):=(by rw [SN];unfold fol1;rw [hx];rfl:fol o (ws.take (j+1))=fol o (ws.take j))
    clear SN
    go_wp2_with (go_at_call 96;refine (implRefOf_any _ _).mono ?_;rintro e w' ⟨rfl,hw'⟩;obtain rfl:=hw'.symm;rw [hx])
    exact ⟨⟨j+1,n',ov',by omega,by go_num,by rw [F1.out];exact ht',by omega,hl',HG.out⟩,by simp [intOf];omega⟩
   ·obtain ⟨a,ha,hat,hval⟩:=refOf_fit hx
    have b0:wr.cell? ⟨T,0,none⟩=some ov':=ht'.bx.cell (i:=0) (by omega)
    have b1:wr.cell? ⟨T,1,none⟩=some (.map (some M)):=ht'.bx.cell (i:=1) (by omega)
    have a64:In64 (a:Int):=⟨by omega,by omega⟩
    obtain ⟨oa,oc,hov⟩:=own_shape ht'.ob
    subst hov
    have NA:=numF_at (o:=fol o (ws.take j)) (a:=a)
    by_cases hm:a ∈ fol o (ws.take j)
    ·have F1:Hid (fol o (ws.take (j+1))=fol o (ws.take j)):=(by rw [SN];unfold fol1;rw [if_pos hx,hat,if_pos hm]:fol o (ws.take (j+1))=fol o (ws.take j))
     rw [if_pos hm] at NA
     have N1:Hid (numF (fol o (ws.take j)) (a:Int)=some (((fol o (ws.take j)).idxOf a:Nat):Int)):=NA
     clear SN NA
     go_wp2_with (first
      | (go_at_call 96;refine (implRefOf_any _ _).mono ?_;rintro e w' ⟨rfl,hw'⟩;obtain rfl:=hw'.symm;rw [hx,hval])
      | (at_lookup;refine look_ok _ rfl _ _ rfl M n' _ rfl ht'.mp _ rfl a64 ?_;rw [N1.out]))
     exact ⟨⟨j+1,n',_,by omega,by go_num,by rw [F1.out];exact ht',by omega,hl',HG.out⟩,by simp [intOf];omega⟩
    ·have F1:Hid (fol o (ws.take (j+1))=fol o (ws.take j) ++ [a]):=(by rw [SN];unfold fol1;rw [if_pos hx,hat,if_neg hm]:fol o (ws.take (j+1))=fol o (ws.take j) ++ [a])
     rw [if_neg hm] at NA
     have N1:Hid (numF (fol o (ws.take j)) (a:Int)=none):=NA
     clear SN NA
     have mpd:MP wr.drew M n' (numF (fol o (ws.take j))):=(Grew.refl wr (fun _=>False)).drew.mp ht'.mp (fun q=>q)
     obtain ⟨w1,hrun,m1,gr1⟩:=mpd.update (by omega) (a:Int) ((fol o (ws.take j)).length:Int) a64 ⟨by omega,by omega⟩
     go_wp2_with (first
      | (go_at_call 96;refine (implRefOf_any _ _).mono ?_;rintro e w' ⟨rfl,hw'⟩;obtain rfl:=hw'.symm;rw [hx,hval])
      | (at_lookup;refine look_ok _ rfl _ _ rfl M n' _ rfl ht'.mp _ rfl a64 ?_;rw [N1.out]))
     go_region
     have gr2:wr.grownBy w1 (some M):=⟨gr1.os,gr1.tape,gr1.output,gr1.size,gr1.block⟩
     have R1:=(Grew.grown gr2).row ht'.bx (fun e=>ht'.tl.2.2 (by simpa using e))
     have O1:=(Grew.grown gr2).own ht'.ob (fun b e q=>ht'.ap.2 (by rw [e];exact q.symm))
     have t0:w1.cell? ⟨T,0,none⟩=some (.slice oa (fol o (ws.take j)).length oc):=R1.cell (i:=0) (by omega)
     have al:=bel_one w1 (.cells #[.int .i64 (a:Int)] 2)
     have t0':=cell_later al t0
     have O2:=own_later O1 al
     have sB:B<=w1.heap.size:=Nat.le_trans hB (Nat.le_trans HG.out.size gr2.size)
     have hc:∀ W:World,(W.alloc (.cells #[.int .i64 (a:Int)] 2)).cell? ⟨W.heap.size,0,none⟩=some (.int .i64 (a:Int)):=fun W=>by simp
     have PT:Hid (∀ w3 fo fc,w3.ownsRow B 2 1 (.slice fo ((fol o (ws.take j)).length+1) fc) ((fol o (ws.take j)).length+1) (icells (ints (fol o (ws.take j))) ++ [.int .i64 (a:Int)])->(w1.alloc (.cells #[.int .i64 (a:Int)] 2)).grownBy w3 (Value.ownBlock (.slice oa (fol o (ws.take j)).length oc)) →
      (Value.ownBlock (.slice fo ((fol o (ws.take j)).length+1) fc)=Value.ownBlock (.slice oa (fol o (ws.take j)).length oc) ∨ Value.ownBlock (.slice fo ((fol o (ws.take j)).length+1) fc)=some (w1.alloc (.cells #[.int .i64 (a:Int)] 2)).heap.size)->_):=fun w3 fo fc q1 q2 q3=>ht'.put gr2 m1 hm al q1 q2 q3
     have GF:Hid (∀ w3,(w1.alloc (.cells #[.int .i64 (a:Int)] 2)).grownBy w3 (Value.ownBlock (.slice oa (fol o (ws.take j)).length oc))->w3.frozen? ⟨T,0,none⟩=false/\w3.cell? ⟨T,0,none⟩=some (.slice oa (fol o (ws.take j)).length oc)):=fun w3 q=>by
      have R:=(Grew.grown q).row ((Grew.new al (fun _=>False)).row R1 (fun q=>q)) ht'.ap.1
      exact ⟨R.frozen 0,R.cell (i:=0) (by omega)⟩
     have LO:Hid (∀ b,Value.ownBlock (.slice oa (fol o (ws.take j)).length oc)=some b->ov.ownBlock=some b ∨ w.heap.size<=b):=hl'
     have HSZ:Hid (w.heap.size<=wr.heap.size):=HG.out.size
     clear b0 b1 R1 O1 mpd hrun m1 gr1 hm
     go_wp2_with (at_builtin;refine app_at _ rfl _ _ rfl B _ (fol o (ws.take j)).length (icells (ints (fol o (ws.take j)))) rfl O2 _ 1 a rfl (hc _) (by omega) (Nat.le_trans sB (by simp)) ?_;intro v4 w4 hown4 hg4 hloc;(obtain ⟨fo,fc,hv4⟩:=own_shape hown4);subst hv4;have hg5:(w1.alloc (.cells #[.int .i64 (a:Int)] 2)).grownBy w4 (Value.ownBlock (.slice oa (fol o (ws.take j)).length oc)):=hg4;have SF:=PT.out w4 fo fc hown4 hg5 hloc;(obtain ⟨fz,cz⟩:=GF.out w4 hg5))
     obtain ⟨sf1,sf2,sf3⟩:=SF
     refine ⟨⟨j+1,n' + 1,_,by omega,by go_num,by rw [F1.out];exact sf1,by omega,fun b e=>?_,HG.out.trans' sf2 (fun b e=>?_)⟩,by simp [intOf];omega⟩
     ·rcases sf3 b e with k|k
      ·exact LO.out b k
      ·exact .inr (Nat.le_trans HSZ.out k)
     ·rcases e with e|e|e
      ·exact .inl (.inl e)
      ·exact .inl (.inr (.inl e))
      ·rcases LO.out b e with k|k
       ·exact .inl (.inr (.inr k))
       ·exact .inr k
  ·obtain rfl:j=ws.length:=by omega
   rw [List.take_length] at ht'
   have G:Hid (FolOut B T M n o ov ws w (.returned (.tuple #[])) wr):=⟨rfl,ov',n',ht',hn',hl',hg⟩
   clear ht' hg hva hvc ho
   go_wp2
   exact bodyPost_ret (v:=.tuple #[]) (by simp [results,Tryz.results95,go_sem]) rfl G.out
end Go.Proofs.YtgnbibinclepcaaGreatDoor
