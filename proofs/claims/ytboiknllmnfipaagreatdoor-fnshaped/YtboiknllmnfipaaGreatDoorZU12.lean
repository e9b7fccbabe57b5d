
import Derived.Test.YtboiknllmnfipaaGreatDoorZU5
import Derived.Test.YtboiknllmnfipaaGreatDoorZU6
/- follow, tourOf and renamed of the program: the objects in the order in which they are come to, their numbers in a map. -/
namespace Go.Proofs.YtboiknllmnfipaaGreatDoor
open Go.RowKit Go.Maps
def Ra (o:List Nat) (k:Int):Option Int:=if 0<=k/\k.toNat ∈ o then some ((o.idxOf k.toNat:Nat):Int) else none
theorem Jjh {o:List Nat} {a:Nat} (h:a ∉ o):Jdr (Ra o) (a:Int) (o.length:Int)=Ra (o ++ [a]):=by
 funext j
 unfold Jdr Ra
 by_cases e:j=(a:Int)
 ·subst e
  rw [if_pos rfl,if_pos ⟨by omega,by simp⟩,Int.toNat_natCast,List.idxOf_append,if_neg h]
  simp
 ·rw [if_neg e]
  by_cases hj:0<=j
  ·by_cases m:j.toNat ∈ o
   ·rw [if_pos ⟨hj,m⟩,if_pos ⟨hj,by simp [m]⟩,List.idxOf_append,if_pos m]
   ·rw [if_neg (fun q=>m q.2),if_neg (fun q=>m (by
     have:=q.2
     rw [List.mem_append,List.mem_singleton] at this
     rcases this with k|k
     ·exact k
     ·exact absurd (show j=(a:Int) by omega) e))]
  ·rw [if_neg (fun q=>hj q.1),if_neg (fun q=>hj q.1)]
theorem Jhe:Ra []=fun _=>none:=by
 funext j
 unfold Ra
 rw [if_neg (by simp)]
theorem Jeo {o:List Nat} {a:Nat}:Ra o (a:Int)=if a ∈ o then some ((o.idxOf a:Nat):Int) else none:=by
 unfold Ra
 by_cases m:a ∈ o
 ·rw [if_pos ⟨by omega,by simpa using m⟩,if_pos m,Int.toNat_natCast]
 ·rw [if_neg (fun q=>m (by simpa using q.2)),if_neg m]
structure Tour (B:Nat) (w:World) (T M:Nat) (n:Nat) (o:List Nat) (ov:Value):Prop where
 bx:w.rowIs T 46 2 (fun i=>if i=0 then ov else .map (some M))
 ob:w.ownsRow B 2 1 ov o.length (icells (ints o))
 mp:MP w M n (Ra o)
 tl:B<=T/\B<=M/\M ≠ T
 ap:ov.ownBlock ≠ some T/\ov.ownBlock ≠ some M
theorem Tour.grew {B:Nat} {w w' : World} {T M n:Nat} {o:List Nat} {ov:Value} {S:Nat->Prop} (h:Tour B w T M n o ov) (g:Grew w w' S) (hs:∀ b,S b->b ≠ T/\b ≠ M/\ov.ownBlock ≠ some b):Tour B w' T M n o ov :=
 ⟨g.row h.bx (fun q=>(hs _ q).1 rfl),g.own h.ob (fun b e q=>(hs b q).2.2 e),g.mp h.mp (fun q=>(hs _ q).2.1 rfl),h.tl,h.ap⟩
theorem Tour.put {B:Nat} {w w1 w2 w3:World} {T M n a:Nat} {o:List Nat} {ov ov1:Value} (h:Tour B w T M n o ov) (g1:w.grownBy w1 (some M)) (m1:MP w1 M (n+1) (Jdr (Ra o) (a:Int) (o.length:Int))) (ha:a ∉ o)
  (al:Below w1.heap.size w1 w2) (ho:w3.ownsRow B 2 1 ov1 (o.length+1) (icells (ints o) ++ [.int .i64 (a:Int)])) (g3:w2.grownBy w3 ov.ownBlock) (hl:ov1.ownBlock=ov.ownBlock ∨ ov1.ownBlock=some w2.heap.size) :
  Tour B (w3.setCell ⟨T,0,none⟩ ov1) T M (n+1) (o ++ [a]) ov1/\Grew w (w3.setCell ⟨T,0,none⟩ ov1) (fun k=>k=T ∨ k=M ∨ ov.ownBlock=some k)/\(∀ b,ov1.ownBlock=some b->ov.ownBlock=some b ∨ w.heap.size<=b):=by
 have G1:Grew w w1 (fun k=>k=T ∨ k=M ∨ ov.ownBlock=some k):=(Grew.grown g1).mono fun b _ e=>.inr (.inl (by cases e;rfl))
 have G2:Grew w1 w3 (fun k=>ov.ownBlock=some k):=(Grew.new al _).trans (Grew.grown g3)
 have G4:=Grew.set w3 T 0 ov1
 have tlt:=h.bx.lt
 have mlt:=h.mp.lt
 have sz1:=g1.size
 have sz2:=al.size
 have hl2:∀ b,ov1.ownBlock=some b->ov.ownBlock=some b ∨ w.heap.size<=b:=fun b e=>by
  rcases hl with k|k
  ·exact .inl (by rw [<- k];exact e)
  ·rw [k] at e;simp at e;exact .inr (by omega)
 have nT:ov1.ownBlock ≠ some T:=fun e=>by
  rcases hl2 T e with k|k
  ·exact h.ap.1 k
  ·omega
 have nM:ov1.ownBlock ≠ some M:=fun e=>by
  rcases hl2 M e with k|k
  ·exact h.ap.2 k
  ·omega
 have hne:=h.tl.2.2
 have b1:=(Grew.grown g1).row h.bx (fun e=>hne (by simpa using e))
 have b3:=G2.row b1 h.ap.1
 refine ⟨⟨?_,?_,?_,h.tl,nT,nM⟩,(G1.trans (G2.mono fun b _ e=>.inr (.inr e))).trans (G4.mono fun b _ e=>.inl e),hl2⟩
 ·refine (b3.set 0 ov1).congr fun i _=>?_
  by_cases e:i=0 <;> simp [e]
 ·have:=G4.own ho (fun b e q=>nT (by rw [e,q]))
  simpa [icells,ints] using this
 ·have:=G4.mp (G2.mp m1 h.ap.2) hne
  rwa [Jjh ha] at this
theorem Vc {x:Int} (h:isK 2 x=true):∃ a:Nat,a<3200/\(x / 2).toNat=a/\Yf 2 x=(a:Int):=by
 obtain ⟨a,ha,e,_,_⟩:∃ a:Nat,a<3200/\(x / 2).toNat=a/\True/\True:=by
  unfold isK H8 at h
  have h':=of_decide_eq_true h
  split at h'
  ·split at h'
   ·rename_i h2
    unfold Rq at h2
    have h3:=of_decide_eq_true h2
    exact ⟨(x / 2).toNat,by omega,rfl,trivial,trivial⟩
   ·omega
  ·split at h' <;> omega
 refine ⟨a,ha,e,?_⟩
 rw [Tb h]
 unfold isK H8 at h
 have h':=of_decide_eq_true h
 split at h'
 ·split at h'
  ·rename_i h2
   unfold Rq at h2
   have h3:=of_decide_eq_true h2
   omega
  ·omega
 ·split at h' <;> omega
def Jih (B T M n:Nat) (o:List Nat) (ov:Value) (ws:List Int) (w:World) (e:Ending) (w' : World):Prop :=
 e=.returned (.tuple #[])/\∃ ov' n',Tour B w' T M n' (fol o ws) ov' /\ n' <= n+ws.length/\(∀ b,ov'.ownBlock=some b->ov.ownBlock=some b ∨ w.heap.size<=b)/\Grew w w' (fun k=>k=T ∨ k=M ∨ ov.ownBlock=some k)
set_option maxRecDepth 100000 in
set_option maxHeartbeats 1600000 in
theorem Xs (B T M n:Nat) (o:List Nat) (ov v:Value) (ws:List Int) (w:World) (ht:Tour B w T M n o ov) (hv:IR w v ws) (hva:∀ b,inB v b->b ≠ T/\b ≠ M/\ov.ownBlock ≠ some b) (hB:B<=w.heap.size) (hl:ws.length<=100000) (ho:∀ j,(fol o (ws.take j)).length<=100000) (hn:n<=100000000) :
  Calls Tryz.prog 48 #[.pointer (some ⟨T,0,none⟩),v] w fun e w'=>Jih B T M n o ov ws w e w':=by
 obtain ⟨va,vc,rfl,_,hvc⟩:=id hv
 go_enter Tryz.func48,Tryz.ntmps48
 go_wp2
 go_loopw [12] (fun iv wr=>∃ (j n' : Nat) (ov' : Value),j<=ws.length/\iv=.int .i64 j/\Tour B wr T M n' (fol o (ws.take j)) ov' /\ n' <= n+j/\(∀ b,ov'.ownBlock=some b->ov.ownBlock=some b ∨ w.heap.size<=b)/\Grew w wr (fun k=>k=T ∨ k=M ∨ ov.ownBlock=some k)) (fun iv _=>ws.length - (intOf iv).toNat)
 case atStart=>exact ⟨0,n,ov,Nat.zero_le _,rfl,ht,Nat.le_refl _,fun b e=>.inl e,Grew.refl _ _⟩
 case round =>
  obtain ⟨j,n',ov',hj,rfl,ht',hn',hl',hg⟩:=hrel
  by_cases hjl:j<ws.length
  ·obtain ⟨vb,vo,rfl,hcw⟩:=hvc j hjl
   have hcr:=hg.cell hcw (fun q=>by
    obtain ⟨q1,q2,q3⟩:=hva vb ⟨vo,_,_,rfl,by omega⟩
    rcases q with q|q|q
    ·exact q1 q
    ·exact q2 q
    ·exact q3 q)
   have SN:=Qv o ws j hjl
   have hob:=ho j
   generalize ws.getD j 0=x at *
   have hji:(j:Int)<ws.length:=by omega
   have HG:Hid (Grew w wr (fun k=>k=T ∨ k=M ∨ ov.ownBlock=some k)):=hg
   clear hg hcw hva hvc ho
   cases hx:isK 2 x
   ·have F1:Hid (fol o (ws.take (j+1))=fol o (ws.take j)):=(by rw [SN];unfold On;rw [hx];rfl:fol o (ws.take (j+1))=fol o (ws.take j))
    clear SN
    go_wp2_with (go_at_call 49;refine (Om _ _).mono ?_;rintro e w' ⟨rfl,hw'⟩;obtain rfl:=hw'.symm;rw [hx])
    exact ⟨⟨j+1,n',ov',by omega,by go_num,by rw [F1.out];exact ht',by omega,hl',HG.out⟩,by simp [intOf];omega⟩
   ·obtain ⟨a,ha,hat,hval⟩:=Vc hx
    have b0:wr.cell? ⟨T,0,none⟩=some ov':=ht'.bx.cell (i:=0) (by omega)
    have b1:wr.cell? ⟨T,1,none⟩=some (.map (some M)):=ht'.bx.cell (i:=1) (by omega)
    have a64:N8 (a:Int):=⟨by omega,by omega⟩
    obtain ⟨oa,oc,hov⟩:=H7 ht'.ob
    subst hov
    have NA:=Jeo (o:=fol o (ws.take j)) (a:=a)
    by_cases hm:a ∈ fol o (ws.take j)
    ·have F1:Hid (fol o (ws.take (j+1))=fol o (ws.take j)):=(by rw [SN];unfold On;rw [if_pos hx,hat,if_pos hm]:fol o (ws.take (j+1))=fol o (ws.take j))
     rw [if_pos hm] at NA
     have N1:Hid (Ra (fol o (ws.take j)) (a:Int)=some (((fol o (ws.take j)).idxOf a:Nat):Int)):=NA
     clear SN NA
     go_wp2_with (first
      | (go_at_call 49;refine (Om _ _).mono ?_;rintro e w' ⟨rfl,hw'⟩;obtain rfl:=hw'.symm;rw [hx,hval])
      | (at_lookup;refine Jdt _ rfl _ _ rfl M n' _ rfl ht'.mp _ rfl a64 ?_;rw [N1.out]))
     exact ⟨⟨j+1,n',_,by omega,by go_num,by rw [F1.out];exact ht',by omega,hl',HG.out⟩,by simp [intOf];omega⟩
    ·have F1:Hid (fol o (ws.take (j+1))=fol o (ws.take j) ++ [a]):=(by rw [SN];unfold On;rw [if_pos hx,hat,if_neg hm]:fol o (ws.take (j+1))=fol o (ws.take j) ++ [a])
     rw [if_neg hm] at NA
     have N1:Hid (Ra (fol o (ws.take j)) (a:Int)=none):=NA
     clear SN NA
     have mpd:MP wr.drew M n' (Ra (fol o (ws.take j))):=(Grew.refl wr (fun _=>False)).drew.mp ht'.mp (fun q=>q)
     obtain ⟨w1,hrun,m1,gr1⟩:=mpd.update (by omega) (a:Int) ((fol o (ws.take j)).length:Int) a64 ⟨by omega,by omega⟩
     go_wp2_with (first
      | (go_at_call 49;refine (Om _ _).mono ?_;rintro e w' ⟨rfl,hw'⟩;obtain rfl:=hw'.symm;rw [hx,hval])
      | (at_lookup;refine Jdt _ rfl _ _ rfl M n' _ rfl ht'.mp _ rfl a64 ?_;rw [N1.out]))
     go_region
     have gr2:wr.grownBy w1 (some M):=⟨gr1.os,gr1.tape,gr1.output,gr1.size,gr1.block⟩
     have R1:=(Grew.grown gr2).row ht'.bx (fun e=>ht'.tl.2.2 (by simpa using e))
     have O1:=(Grew.grown gr2).own ht'.ob (fun b e q=>ht'.ap.2 (by rw [e];exact q.symm))
     have t0:w1.cell? ⟨T,0,none⟩=some (.slice oa (fol o (ws.take j)).length oc):=R1.cell (i:=0) (by omega)
     have al:=C5 w1 (.cells #[.int .i64 (a:Int)] 2)
     have t0':=C2 al t0
     have O2:=E8 O1 al
     have sB:B<=w1.heap.size:=Nat.le_trans hB (Nat.le_trans HG.out.size gr2.size)
     have hc:∀ W:World,(W.alloc (.cells #[.int .i64 (a:Int)] 2)).cell? ⟨W.heap.size,0,none⟩=some (.int .i64 (a:Int)):=fun W=>by simp
     have PT:Hid (∀ w3 fo fc,w3.ownsRow B 2 1 (.slice fo ((fol o (ws.take j)).length+1) fc) ((fol o (ws.take j)).length+1) (icells (ints (fol o (ws.take j))) ++ [.int .i64 (a:Int)])->(w1.alloc (.cells #[.int .i64 (a:Int)] 2)).grownBy w3 (Value.ownBlock (.slice oa (fol o (ws.take j)).length oc)) →
      (Value.ownBlock (.slice fo ((fol o (ws.take j)).length+1) fc)=Value.ownBlock (.slice oa (fol o (ws.take j)).length oc) ∨ Value.ownBlock (.slice fo ((fol o (ws.take j)).length+1) fc)=some (w1.alloc (.cells #[.int .i64 (a:Int)] 2)).heap.size)->_):=fun w3 fo fc q1 q2 q3=>ht'.put gr2 m1 hm al q1 q2 q3
     have GF:Hid (∀ w3,(w1.alloc (.cells #[.int .i64 (a:Int)] 2)).grownBy w3 (Value.ownBlock (.slice oa (fol o (ws.take j)).length oc))->w3.frozen? ⟨T,0,none⟩=false/\w3.cell? ⟨T,0,none⟩=some (.slice oa (fol o (ws.take j)).length oc)):=fun w3 q=>by
      have R:=(Grew.grown q).row ((Grew.new al (fun _=>False)).row R1 (fun q=>q)) ht'.ap.1
      exact ⟨R.frozen 0,R.cell (i:=0) (by omega)⟩
     have LO:Hid (∀ b,Value.ownBlock (.slice oa (fol o (ws.take j)).length oc)=some b->ov.ownBlock=some b ∨ w.heap.size<=b):=hl'
     have HSZ:Hid (w.heap.size<=wr.heap.size):=HG.out.size
     clear b0 b1 R1 O1 mpd hrun m1 gr1 hm
     go_wp2_with (at_builtin;refine St _ rfl _ _ rfl B _ (fol o (ws.take j)).length (icells (ints (fol o (ws.take j)))) rfl O2 _ 1 a rfl (hc _) (by omega) (Nat.le_trans sB (by simp)) ?_;intro v4 w4 hown4 hg4 hloc;(obtain ⟨fo,fc,hv4⟩:=H7 hown4);subst hv4;have hg5:(w1.alloc (.cells #[.int .i64 (a:Int)] 2)).grownBy w4 (Value.ownBlock (.slice oa (fol o (ws.take j)).length oc)):=hg4;have SF:=PT.out w4 fo fc hown4 hg5 hloc;(obtain ⟨fz,cz⟩:=GF.out w4 hg5))
     obtain ⟨sf1,sf2,sf3⟩:=SF
     refine ⟨⟨j+1,n' + 1,_,by omega,by go_num,by rw [F1.out];exact sf1,by omega,fun b e=>?_,HG.out.trans' sf2 (fun b e=>?_)⟩,by simp [intOf];omega⟩
     ·rcases sf3 b e with k|k
      ·exact LO.out b k
      ·exact .inr (Nat.le_trans HSZ.out k)
     ·rcases e with e|e|e
      ·exact .inl (.inl e)
      ·exact .inl (.inr (.inl e))
      ·rcases LO.out b e with k|k
       ·exact .inl (.inr (.inr k))
       ·exact .inr k
  ·obtain rfl:j=ws.length:=by omega
   rw [List.take_length] at ht'
   have G:Hid (Jih B T M n o ov ws w (.returned (.tuple #[])) wr):=⟨rfl,ov',n',ht',hn',hl',hg⟩
   clear ht' hg hva hvc ho
   go_wp2
   exact bodyPost_ret (v:=.tuple #[]) (by simp [results,Tryz.results48,go_sem]) rfl G.out
end Go.Proofs.YtboiknllmnfipaaGreatDoor
/- tourOf of the program: all objects that are reached, in the order in which they are come to. -/
namespace Go.Proofs.YtboiknllmnfipaaGreatDoor
open Go.RowKit
theorem V2 (b o cap:Nat) (W:List Int) (a m:Nat) (w:World) (hW:WS w b o W) (hl:W.length=3200) (hc:3200<=cap) (ha:a+4<=3200) (hm:gw W a=(m:Int)) (m60:m<=60) (hn:nx W a<=3200) :
  Calls Tryz.prog 27 #[.slice (some ⟨b,o,none⟩) 3200 cap,.int .i64 a] w fun e w'=>(∃ q c,e=.returned (.slice (some ⟨b,q,none⟩) m c)/\IR w (.slice (some ⟨b,q,none⟩) m c) (flds W a))/\w' = w:=by
 have B:=Pf b o cap W a w hW hl ha (by omega)
 have hn' : nx W a=a+4+m:=by unfold nx;rw [hm];rfl
 rw [hn'] at B hn
 have F:Hid (∀ c q,m<=c->(m=0 ∨ q=o+(a+4))->IR w (.slice (some ⟨b,q,none⟩) m c) (flds W a)):=fun c q hc hq=>by
  have e:(flds W a).length=m:=by rw [N5,hm];rfl
  refine ⟨_,c,by rw [e],by rw [e];exact hc,fun i hi=>⟨b,q,rfl,?_⟩⟩
  rw [e] at hi
  obtain rfl:=hq.resolve_left (by omega)
  have:=hW (a+4+i) (by omega)
  rw [show o+(a+4)+i=o+(a+4+i) from by omega,this]
  simp [flds,hm,hi]
 clear hm hW hl hn'
 go_enter Tryz.func27,Tryz.ntmps27
 go_wp2_with fail
 refine B.mono ?_
 rintro x w1 ⟨rfl,rfl⟩
 go_wp2
 ·have h0:m=0:=by omega
  go_ret
  exact ⟨⟨_,_,rfl,F.out _ _ (by omega) (.inl h0)⟩,rfl⟩
 ·go_ret
  exact ⟨⟨_,_,rfl,F.out _ _ (by omega) (.inr rfl)⟩,rfl⟩
def Jet (h:Hp) (w:World) (e:Ending) (w' : World):Prop :=
 ∃ ov M n,e=.returned (.agg #[ov,.map (some M)])/\w'.ownsRow w.heap.size 2 1 ov (C8 h.words h.roots).length (icells (ints (C8 h.words h.roots)))/\MP w' M n (Ra (C8 h.words h.roots))/\w.heap.size<=M/\ov.ownBlock ≠ some M/\Below w.heap.size w w'
theorem Jlh (w:World) (ov:Value) (M:Nat) (t:TypeId):(w.alloc (.cells #[ov,.map (some M)] t)).rowIs w.heap.size t 2 (fun i=>if i=0 then ov else .map (some M)) :=
 World.rowIs_alloc w #[ov,.map (some M)] t _ (fun i hi=>by
  match i,hi with
  | 0,_=>rfl
  | 1,_=>rfl)
theorem Jfv {h:Hp} {l:List Nat} (r:RightAt h l) {k:Nat} (hk:k<(tr h.words h.roots k).length) (hk3:k<3200) (j:Nat):(fol (tr h.words h.roots k) ((flds h.words ((tr h.words h.roots k).getD k 0)).take j)).length<=100000:=by
 have h1:=Qu (tr h.words h.roots k) (flds h.words ((tr h.words h.roots k).getD k 0)) j
 rw [<- U7 _ _ _ hk] at h1
 have:=(h1.trans (Sc (k:=k+1) (by omega))).length_le
 have:=O7 r
 omega
set_option maxRecDepth 100000 in
set_option maxHeartbeats 3200000 in
theorem Yk (v:Value) (h:Hp) (l:List Nat) (w:World) (hv:HR w v h) (hr:RightAt h l) :
  Calls Tryz.prog 24 #[v] w fun e w'=>Jet h w e w':=by
 obtain ⟨v1,v2,v3,rfl,i1,i2,i3⟩:=hv
 have hlen:=hr.1.1
 obtain ⟨b,o,cap,rfl,hcap,hW⟩:=i1.ws (by omega)
 obtain ⟨ra,rc,rfl⟩:=IR.shape i2
 have hrl:h.roots.length<=20:=hr.2.2.2.2.2.1
 rw [hlen] at hcap ⊢
 have hlt:b<w.heap.size:=World.block_lt_of_cell? _ _ (hW 0 (by omega))
 have HLN:Hid (h.words.length=3200):=hlen
 have X0:=(Bx.new w (.slice (some ⟨b,o,none⟩) 3200 cap) (.slice ra h.roots.length rc) v3 h 30).later (C5 _ (.cells #[.slice none 0 0,.map none] 46))
 have RS0:=I0 (w.alloc (.cells #[.slice (some ⟨b,o,none⟩) 3200 cap,.slice ra h.roots.length rc,.int .i64 h.old,.int .i64 h.eden,.int .i64 h.surv,.bool h.flip,.int .i64 h.hash,v3] 30)) #[.slice none 0 0,.map none] 46
 rw [World.size_alloc] at RS0
 generalize hW0:(w.alloc (.cells #[.slice (some ⟨b,o,none⟩) 3200 cap,.slice ra h.roots.length rc,.int .i64 h.old,.int .i64 h.eden,.int .i64 h.surv,.bool h.flip,.int .i64 h.hash,v3] 30)).alloc (.cells #[.slice none 0 0,.map none] 46)=W0 at X0 RS0
 have Z0:W0.heap.size=w.heap.size+2:=by rw [<- hW0];simp
 have B0:Below w.heap.size w W0:=by rw [<- hW0];exact C3 (C5 _ _) (C5 _ _)
 have hmm:=@run_makeMap Tryz.prog
 have BX:Hid (∀ W,Below (w.heap.size+2) W0 W->Bx W w.heap.size (.slice (some ⟨b,o,none⟩) 3200 cap) (.slice ra h.roots.length rc) v3 h):=fun W q=>X0.below (q.mono (by omega))
 have BW:Hid (∀ W,Below (w.heap.size+2) W0 W->Below w.heap.size w W):=fun W q=>B0.trans (q.mono (by omega))
 have T0:Tour (w.heap.size+2) ((W0.alloc (.map #[] 0)).alloc (.cells #[.slice none 0 0,.map (some (w.heap.size+2))] 46)) (w.heap.size+2+1) (w.heap.size+2) 0 [] (.slice none 0 0):=by
  have t:=Jlh (W0.alloc (.map #[] 0)) (.slice none 0 0) (w.heap.size+2) 46
  rw [World.size_alloc,Z0] at t
  have m:=MP.made W0
  rw [Z0] at m
  refine ⟨t,World.ownsRow_nil _ _ _ _,?_,⟨by omega,by omega,by omega⟩,by simp [Value.ownBlock],by simp [Value.ownBlock]⟩
  rw [Jhe]
  exact m.later (C5 _ _)
 have B2:Below (w.heap.size+2) W0 ((W0.alloc (.map #[] 0)).alloc (.cells #[.slice none 0 0,.map (some (w.heap.size+2))] 46)):=by
  have q:=C3 (C5 W0 (.map #[] 0)) (C5 (W0.alloc (.map #[] 0)) (.cells #[.slice none 0 0,.map (some (w.heap.size+2))] 46))
  rwa [Z0] at q
 have vlt:Hid (∀ q,inB (.slice ra h.roots.length rc) q->q<w.heap.size):=fun q k=>i2.inlt k
 have s2:w.heap.size+2<=((W0.alloc (.map #[] 0)).alloc (.cells #[.slice none 0 0,.map (some (w.heap.size+2))] 46)).heap.size:=by simp;omega
 have FO:=Xs (w.heap.size+2) (w.heap.size+2+1) (w.heap.size+2) 0 [] (.slice none 0 0) (.slice ra h.roots.length rc) h.roots _ T0 (i2.later (BW.out _ B2)) (fun q k=>by have:=vlt.out q k;exact ⟨by omega,by omega,by simp [Value.ownBlock]⟩) s2 (by omega)
  (fun j=>by have:=((Qu [] h.roots j).trans (Sc (W:=h.words) (R:=h.roots) (k:=0) (by omega))).length_le;have:=O7 hr;omega) (by omega)
 obtain ⟨c0,c1,c2,c3,c4,c5,c6,c7⟩:=BX.out _ B2
 clear i1 i2 i3 hlen
 go_enter Tryz.func24,Tryz.ntmps24
 go_wp2_with fail
 refine FO.mono ?_
 rintro e w1 ⟨rfl,ov1,n1,t1,hn1,l1,g1⟩
 have B3:Below (w.heap.size+2) W0 w1:=B2.trans (g1.below s2 fun q _ k=>by
  rcases k with k|k|k
  ·omega
  ·omega
  ·simp [Value.ownBlock] at k)
 clear c0 c1 c2 c3 c4 c5 c6 c7 FO T0 hmm
 go_wp2
 go_loopw [4] (fun iv wr=>∃ (k n:Nat) (ov:Value),k<=(tr h.words h.roots k).length/\k<=3200/\iv=.int .i64 k/\Tour (w.heap.size+2) wr (w.heap.size+2+1) (w.heap.size+2) n (tr h.words h.roots k) ov/\n<=20+60 * k/\Below (w.heap.size+2) W0 wr) (fun iv _=>3200 - (intOf iv).toNat)
 case atStart=>exact ⟨0,n1,ov1,Nat.zero_le _,Nat.zero_le _,rfl,t1,by omega,B3⟩
 case round =>
  obtain ⟨k,n,ov,hk1,hk2,rfl,ht,hn,hb⟩:=hrel
  obtain ⟨c0,c1,c2,c3,c4,c5,c6,c7⟩:=BX.out wr hb
  have hWr:=hW.later (BW.out wr hb)
  obtain ⟨oa,oc,hov,hoc⟩:=Si (J2 ht.ob)
  subst hov
  have h3:=Jdg hr k
  have t0:wr.cell? ⟨w.heap.size+2+1,0,none⟩=some (.slice oa (tr h.words h.roots k).length oc):=ht.bx.cell (i:=0) (by omega)
  by_cases hkl:k<(tr h.words h.roots k).length
  ·obtain ⟨ob,oo,rfl,co⟩:=hoc k hkl
   have haL:(tr h.words h.roots k).getD k 0 ∈ l:=Xn hr k (Pj _ _ hkl)
   obtain ⟨q1,q2,q3⟩:=hr.1.obj haL
   have q4:=L6 q3
   obtain ⟨m,hme⟩:=Int.eq_ofNat_of_zero_le q4.1
   have NX:Hid (tr h.words h.roots (k+1)=fol (tr h.words h.roots k) (flds h.words ((tr h.words h.roots k).getD k 0))/\k+1<=(tr h.words h.roots (k+1)).length):=⟨U7 _ _ _ hkl,Nat.le_trans hkl (Z9 h.words h.roots k).length_le⟩
   have TN:Hid (∀ j,_):=Jfv hr hkl (by omega)
   have FA:=fun W (q:Below (w.heap.size+2) W0 W)=>V2 b o cap h.words ((tr h.words h.roots k).getD k 0) m W (hW.later (BW.out W q)) HLN.out hcap q1 hme (by omega) q2
   have FL:Hid ((flds h.words ((tr h.words h.roots k).getD k 0)).length=m):=(by rw [N5,hme];rfl:(flds h.words ((tr h.words h.roots k).getD k 0)).length=m)
   have m60:m<=60:=by omega
   clear q3 q4 hme haL hoc hWr q2
   generalize (tr h.words h.roots k).getD k 0=a at *
   have hki:(k:Int)<(tr h.words h.roots k).length:=by omega
   have hbs:=Nat.le_trans (by omega:w.heap.size+2<=W0.heap.size) hb.size
   have hbd:Below (w.heap.size+2) W0 wr.drew:=hb.drew
   have htd:Tour (w.heap.size+2) wr.drew (w.heap.size+2+1) (w.heap.size+2) n (tr h.words h.roots k) (.slice (some ⟨ob,oo,none⟩) (tr h.words h.roots k).length oc):=ht.grew (S:=fun _=>False) (Grew.refl wr _).drew (fun _ q=>q.elim)
   have olo:∀ q,Value.ownBlock (.slice (some ⟨ob,oo,none⟩) (tr h.words h.roots k).length oc)=some q->w.heap.size+2<=q:=fun q e=>(ht.ob.lt q e).1
   have FO:=fun q c (hi:IR wr.drew (.slice (some ⟨b,q,none⟩) m c) (flds h.words a))=>Xs (w.heap.size+2) (w.heap.size+2+1) (w.heap.size+2) n (tr h.words h.roots k) _ _ (flds h.words a) wr.drew htd hi (fun b' e=>by
    obtain ⟨_,_,_,e,_⟩:=e
    injection e with e1
    injection e1 with e1
    injection e1 with e1
    subst e1
    exact ⟨by omega,by omega,fun k=>by have:=olo _ k;omega⟩) hbs (by rw [FL.out];omega) TN.out (by omega)
   have FAd:=FA _ hbd
   clear FA htd
   go_wp2_with fail
   go_region_with (first
    | (go_at_call 27;refine FAd.mono ?_;rintro e w' ⟨⟨q,c,rfl,hir⟩,hw'⟩;obtain rfl:=hw'.symm)
    | (go_at_call 48;refine (FO _ _ hir).mono ?_;rintro e w2 ⟨rfl,ov2,n2,t2,hn2,l2,g2⟩))
   all_goals go_wp2
   all_goals
    have g2b:Below (w.heap.size+2) wr.drew w2:=g2.below hbs fun q _ e=>by
     rcases e with e|e|e
     ·omega
     ·omega
     ·exact olo q e
    rw [FL.out] at hn2
    exact ⟨⟨k+1,n2,ov2,NX.out.2,by omega,by go_num,by rw [NX.out.1];exact t2,by omega,hbd.trans g2b⟩,by simp [intOf];omega⟩
  ·have FE:Hid (C8 h.words h.roots=tr h.words h.roots k):=Jcm hk2 (by omega)
   have t1:wr.cell? ⟨w.heap.size+2+1,1,none⟩=some (.map (some (w.heap.size+2))):=ht.bx.cell (i:=1) (by omega)
   have RR:wr.rowIs (w.heap.size+1) 46 2 (fun i=>#[.slice none 0 0,.map none][i]?.getD undef):=RS0.of_block (hb.block _ (by omega))
   have r0:wr.cell? ⟨w.heap.size+1,0,none⟩=some (.slice none 0 0):=RR.cell (i:=0) (by omega)
   have r1:wr.cell? ⟨w.heap.size+1,1,none⟩=some (.map none):=RR.cell (i:=1) (by omega)
   have f0:=RR.frozen 0
   have f1:=RR.frozen 1
   have G:Grew wr ((wr.setCell ⟨w.heap.size+1,0,none⟩ (.slice oa (tr h.words h.roots k).length oc)).setCell ⟨w.heap.size+1,1,none⟩ (.map (some (w.heap.size+2)))) (fun q=>q=w.heap.size+1):=(Grew.set _ _ _ _).trans (Grew.set _ _ _ _)
   have hbs:=Nat.le_trans (by omega:w.heap.size+2<=W0.heap.size) hb.size
   have FIN:Hid (Jet h w (.returned (.agg #[.slice oa (tr h.words h.roots k).length oc,.map (some (w.heap.size+2))])) ((wr.setCell ⟨w.heap.size+1,0,none⟩ (.slice oa (tr h.words h.roots k).length oc)).setCell ⟨w.heap.size+1,1,none⟩ (.map (some (w.heap.size+2))))):=by
    refine ⟨_,_,n,rfl,?_,?_,by omega,ht.ap.2,(BW.out wr hb).trans (G.below (by omega) fun q _ e=>by omega)⟩
    ·rw [FE.out]
     exact Rd (G.own ht.ob (fun q e k=>by have:=(ht.ob.lt q e).1;omega)) (by omega)
    ·rw [FE.out]
     exact G.mp ht.mp (by omega)
   clear G ht hb
   go_wp2
   exact bodyPost_ret (v:=.agg #[.slice oa (tr h.words h.roots k).length oc,.map (some (w.heap.size+2))]) (by simp [results,Tryz.results24,go_sem,r0,r1]) rfl FIN.out
end Go.Proofs.YtboiknllmnfipaaGreatDoor
