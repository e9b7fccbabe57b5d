
import Derived.Test.YtboiknllmnfipaaGreatDoorZU11
import Derived.Test.YtboiknllmnfipaaGreatDoorZU5
import Derived.Test.YtboiknllmnfipaaGreatDoorZCSpec
import Derived.Test.YtboiknllmnfipaaGreatDoorZU8
/- A drawn heap that may be changed further: its state. -/
namespace Go.Proofs.YtboiknllmnfipaaGreatDoor
open Go.RowKit
def FWd (w:World) (t:Hp) (v1:Value):Prop:=t.words.length=3200->∃ g c,v1=.slice (some ⟨g,0,none⟩) t.words.length c/\RI w g t.words c
theorem FWd.block {w w' : World} {t:Hp} {v1:Value} (h:FWd w t v1) (hk:∀ b,inB v1 b->b<w.heap.size->w'.heap[b]?=w.heap[b]?):FWd w' t v1:=fun e=>by
 obtain ⟨g,c,rfl,R⟩:=h e
 exact ⟨g,c,rfl,R.block (hk g ⟨0,_,_,rfl,by omega⟩ R.lt)⟩
theorem FWd.of {B:Nat} {w:World} {t:Hp} {v1:Value} (o1:w.ownsRow B 2 1 v1 t.words.length (icells t.words)):FWd w t v1:=fun e=>by
 rcases o1.2 with ⟨_,q⟩|⟨g,cap,cur,q,_⟩
 ·omega
 ·subst q
  exact ⟨g,cap,rfl,(RI.of_owns o1).1⟩
structure HA (B:Nat) (w:World) (t:Hp) (v1 v2 v3:Value):Prop where
 w1:IR w v1 t.words
 b1:∀ b,inB v1 b->B<=b
 o2:w.ownsRow B 2 1 v2 t.roots.length (icells t.roots)
 o3:w.ownsRow B 2 1 v3 t.kept.length (icells t.kept)
 d1:∀ b,inB v1 b->v2.ownBlock ≠ some b/\v3.ownBlock ≠ some b
 d2:∀ b,v2.ownBlock=some b->v3.ownBlock ≠ some b
 fw:FWd w t v1
theorem HA.of {B:Nat} {w:World} {t:Hp} {v1 v2 v3:Value} (o1:w.ownsRow B 2 1 v1 t.words.length (icells t.words)) (o2:w.ownsRow B 2 1 v2 t.roots.length (icells t.roots)) (o3:w.ownsRow B 2 1 v3 t.kept.length (icells t.kept))
  (d1:∀ b,v1.ownBlock=some b->v2.ownBlock ≠ some b/\v3.ownBlock ≠ some b) (d2:∀ b,v2.ownBlock=some b->v3.ownBlock ≠ some b):HA B w t v1 v2 v3 :=
 ⟨E9 o1,fun _ q=>Su o1 (Oh o1 q),o2,o3,fun b q=>d1 b (Oh o1 q),d2,FWd.of o1⟩
theorem HA.hr {B:Nat} {w:World} {t:Hp} {v1 v2 v3:Value} (k:HA B w t v1 v2 v3):HR w (.agg #[v1,v2,.int .i64 t.old,.int .i64 t.eden,.int .i64 t.surv,.bool t.flip,.int .i64 t.hash,v3]) t :=
 ⟨v1,v2,v3,rfl,k.w1,E9 k.o2,E9 k.o3⟩
theorem HA.keep {B:Nat} {w w' : World} {t:Hp} {v1 v2 v3:Value} (k:HA B w t v1 v2 v3) (hk:∀ b,B<=b->b<w.heap.size->w'.heap[b]?=w.heap[b]?):HA B w' t v1 v2 v3:=by
 refine ⟨IR.keep' k.w1 (fun a n c e hn=>?_),k.b1,S9 k.o2 hk,S9 k.o3 hk,k.d1,k.d2,k.fw.block (fun b q hl=>hk b (k.b1 b q) hl)⟩
 obtain ⟨b,o,e2,_⟩:∃ b o,a=⟨b,o,none⟩/\b<w.heap.size:=by
  obtain ⟨ao,cap,e3,_,hc⟩:=id k.w1
  rw [e] at e3
  simp only [Value.slice.injEq] at e3
  obtain ⟨rfl,rfl,-⟩:=e3
  obtain ⟨b,o,e4,hcell⟩:=hc 0 hn
  simp only [Option.some.injEq] at e4
  exact ⟨b,o,e4,World.block_lt_of_cell? _ _ hcell⟩
 subst e2
 have q:inB v1 b:=⟨o,n,c,e,hn⟩
 exact hk b (k.b1 b q) (k.w1.inlt q)
theorem HA.later {B:Nat} {w w' : World} {t:Hp} {v1 v2 v3:Value} (k:HA B w t v1 v2 v3) (hb:Below w.heap.size w w'):HA B w' t v1 v2 v3:=k.keep (fun b _ hl=>hb.block b hl)
theorem HA.off {B N:Nat} {w w' : World} {t:Hp} {v1 v2 v3:Value} (k:HA B w t v1 v2 v3) (g:w.grownBy w' (some N)) (hN:N<B):HA B w' t v1 v2 v3:=k.keep (fun b hb hl=>g.block b hl (fun e=>by injection e;omega))
theorem HA.down {B C:Nat} {w:World} {t:Hp} {v1 v2 v3:Value} (k:HA B w t v1 v2 v3) (h:C<=B):HA C w t v1 v2 v3 :=
 ⟨k.w1,fun b q=>Nat.le_trans h (k.b1 b q),Pk k.o2 h,Pk k.o3 h,k.d1,k.d2,k.fw⟩
theorem HA.box {B b m:Nat} {w w' : World} {t:Hp} {v1 v2 v3:Value} {f:Nat->Value} (k:HA B w t v1 v2 v3) (hr:w.rowIs b 30 m f) (hg:w.grownBy w' (some b)) (hn:¬ inB v1 b):HA B w' t v1 v2 v3:=by
 refine ⟨?_,k.b1,Ut k.o2 hr hg,Ut k.o3 hr hg,k.d1,k.d2,k.fw.block (fun c q hl=>hg.block c hl (fun e=>hn (by injection e with e;subst e;exact q)))⟩
 have G:=Grew.grown hg
 exact G.ir k.w1 (fun c q e=>hn (by injection e with e;subst e;exact q))
def Jio (w:World) (N:Nat) (cv:Value) (cs:List UInt8) (x:Ending) (w' : World):Prop:=(∃ t v1 v2 v3,x=.returned (.agg #[v1,v2,.int .i64 t.old,.int .i64 t.eden,.int .i64 t.surv,.bool t.flip,.int .i64 t.hash,v3])/\HA w.heap.size w' t v1 v2 v3/\t.words.length<=3200/\t.roots.length<=21/\t.kept.length<=3201)/\w.grownBy w' (some N)/\Dw N cv cs w'
def va8 (t:Hp) (v1 v2 v3:Value):Array Value:=#[v1,v2,.int .i64 t.old,.int .i64 t.eden,.int .i64 t.surv,.bool t.flip,.int .i64 t.hash,v3]
theorem C7 {W:World} {b:Nat} {t:Hp} {v1 v2 v3:Value} (k:W.rowIs b 30 8 (fun i=>(va8 t v1 v2 v3)[i]?.getD undef)) :
  W.cell? ⟨b,0,none⟩=some v1/\W.cell? ⟨b,1,none⟩=some v2/\W.cell? ⟨b,2,none⟩=some (.int .i64 t.old)/\W.cell? ⟨b,3,none⟩=some (.int .i64 t.eden)/\W.cell? ⟨b,4,none⟩=some (.int .i64 t.surv)/\W.cell? ⟨b,5,none⟩=some (.bool t.flip)/\W.cell? ⟨b,6,none⟩=some (.int .i64 t.hash)/\W.cell? ⟨b,7,none⟩=some v3 :=
 ⟨k.cell (i:=0) (by omega),k.cell (i:=1) (by omega),k.cell (i:=2) (by omega),k.cell (i:=3) (by omega),k.cell (i:=4) (by omega),k.cell (i:=5) (by omega),k.cell (i:=6) (by omega),k.cell (i:=7) (by omega)⟩
structure AD (w:World) (N:Nat) (cv:Value) (cs:List UInt8) (H:Nat) (W:World) (t:Hp) (v1 v2 v3:Value):Prop where
 dw:Dw N cv cs W
 d0:Dw N cv cs w
 gr:w.grownBy W (some N)
 row:W.rowIs H 30 8 (fun i=>(va8 t v1 v2 v3)[i]?.getD undef)
 ha:HA w.heap.size W t v1 v2 v3
 res:∃ f,W.rowIs w.heap.size 30 8 f
 nH:¬ inB v1 H
 nR:¬ inB v1 w.heap.size
 hN:N<w.heap.size
 hH:w.heap.size<H
 sz:t.words.length<=3200/\t.roots.length<=21/\t.kept.length<=3201
theorem AD.step {w:World} {N:Nat} {cv:Value} {cs:List UInt8} {H:Nat} {W W' : World} {t:Hp} {v1 v2 v3:Value} (k:AD w N cv cs H W t v1 v2 v3) (s:Sx W N cv cs W'):AD w N cv cs H W' t v1 v2 v3:=by
 obtain ⟨f,F⟩:=k.res
 have hN:=k.hN
 have hH:=k.hH
 have n1:some H ≠ some N:=fun e=>by injection e;omega
 have n2:some w.heap.size ≠ some N:=fun e=>by injection e;omega
 exact ⟨s.2,k.d0,gtrans k.gr s.1,k.row.of_block (s.1.block _ k.row.lt n1),k.ha.off s.1 hN,⟨f,F.of_block (s.1.block _ F.lt n2)⟩,k.nH,k.nR,hN,hH,k.sz⟩
theorem AD.later {w:World} {N:Nat} {cv:Value} {cs:List UInt8} {H:Nat} {W W' : World} {t:Hp} {v1 v2 v3:Value} (k:AD w N cv cs H W t v1 v2 v3) (hb:Below W.heap.size W W'):AD w N cv cs H W' t v1 v2 v3 :=
 k.step ((Sx.refl k.dw).more hb (Nat.lt_of_lt_of_le k.hN k.gr.size))
theorem AD.put {w:World} {N:Nat} {cv:Value} {cs:List UInt8} {H:Nat} {W:World} {t:Hp} {v1 v2 v3:Value} (k:AD w N cv cs H W t v1 v2 v3) (j:Nat) (x:Value) (t' : Hp) (u1 u2 u3:Value) (_hj:j<8) (e:∀ i,i<8->(if i=j then x else (va8 t v1 v2 v3)[i]?.getD undef)=(va8 t' u1 u2 u3)[i]?.getD undef)
  (ha:HA w.heap.size (W.setCell ⟨H,j,none⟩ x) t' u1 u2 u3) (n1:¬ inB u1 H) (n2:¬ inB u1 w.heap.size) (sz:t'.words.length<=3200/\t'.roots.length<=21/\t'.kept.length<=3201):AD w N cv cs H (W.setCell ⟨H,j,none⟩ x) t' u1 u2 u3:=by
 obtain ⟨f,F⟩:=k.res
 have hN:=k.hN
 have hH:=k.hH
 have g:=Zg W H j x
 have G:w.grownBy (W.setCell ⟨H,j,none⟩ x) (some N):=gmix k.gr g (fun b e=>by injection e;omega)
 exact ⟨Dw.grown k.d0 G k.dw g (fun e=>by injection e;omega) (Nat.lt_of_lt_of_le hN k.gr.size),k.d0,G,(k.row.set j x).congr e,ha,⟨f,F.setOther (a:=⟨H,j,none⟩) (by show w.heap.size ≠ H;omega) x⟩,n1,n2,hN,hH,sz⟩
theorem AD.done {w:World} {N:Nat} {cv:Value} {cs:List UInt8} {H:Nat} {W W' : World} {t:Hp} {v1 v2 v3:Value} (k:AD w N cv cs H W t v1 v2 v3) (g:W.grownBy W' (some w.heap.size)):Jio w N cv cs (.returned (.agg (va8 t v1 v2 v3))) W':=by
 obtain ⟨f,F⟩:=k.res
 have hN:=k.hN
 have G:w.grownBy W' (some N):=gmix k.gr g (fun b e=>by injection e;omega)
 exact ⟨⟨t,v1,v2,v3,rfl,k.ha.box F g k.nR,k.sz⟩,G,Dw.grown k.d0 G k.dw g (fun e=>by injection e;omega) (Nat.lt_of_lt_of_le hN k.gr.size)⟩
theorem AD.put' {w:World} {N:Nat} {cv:Value} {cs:List UInt8} {H:Nat} {W:World} {t:Hp} {v1 v2 v3:Value} (k:AD w N cv cs H W t v1 v2 v3) (j:Nat) (x:Value) (t' : Hp) (u1 u2 u3:Value) (hj:j<8) (e:∀ i,i<8->(if i=j then x else (va8 t v1 v2 v3)[i]?.getD undef)=(va8 t' u1 u2 u3)[i]?.getD undef)
  (ha:HA w.heap.size W t' u1 u2 u3) (n1:¬ inB u1 H) (n2:¬ inB u1 w.heap.size) (sz:t'.words.length<=3200/\t'.roots.length<=21/\t'.kept.length<=3201):AD w N cv cs H (W.setCell ⟨H,j,none⟩ x) t' u1 u2 u3 :=
 k.put j x t' u1 u2 u3 hj e (ha.box k.row (Zg W H j x) n1) n1 n2 sz
theorem AD.old {w:World} {N:Nat} {cv:Value} {cs:List UInt8} {H:Nat} {W:World} {t:Hp} {v1 v2 v3:Value} (k:AD w N cv cs H W t v1 v2 v3) (y:Int):AD w N cv cs H (W.setCell ⟨H,2,none⟩ (.int .i64 y)) { t with old:=y } v1 v2 v3 :=
 k.put' 2 _ _ v1 v2 v3 (by omega) (fun i hi=>by rcases i with _|_|_|_|_|_|_|_|i <;> first|rfl|omega) ⟨k.ha.w1,k.ha.b1,k.ha.o2,k.ha.o3,k.ha.d1,k.ha.d2,k.ha.fw⟩ k.nH k.nR k.sz
theorem AD.eden {w:World} {N:Nat} {cv:Value} {cs:List UInt8} {H:Nat} {W:World} {t:Hp} {v1 v2 v3:Value} (k:AD w N cv cs H W t v1 v2 v3) (y:Int):AD w N cv cs H (W.setCell ⟨H,3,none⟩ (.int .i64 y)) { t with eden:=y } v1 v2 v3 :=
 k.put' 3 _ _ v1 v2 v3 (by omega) (fun i hi=>by rcases i with _|_|_|_|_|_|_|_|i <;> first|rfl|omega) ⟨k.ha.w1,k.ha.b1,k.ha.o2,k.ha.o3,k.ha.d1,k.ha.d2,k.ha.fw⟩ k.nH k.nR k.sz
theorem AD.flip {w:World} {N:Nat} {cv:Value} {cs:List UInt8} {H:Nat} {W:World} {t:Hp} {v1 v2 v3:Value} (k:AD w N cv cs H W t v1 v2 v3) (y:Bool):AD w N cv cs H (W.setCell ⟨H,5,none⟩ (.bool y)) { t with flip:=y } v1 v2 v3 :=
 k.put' 5 _ _ v1 v2 v3 (by omega) (fun i hi=>by rcases i with _|_|_|_|_|_|_|_|i <;> first|rfl|omega) ⟨k.ha.w1,k.ha.b1,k.ha.o2,k.ha.o3,k.ha.d1,k.ha.d2,k.ha.fw⟩ k.nH k.nR k.sz
theorem AD.hash {w:World} {N:Nat} {cv:Value} {cs:List UInt8} {H:Nat} {W:World} {t:Hp} {v1 v2 v3:Value} (k:AD w N cv cs H W t v1 v2 v3) (y:Int):AD w N cv cs H (W.setCell ⟨H,6,none⟩ (.int .i64 y)) { t with hash:=y } v1 v2 v3 :=
 k.put' 6 _ _ v1 v2 v3 (by omega) (fun i hi=>by rcases i with _|_|_|_|_|_|_|_|i <;> first|rfl|omega) ⟨k.ha.w1,k.ha.b1,k.ha.o2,k.ha.o3,k.ha.d1,k.ha.d2,k.ha.fw⟩ k.nH k.nR k.sz
theorem AD.cut {w:World} {N:Nat} {cv:Value} {cs:List UInt8} {H:Nat} {W:World} {t:Hp} {g n c c' : Nat} {v2 v3:Value} (k:AD w N cv cs H W t (.slice (some ⟨g,0,none⟩) n c) v2 v3) (hn:n=t.words.length) (h1:1<=n) (hc:n - 1<=c'):AD w N cv cs H (W.setCell ⟨H,0,none⟩ (.slice (some ⟨g,1,none⟩) (n - 1) c')) { t with words:=t.words.drop 1 } (.slice (some ⟨g,1,none⟩) (n - 1) c') v2 v3:=by
 have sub:∀ b,inB (.slice (some ⟨g,1,none⟩) (n - 1) c') b->inB (.slice (some ⟨g,0,none⟩) n c) b:=fun b q=>by
  obtain ⟨o,m,d,e,hm⟩:=q
  simp only [Value.slice.injEq,Option.some.injEq,Addr.mk.injEq] at e
  obtain ⟨⟨rfl,_,_⟩,rfl,_⟩:=e
  exact ⟨0,n,c,rfl,by omega⟩
 refine k.put' 0 _ _ _ v2 v3 (by omega) (fun i hi=>by rcases i with _|_|_|_|_|_|_|_|i <;> first|rfl|omega) ⟨?_,fun b q=>k.ha.b1 b (sub b q),k.ha.o2,k.ha.o3,fun b q=>k.ha.d1 b (sub b q),k.ha.d2,fun e=>by
  have e:(t.words.drop 1).length=3200:=e
  rw [List.length_drop] at e
  have:=k.sz.1
  omega⟩ (fun q=>k.nH (sub _ q)) (fun q=>k.nR (sub _ q)) ⟨?_,k.sz.2⟩
 ·obtain ⟨ao,cap,e,_,hcell⟩:=id k.ha.w1
  simp only [Value.slice.injEq] at e
  obtain ⟨rfl,rfl,rfl⟩:=e
  refine ⟨_,c',by show _=Value.slice _ (t.words.drop 1).length _;rw [List.length_drop],by show (t.words.drop 1).length<=c';rw [List.length_drop];exact hc,fun i hi=>?_⟩
  have hi' : i<(t.words.drop 1).length:=hi
  rw [List.length_drop] at hi'
  obtain ⟨b,o,e,q⟩:=hcell (i+1) (by omega)
  simp only [Option.some.injEq,Addr.mk.injEq,and_true] at e
  obtain ⟨rfl,rfl⟩:=e
  refine ⟨g,1,rfl,?_⟩
  rw [show 1+i=0+(i+1) from by omega,q]
  show _=some (Value.int .i64 ((t.words.drop 1).getD i 0))
  simp [List.getD_eq_getElem?_getD]
 ·show (t.words.drop 1).length<=3200
  rw [List.length_drop]
  have:=k.sz.1
  omega
theorem AD.word {w:World} {N:Nat} {cv:Value} {cs:List UInt8} {H:Nat} {W:World} {t:Hp} {g c:Nat} {v2 v3:Value} (k:AD w N cv cs H W t (.slice (some ⟨g,0,none⟩) t.words.length c) v2 v3) (R:RI W g t.words c) (hp:0<t.words.length) (i:Nat) (x:Int):AD w N cv cs H (W.setCell ⟨g,i,none⟩ (.int .i64 x)) { t with words:=t.words.set i x } (.slice (some ⟨g,0,none⟩) t.words.length c) v2 v3:=by
 obtain ⟨f,F⟩:=k.res
 have hN:=k.hN
 have q:inB (.slice (some ⟨g,0,none⟩) t.words.length c) g:=⟨0,_,_,rfl,hp⟩
 have gB:=k.ha.b1 g q
 have nH:H ≠ g:=fun e=>k.nH (by rw [e];exact q)
 have nR:w.heap.size ≠ g:=fun e=>k.nR (by rw [e];exact q)
 have g0:=Zg W g i (.int .i64 x)
 have G:w.grownBy (W.setCell ⟨g,i,none⟩ (.int .i64 x)) (some N):=gmix k.gr g0 (fun b e=>by injection e;omega)
 have GG:=Grew.set W g i (.int .i64 x)
 have d:=k.ha.d1 g q
 refine ⟨Dw.grown k.d0 G k.dw g0 (fun e=>by injection e;omega) (Nat.lt_of_lt_of_le hN k.gr.size),k.d0,G,?_,⟨?_,k.ha.b1,GG.own k.ha.o2 (fun b hb e=>d.1 (by rw [hb,e])),GG.own k.ha.o3 (fun b hb e=>d.2 (by rw [hb,e])),k.ha.d1,k.ha.d2,fun _=>⟨g,c,by show _=Value.slice _ (t.words.set i x).length _;rw [List.length_set],R.set i x⟩⟩,⟨f,GG.row F nR⟩,k.nH,k.nR,hN,k.hH,⟨by show (t.words.set i x).length<=3200;rw [List.length_set];exact k.sz.1,k.sz.2⟩⟩
 ·exact (GG.row k.row nH).congr (fun _ _=>rfl)
 ·have r:=(R.set i x).ir (cap:=c) (by rw [List.length_set];exact R.le)
  rw [List.length_set] at r
  exact r
theorem Pc (w:World) (ty:TypeId) (B:Nat) (v:Value) (l:List Int) (n:Nat) (hn:n=l.length) (own:w.ownsRow B 2 1 v n (icells l)) (hl:l.length<=1000000) (g c:Nat) (z:Int) (hc:w.cell? ⟨g,0,none⟩=some (.int .i64 z)) (hB:B<=w.heap.size) :
  ∃ v' w',(Builtin.append_ #[24,24] ty #[v,.slice (some ⟨g,0,none⟩) 1 c]).run Tryz.prog w=.ok v' w' /\ w'.ownsRow B 2 1 v' (l.length+1) (icells (l ++ [z]))/\w.grownBy w' v.ownBlock/\(v'.ownBlock=v.ownBlock ∨ v'.ownBlock=some w.heap.size):=by
 subst hn
 obtain ⟨i,hi,hzz⟩:=Option.map_eq_some_iff.1 Tryz.infoI
 simp only [Prod.mk.injEq] at hzz
 obtain ⟨hz,hsz,hby⟩:=hzz
 obtain ⟨v',w',run,h1,h2,_,h4⟩:=run_append_own_at (P:=Tryz.prog) w B 24 ty 2 i _ 1 8 Tryz.underlying24 hi hz hsz hby rfl (by omega) v l.length (icells l) own ⟨g,0,none⟩ 1 c [.int .i64 z] rfl (fun j u hj=>by
  match j,hj with
  | 0,hj=>simp at hj;subst hj;simpa [Addr.add] using hc) (fun u hu=>by simp at hu;subst hu;rfl) (by unfold maxLen;omega) (by omega) hB
 refine ⟨v',w',run,?_,h2,h4⟩
 have e:icells l ++ [Value.int .i64 z]=icells (l ++ [z]):=by simp [icells]
 rw [e] at h1
 exact h1
theorem Jkk {ops:Array Oper} {rest:List Oper} {o:Oper} {a:Act} {Q:Exit->Act->World->Prop} (w:World) (hgd:o.guard=none) (s x:Operand)
  (ho:o.op=.call { callee:=.builtin .append,args:=#[s,x],argTypes:=#[24,24] }) (B:Nat) (v:Value) (l:List Int) (n:Nat) (hn:n=l.length) (hs:a.eval s=v) (own:w.ownsRow B 2 1 v n (icells l)) (hl:l.length<=1000000)
  (g c:Nat) (z:Int) (hx:a.eval x=.slice (some ⟨g,0,none⟩) 1 c) (hc:w.cell? ⟨g,0,none⟩=some (.int .i64 z)) (hB:B<=w.heap.size)
  (h:∀ v' w',w'.ownsRow B 2 1 v' (l.length+1) (icells (l ++ [z]))->w.grownBy w' v.ownBlock->(v'.ownBlock=v.ownBlock ∨ v'.ownBlock=some w.heap.size)->wpList Tryz.prog ops Q rest (a.put o.dst v') w'):wpList Tryz.prog ops Q (o::rest) a w:=by
 refine wpList_plain hgd fun K hK=>?_
 obtain ⟨v',w',run,h1,h2,h3⟩:=Pc w o.type B v l n hn own hl g c z hc hB
 unfold Oper.wp
 simp [execOp,ho,resolve,invoke,builtin,hs,hx,run,Result.andThen]
 exact hK _ _ (h v' w' h1 h2 h3)
theorem AD.grew {w:World} {N:Nat} {cv:Value} {cs:List UInt8} {H:Nat} {W W' : World} {t:Hp} {v1 v2 v3:Value} (k:AD w N cv cs H W t v1 v2 v3) (r:Option Nat) (hr:r=v2.ownBlock ∨ r=v3.ownBlock) (g:W.grownBy W' r):Dw N cv cs W' /\ w.grownBy W' (some N)/\W'.rowIs H 30 8 (fun i=>(va8 t v1 v2 v3)[i]?.getD undef)/\(∃ f,W'.rowIs w.heap.size 30 8 f)/\IR W' v1 t.words:=by
 obtain ⟨f,F⟩:=k.res
 have hN:=k.hN
 have lo:∀ b,r=some b->w.heap.size<=b:=fun b e=>by
  rcases hr with q|q
  ·exact Su k.ha.o2 (by rw [<- q];exact e)
  ·exact Su k.ha.o3 (by rw [<- q];exact e)
 have G:w.grownBy W' (some N):=gmix k.gr g lo
 have ne:∀ b m f,W.rowIs b 30 m f->some b ≠ r:=fun b m f h e=>by
  rcases hr with q|q
  ·exact Va k.ha.o2 (by decide) h (by rw [<- q];exact e.symm)
  ·exact Va k.ha.o3 (by decide) h (by rw [<- q];exact e.symm)
 refine ⟨Dw.grown k.d0 G k.dw g (fun e=>by have:=lo N e.symm;omega) (Nat.lt_of_lt_of_le hN k.gr.size),G,k.row.of_block (g.block _ k.row.lt (ne _ _ _ k.row)),⟨f,F.of_block (g.block _ F.lt (ne _ _ _ F))⟩,?_⟩
 refine (Grew.grown g).ir k.ha.w1 (fun b q e=>?_)
 have d:=k.ha.d1 b q
 rcases hr with h|h
 ·exact d.1 (by rw [<- h];exact e)
 ·exact d.2 (by rw [<- h];exact e)
theorem Yr {w:World} {B:Nat} {v:Value} {l:List Int} {z:Int} (h:w.ownsRow B 2 1 v (l.length+1) (icells (l ++ [z]))):w.ownsRow B 2 1 v (l ++ [z]).length (icells (l ++ [z])):=by
 rw [List.length_append,List.length_singleton]
 exact h
theorem AD.kept {w:World} {N:Nat} {cv:Value} {cs:List UInt8} {H:Nat} {W W' : World} {t:Hp} {v1 v2 v3 u:Value} {l:List Int} (k:AD w N cv cs H W t v1 v2 v3) (own:W'.ownsRow w.heap.size 2 1 u l.length (icells l)) (g:W.grownBy W' v3.ownBlock) (lo:u.ownBlock=v3.ownBlock ∨ u.ownBlock=some W.heap.size) (hl:l.length<=3201) :
  AD w N cv cs H (W'.setCell ⟨H,7,none⟩ u) { t with kept:=l } v1 v2 u:=by
 obtain ⟨dw,G,row,res,i1⟩:=k.grew _ (.inr rfl) g
 have d2:∀ b,v2.ownBlock=some b->u.ownBlock ≠ some b:=fun b q e=>by
  rcases lo with h|h
  ·exact k.ha.d2 b q (by rw [<- h];exact e)
  ·rw [h] at e
   have:=(k.ha.o2.lt b q).2
   injection e
   omega
 have d1:∀ b,inB v1 b->v2.ownBlock ≠ some b/\u.ownBlock ≠ some b:=fun b q=>⟨(k.ha.d1 b q).1,fun e=>by
  rcases lo with h|h
  ·exact (k.ha.d1 b q).2 (by rw [<- h];exact e)
  ·rw [h] at e
   have:=k.ha.w1.inlt q
   injection e
   omega⟩
 have o2:=(Grew.grown g).own k.ha.o2 (fun b q e=>k.ha.d2 b q e)
 have g0:=Zg W' H 7 u
 have hH:=k.hH
 have hN:=k.hN
 have G2:w.grownBy (W'.setCell ⟨H,7,none⟩ u) (some N):=gmix G g0 (fun b e=>by injection e;omega)
 obtain ⟨f,F⟩:=res
 exact ⟨Dw.grown k.d0 G2 dw g0 (fun e=>by injection e;omega) (Nat.lt_of_lt_of_le hN G.size),k.d0,G2,(row.set 7 u).congr (fun i hi=>by rcases i with _|_|_|_|_|_|_|_|i <;> first|rfl|omega),(⟨i1,k.ha.b1,o2,own,d1,d2,k.ha.fw.block (fun b q hl=>g.block b hl (fun e=>(k.ha.d1 b q).2 e.symm))⟩:HA w.heap.size W' { t with kept:=l } v1 v2 u).box row g0 k.nH,⟨f,F.setOther (a:=⟨H,7,none⟩) (by show w.heap.size ≠ H;omega) u⟩,k.nH,k.nR,hN,hH,⟨k.sz.1,k.sz.2.1,hl⟩⟩
theorem AD.roots {w:World} {N:Nat} {cv:Value} {cs:List UInt8} {H:Nat} {W W' : World} {t:Hp} {v1 v2 v3 u:Value} {l:List Int} (k:AD w N cv cs H W t v1 v2 v3) (own:W'.ownsRow w.heap.size 2 1 u l.length (icells l)) (g:W.grownBy W' v2.ownBlock) (lo:u.ownBlock=v2.ownBlock ∨ u.ownBlock=some W.heap.size) (hl:l.length<=21) :
  AD w N cv cs H (W'.setCell ⟨H,1,none⟩ u) { t with roots:=l } v1 u v3:=by
 obtain ⟨dw,G,row,res,i1⟩:=k.grew _ (.inl rfl) g
 have d2:∀ b,u.ownBlock=some b->v3.ownBlock ≠ some b:=fun b e q=>by
  rcases lo with h|h
  ·exact k.ha.d2 b (by rw [<- h];exact e) q
  ·rw [h] at e
   have:=(k.ha.o3.lt b q).2
   injection e
   omega
 have d1:∀ b,inB v1 b->u.ownBlock ≠ some b/\v3.ownBlock ≠ some b:=fun b q=>⟨fun e=>by
  rcases lo with h|h
  ·exact (k.ha.d1 b q).1 (by rw [<- h];exact e)
  ·rw [h] at e
   have:=k.ha.w1.inlt q
   injection e
   omega,(k.ha.d1 b q).2⟩
 have o3:=(Grew.grown g).own k.ha.o3 (fun b q e=>k.ha.d2 b e q)
 have g0:=Zg W' H 1 u
 have hH:=k.hH
 have hN:=k.hN
 have G2:w.grownBy (W'.setCell ⟨H,1,none⟩ u) (some N):=gmix G g0 (fun b e=>by injection e;omega)
 obtain ⟨f,F⟩:=res
 exact ⟨Dw.grown k.d0 G2 dw g0 (fun e=>by injection e;omega) (Nat.lt_of_lt_of_le hN G.size),k.d0,G2,(row.set 1 u).congr (fun i hi=>by rcases i with _|_|_|_|_|_|_|_|i <;> first|rfl|omega),(⟨i1,k.ha.b1,own,o3,d1,d2,k.ha.fw.block (fun b q hl=>g.block b hl (fun e=>(k.ha.d1 b q).1 e.symm))⟩:HA w.heap.size W' { t with roots:=l } v1 u v3).box row g0 k.nH,⟨f,F.setOther (a:=⟨H,1,none⟩) (by show w.heap.size ≠ H;omega) u⟩,k.nH,k.nR,hN,hH,⟨k.sz.1,hl,k.sz.2.2⟩⟩
end Go.Proofs.YtboiknllmnfipaaGreatDoor
/- The draw of a word that a heap may have: l4DrawWord and l7DrawWord of the model. -/
namespace Go.Proofs.YtboiknllmnfipaaGreatDoor
open Go.RowKit
def isJ:Value->Bool
 | .int .i64 m=>decide (-9223372036854775808<=m/\m<=9223372036854775807)
 | _=>false
theorem Jmk {v:Value} (h:isJ v=true):∃ m:Int,v=.int .i64 m/\N8 m:=by
 unfold isJ at h
 split at h
 ·have q:=of_decide_eq_true h
  exact ⟨_,rfl,q⟩
 ·cases h
theorem Jmf {w w' : World} {N:Nat} (C:Array Value) (hC:C.toList.all isJ=true) (g:(w.alloc (.cells C 2)).grownBy w' (some N)) (hN:N<w.heap.size) (z:Nat) (hz:z<C.size):∃ m:Int,w'.cell? ⟨w.heap.size,z,none⟩=some (.int .i64 m)/\N8 m:=by
 have h1:isJ C[z]=true:=List.all_eq_true.1 hC _ (by simp)
 obtain ⟨m,hm,hi⟩:=Jmk h1
 refine ⟨m,g.cell ?_ (fun e=>by have e2:w.heap.size=N:=Option.some.inj e;omega),hi⟩
 have hh:=heap_alloc_new w (.cells C 2)
 simp only [World.cell?,hh]
 rw [Array.getElem?_eq_getElem hz,hm]
 rfl
end Go.Proofs.YtboiknllmnfipaaGreatDoor
/- One of two operations of a region comes up. -/
namespace Go.Proofs.YtboiknllmnfipaaGreatDoor
open Go.RowKit
section
variable {P : Program} {md : Region.Mode} {ops : Array Oper} {Q : Exit -> Act -> World -> Prop} {R : Act -> World -> Prop} {S : World -> Prop} {z : Nat}
theorem Tv {i j fuel:Nat} {listed:Array Bool} {a:Act} {w:World} (hr:Region.ready md ops listed=[i,j])
  (h1:wpOp P ops Q i (fun a' w'=>(i=z ∨ S w')/\Disk.wpAnyZ P md ops Q z S fuel (listed.setIfInBounds i true) a' w') a w)
  (h2:wpOp P ops Q j (fun a' w'=>(j=z ∨ S w')/\Disk.wpAnyZ P md ops Q z S fuel (listed.setIfInBounds j true) a' w') a w):Disk.wpAnyZ P md ops Q z S (fuel+1) listed a w:=by
 refine ⟨fun h0=>(by rw [hr] at h0;cases h0),fun k hk=>?_⟩
 rw [hr] at hk
 simp at hk
 rcases hk with rfl|rfl
 ·exact h1
 ·exact h2
theorem Qn (i d:Nat) {oi:Oper} {v:Value} {fuel:Nat} {listed:Array Bool} {T:Array Value} {D:List Deferred} {w w' : World} (hi:ops[i]?=some oi) (hd:oi.dst=some d)
  (hw:Region.wanted oi (yielded ops T)=true) (hy:(execOp (Act.eval ⟨T,D⟩) oi).run P w=.ok (.value v) w') (hS:i=z ∨ S w')
  (h:Disk.wpAnyZ P md ops (Disk.Ends R) z S fuel (listed.setIfInBounds i true) ⟨T.setIfInBounds d v,D⟩ w'):wpOp P ops (Disk.Ends R) i (fun a' w'=>(i=z ∨ S w')/\Disk.wpAnyZ P md ops (Disk.Ends R) z S fuel (listed.setIfInBounds i true) a' w') ⟨T,D⟩ w:=by
 refine Disk.wpOp_of hi hw ?_
 unfold Oper.wp
 rw [hy]
 refine ⟨hS,?_⟩
 rw [hd]
 exact h
theorem Pq (i d:Nat) {oi:Oper} {f:FuncId} {args:Array Value} {fuel:Nat} {listed:Array Bool} {T:Array Value} {D:List Deferred} {w w0:World} (hi:ops[i]?=some oi) (hd:oi.dst=some d)
  (hw:Region.wanted oi (yielded ops T)=true) (hy:(execOp (Act.eval ⟨T,D⟩) oi).run P w=.ok (.enter f args) w0)
  (h:Calls P f args w0 fun e w'=>∃ v,e=.returned v/\(i=z ∨ S w')/\Disk.wpAnyZ P md ops (Disk.Ends R) z S fuel (listed.setIfInBounds i true) ⟨T.setIfInBounds d v,D⟩ w'):wpOp P ops (Disk.Ends R) i (fun a' w'=>(i=z ∨ S w')/\Disk.wpAnyZ P md ops (Disk.Ends R) z S fuel (listed.setIfInBounds i true) a' w') ⟨T,D⟩ w:=by
 refine Disk.wpOp_of hi hw ?_
 unfold Oper.wp
 rw [hy]
 refine h.mono ?_
 rintro e w' ⟨v,rfl,hS,h⟩
 refine ⟨hS,?_⟩
 rw [hd]
 exact h
end
end Go.Proofs.YtboiknllmnfipaaGreatDoor
