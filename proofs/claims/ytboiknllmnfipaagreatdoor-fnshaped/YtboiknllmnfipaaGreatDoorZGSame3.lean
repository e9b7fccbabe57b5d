import Derived.Test.YtboiknllmnfipaaGreatDoorZU22
namespace Go.Proofs.YtboiknllmnfipaaGreatDoor
open Go.RowKit
theorem Jmq {W a b:World} {N M B C o p:Nat} {n1 m1 u0 u1 u2 x0 x1 x2:Value} (k:Below a.heap.size a b) (h:Below W.heap.size W a/\(a.cell? ⟨N,1,none⟩=some n1/\a.cell? ⟨M,1,none⟩=some m1)/\(a.cell? ⟨B,o,none⟩=some u0/\a.cell? ⟨B,o+1,none⟩=some u1/\a.cell? ⟨B,o+2,none⟩=some u2)/\(a.cell? ⟨C,p,none⟩=some x0/\a.cell? ⟨C,p+1,none⟩=some x1/\a.cell? ⟨C,p+2,none⟩=some x2)) :
  Below W.heap.size W b/\(b.cell? ⟨N,1,none⟩=some n1/\b.cell? ⟨M,1,none⟩=some m1)/\(b.cell? ⟨B,o,none⟩=some u0/\b.cell? ⟨B,o+1,none⟩=some u1/\b.cell? ⟨B,o+2,none⟩=some u2)/\(b.cell? ⟨C,p,none⟩=some x0/\b.cell? ⟨C,p+1,none⟩=some x1/\b.cell? ⟨C,p+2,none⟩=some x2) :=
 ⟨C3 h.1 k,⟨C2 k h.2.1.1,C2 k h.2.1.2⟩,⟨C2 k h.2.2.1.1,C2 k h.2.2.1.2.1,C2 k h.2.2.1.2.2⟩,C2 k h.2.2.2.1,C2 k h.2.2.2.2.1,C2 k h.2.2.2.2.2⟩
set_option maxRecDepth 100000 in
set_option maxHeartbeats 3200000 in
theorem Ur (v u:Value) (a b:Gr) (w:World) (hv:GR w v a) (hu:GR w u b) (ha:a.roots.length<=1000000000/\a.nodes.length<=1000000000) (hb:b.roots.length<=1000000000) (sa:∀ n,n ∈ a.nodes->n.fl.length<=1000000000) (sb:∀ n,n ∈ b.nodes->n.fl.length<=1000000000) :
  Calls Tryz.prog 46 #[v,u] w fun e w'=>e=.returned (.bool (Qm a b))/\Below w.heap.size w w':=by
 obtain ⟨ra,rc,na,nc,rfl,ar,an⟩:=hv.out
 obtain ⟨sa',sc,ma,mc,rfl,br,bn⟩:=hu.out
 obtain ⟨R0,R1,bb⟩:=gboxes w (.slice ra a.roots.length rc) (.slice na a.nodes.length nc) (.slice sa' b.roots.length sc) (.slice ma b.nodes.length mc) a.hash b.hash 27
 obtain ⟨p0,p1,p2⟩:=Uw R0
 obtain ⟨q0,q1,q2⟩:=Uw R1
 have E1:=Vx _ _ a.roots b.roots _ (ar.later bb) (br.later bb) (by omega) (by omega)
 have GE:Hid (Qm a b=(decide (a.hash=b.hash) && (decide (a.roots=b.roots) && V6 a.nodes b.nodes))):=rfl
 generalize hW0:(w.alloc (.cells #[.slice ra a.roots.length rc,.slice na a.nodes.length nc,.int .i64 a.hash] 27)).alloc (.cells #[.slice sa' b.roots.length sc,.slice ma b.nodes.length mc,.int .i64 b.hash] 27)=W0 at *
 have K:Hid (∀ W,Below W0.heap.size W0 W->(W.cell? ⟨w.heap.size,1,none⟩=some (.slice na a.nodes.length nc)/\W.cell? ⟨w.heap.size,2,none⟩=some (.int .i64 a.hash))/\W.cell? ⟨w.heap.size+1,1,none⟩=some (.slice ma b.nodes.length mc)/\W.cell? ⟨w.heap.size+1,2,none⟩=some (.int .i64 b.hash)):=fun W q=>⟨⟨C2 q p1,C2 q p2⟩,C2 q q1,C2 q q2⟩
 clear ar br R0 R1
 by_cases h1:a.roots=b.roots
 ·rw [decide_eq_true h1,Bool.true_and] at GE
  rw [decide_eq_true h1] at E1
  clear h1
  by_cases hl:a.nodes.length=b.nodes.length
  ·have tl:((a.nodes.length:Int) != (b.nodes.length:Int))=false:=by simp [hl]
   have HL:Hid (a.nodes.length=b.nodes.length):=hl
   clear hl
   by_cases h0:a.hash=b.hash
   ·have t0:(a.hash != b.hash)=false:=by simp [h0]
    rw [decide_eq_true h0,Bool.true_and] at GE
    clear h0
    go_enter Tryz.func46,Tryz.ntmps46
    go_wp2_with fail
    refine E1.mono ?_
    rintro e w1 ⟨rfl,hb1⟩
    obtain ⟨⟨k0,k1⟩,k2,k3⟩:=K.out w1 hb1
    go_wp2
    obtain ⟨va,vc,ev,_,hvc⟩:=an
    obtain ⟨ua,uc,eu,_,huc⟩:=bn
    simp only [Value.slice.injEq] at ev eu
    obtain ⟨rfl,_,rfl⟩:=ev
    obtain ⟨rfl,_,rfl⟩:=eu
    clear k0 k1 k2 k3
    go_loopw [5] (fun iv wr=>∃ k:Nat,iv=.int .i64 k/\k<=a.nodes.length/\Hid (∀ j,j<k->a.nodes.getD j nd0=b.nodes.getD j nd0)/\Below W0.heap.size W0 wr) (fun iv _=>a.nodes.length - (intOf iv).toNat)
    case atStart=>exact ⟨0,rfl,Nat.zero_le _,fun j hj=>absurd hj (by omega),hb1⟩
    case round =>
     obtain ⟨k,rfl,hk,hj,hbr⟩:=hrel
     obtain ⟨⟨k0,k1⟩,k2,k3⟩:=K.out wr hbr
     have hbw:=C3 bb hbr
     by_cases hkl:k<a.nodes.length
     ·have hkb' : k<b.nodes.length:=by rw [<- HL.out];exact hkl
      obtain ⟨vb,vo,fa,fn,fc,rfl,c0,c1,c2,cr⟩:=hvc k hkl
      obtain ⟨ub,uo,ga,gn,gc,rfl,d0,d1,d2,dr⟩:=huc k hkb'
      have e0:=C2 hbw c0
      have e1:=C2 hbw c1
      have e2:=C2 hbw c2
      have g0:=C2 hbw d0
      have g1:=C2 hbw d1
      have g2:=C2 hbw d2
      have hkb:(k:Int)<b.nodes.length:=by omega
      have hki:(k:Int)<a.nodes.length:=by omega
      have SN:=fun W (q:Below wr.heap.size wr W)=>Vx (.slice fa fn fc) (.slice ga gn gc) (a.nodes.getD k nd0).fl (b.nodes.getD k nd0).fl W ((cr.later hbw).later q) ((dr.later hbw).later q) (by have:=sa _ (show a.nodes.getD k nd0 ∈ a.nodes by simp [hkl]);omega) (by have:=sb _ (show b.nodes.getD k nd0 ∈ b.nodes by simp [hkb']);omega)
      have NO:Hid (a.nodes.getD k nd0 ≠ b.nodes.getD k nd0->Qm a b=false):=fun e=>by rw [GE.out];exact Wn (fun q=>e (by rw [q]))
      have YES:Hid (a.nodes.getD k nd0=b.nodes.getD k nd0->∀ j,j<k+1->a.nodes.getD j nd0=b.nodes.getD j nd0):=fun e=>J9 hj.out e
      have ND:Hid ((a.nodes.getD k nd0).cls=(b.nodes.getD k nd0).cls->(a.nodes.getD k nd0).hash=(b.nodes.getD k nd0).hash->(a.nodes.getD k nd0).fl=(b.nodes.getD k nd0).fl->a.nodes.getD k nd0=b.nodes.getD k nd0):=fun h1 h2 h3=>by
       generalize a.nodes.getD k nd0=m at *
       generalize b.nodes.getD k nd0=n at *
       obtain ⟨_,_,_⟩:=m
       obtain ⟨_,_,_⟩:=n
       simp only at h1 h2 h3
       rw [h1,h2,h3]
      clear c0 c1 c2 d0 d1 d2 cr dr hvc huc sa sb hj
      by_cases x0:(a.nodes.getD k nd0).cls=(b.nodes.getD k nd0).cls
      ·by_cases x1:(a.nodes.getD k nd0).hash=(b.nodes.getD k nd0).hash
       ·have NE:Hid (∀ r,r=decide ((a.nodes.getD k nd0).fl=(b.nodes.getD k nd0).fl)->(r=true->∀ j,j<k+1->a.nodes.getD j nd0=b.nodes.getD j nd0)/\(r=false->Qm a b=false)):=fun r e=>⟨fun h=>YES.out (ND.out x0 x1 (of_decide_eq_true (e ▸ h))),fun h=>NO.out (fun q=>by rw [e,q] at h;simp at h)⟩
        rw [<- x0] at g0
        rw [<- x1] at g1
        clear NO YES ND x0 x1
        generalize (a.nodes.getD k nd0).cls=y0 at *
        generalize (a.nodes.getD k nd0).hash=y1 at *
        generalize hr:decide ((a.nodes.getD k nd0).fl=(b.nodes.getD k nd0).fl)=r at *
        obtain ⟨YS,NS⟩:=NE.out r rfl
        have HY:Hid (r=true->∀ j,j<k+1->a.nodes.getD j nd0=b.nodes.getD j nd0):=YS
        have HN:Hid (r=false->Qm a b=false):=NS
        clear NE YS NS hr
        have t0' : (y0 != y0)=false:=by simp
        have t1' : (y1 != y1)=false:=by simp
        have l0:=World.block_lt_of_cell? _ _ k0
        have l1:=World.block_lt_of_cell? _ _ k2
        have lv:=World.block_lt_of_cell? _ _ e0
        have lu:=World.block_lt_of_cell? _ _ g0
        go_wp2_with fail
        go_region_held3 (fun w'=>Below wr.heap.size wr w' /\ (w'.cell? ⟨w.heap.size,1,none⟩=some (.slice (some ⟨vb,vo,none⟩) a.nodes.length nc)/\w'.cell? ⟨w.heap.size+1,1,none⟩=some (.slice (some ⟨ub,uo,none⟩) b.nodes.length mc))/\(w'.cell? ⟨vb,vo+k * 3,none⟩=some (.int .i64 y0)/\w'.cell? ⟨vb,vo+k * 3+1,none⟩=some (.int .i64 y1)/\w'.cell? ⟨vb,vo+k * 3+2,none⟩=some (.slice fa fn fc))/\(w'.cell? ⟨ub,uo+k * 3,none⟩=some (.int .i64 y0)/\w'.cell? ⟨ub,uo+k * 3+1,none⟩=some (.int .i64 y1)/\w'.cell? ⟨ub,uo+k * 3+2,none⟩=some (.slice ga gn gc)))
         (first|assumption|exact ⟨(Below.refl _ _).drew,⟨k0,k2⟩,⟨e0,e1,e2⟩,g0,g1,g2⟩|exact Jmq (by assumption) (by assumption))
         (first
          | (go_at_call 35;refine (SN _ (And.left (by assumption))).mono ?_;rintro e w2 ⟨rfl,hb2⟩))
        all_goals
         cases r
         ·have G:Hid (Qm a b=false):=HN.out rfl
          clear HY HN
          go_wp2
          go_ret
          exact ⟨J7 G.out.symm,C3 bb (C3 hbr (C3 (Below.refl _ _).drew hb2))⟩
         ·have G:=HY.out rfl
          clear HY HN
          go_wp2
          exact ⟨⟨k+1,by go_num,by omega,G,C3 hbr (C3 (Below.refl _ _).drew hb2)⟩,by simp [intOf];omega⟩
       ·have G:Hid (Qm a b=false):=NO.out (fun e=>x1 (by rw [e]))
        have t1:((a.nodes.getD k nd0).hash != (b.nodes.getD k nd0).hash)=true:=bne_iff_ne.2 x1
        rw [<- x0] at g0
        clear NO YES ND SN x1 x0
        generalize (a.nodes.getD k nd0).cls=y0 at *
        generalize (a.nodes.getD k nd0).hash=y1 at *
        generalize (b.nodes.getD k nd0).hash=z1 at *
        have t0' : (y0 != y0)=false:=by simp
        go_wp2
        go_region
        all_goals go_wp2
        all_goals go_ret
        all_goals exact ⟨J7 G.out.symm,(C3 bb hbr).drew⟩
      ·have G:Hid (Qm a b=false):=NO.out (fun e=>x0 (by rw [e]))
       have t1:((a.nodes.getD k nd0).cls != (b.nodes.getD k nd0).cls)=true:=bne_iff_ne.2 x0
       clear NO YES ND SN x0
       generalize (a.nodes.getD k nd0).cls=y0 at *
       generalize (b.nodes.getD k nd0).cls=z0 at *
       go_wp2
       go_region
       all_goals go_wp2
       all_goals go_ret
       all_goals exact ⟨J7 G.out.symm,(C3 bb hbr).drew⟩
     ·obtain rfl:k=a.nodes.length:=by omega
      have HG:Hid (Qm a b=true):=(by rw [GE.out];exact Jce (Ya HL.out hj.out):Qm a b=true)
      clear hvc huc hkl
      go_wp2
      go_ret
      exact ⟨J7 HG.out.symm,C3 bb hbr⟩
   ·have t0:(a.hash != b.hash)=true:=bne_iff_ne.2 h0
    rw [decide_eq_false h0,Bool.false_and] at GE
    clear h0
    go_enter Tryz.func46,Tryz.ntmps46
    go_wp2_with fail
    refine E1.mono ?_
    rintro e w1 ⟨rfl,hb1⟩
    obtain ⟨⟨k0,k1⟩,k2,k3⟩:=K.out w1 hb1
    go_wp2
    go_ret
    exact ⟨J7 GE.out.symm,C3 bb hb1⟩
  ·have tl:((a.nodes.length:Int) != (b.nodes.length:Int))=true:=by simp;omega
   have G:Hid (Qm a b=false):=(by rw [GE.out,Wn (fun e=>hl (by rw [e])),Bool.and_false]:Qm a b=false)
   clear hl
   go_enter Tryz.func46,Tryz.ntmps46
   go_wp2_with fail
   refine E1.mono ?_
   rintro e w1 ⟨rfl,hb1⟩
   obtain ⟨⟨k0,k1⟩,k2,k3⟩:=K.out w1 hb1
   go_wp2
   go_ret
   exact ⟨J7 G.out.symm,C3 bb hb1⟩
 ·have G:Hid (Qm a b=false):=(by rw [GE.out,decide_eq_false h1,Bool.false_and,Bool.and_false]:Qm a b=false)
  rw [decide_eq_false h1] at E1
  clear h1
  go_enter Tryz.func46,Tryz.ntmps46
  go_wp2_with fail
  refine E1.mono ?_
  rintro e w1 ⟨rfl,hb1⟩
  go_wp2
  go_ret
  exact ⟨J7 G.out.symm,C3 bb hb1⟩
end Go.Proofs.YtboiknllmnfipaaGreatDoor
