import Derived.Test.YtgnbibinclepcaaGreatDoorZP6
namespace Go.Proofs.YtgnbibinclepcaaGreatDoor
open Go.RowKit
def WS (w:World) (b o:Nat) (W:List Int):Prop:=∀ i,i<W.length->w.cell? ⟨b,o+i,none⟩=some (.int .i64 (gw W i))
theorem WS.later {w w' : World} {b o:Nat} {W:List Int} (h:WS w b o W) (hb:Below w.heap.size w w'):WS w' b o W:=fun i hi=>cell_later hb (h i hi)
theorem IR.ws {w:World} {v:Value} {W:List Int} (h:IR w v W) (hp:0<W.length):∃ b o cap,v=.slice (some ⟨b,o,none⟩) W.length cap/\W.length<=cap/\WS w b o W:=by
 obtain ⟨ao,cap,rfl,hle,h⟩:=h
 obtain ⟨b,o,rfl,_⟩:=h 0 hp
 refine ⟨b,o,cap,rfl,hle,fun i hi=>?_⟩
 obtain ⟨b',o',e,hc⟩:=h i hi
 simp only [Option.some.injEq,Addr.mk.injEq] at e
 obtain ⟨rfl,rfl,_⟩:=e
 exact hc
theorem l5Surv_any (f:Bool) (w:World):Calls Tryz.prog 89 #[.bool f] w fun e w'=>e=.returned (.int .i64 (survB f))/\w' = w:=by
 cases f
 ·go_enter Tryz.func89,Tryz.ntmps89
  go_wp2
  go_ret
  exact ⟨rfl,rfl⟩
 ·go_enter Tryz.func89,Tryz.ntmps89
  go_wp2
  go_ret
  exact ⟨rfl,rfl⟩
theorem headB_no1 {W:List Int} {a:Nat} (h:¬ (0<=gw W a/\gw W a<=60)):headB W a=false:=by unfold headB;rw [decide_eq_false h];rfl
theorem headB_no2 {W:List Int} {a:Nat} (h:¬ (0<=gw W (a+1)/\gw W (a+1)<=99)):headB W a=false:=by unfold headB;rw [decide_eq_false h];simp
theorem headB_no3 {W:List Int} {a:Nat} (h:¬ (0<=gw W (a+3)/\gw W (a+3)<=15)):headB W a=false:=by unfold headB;rw [decide_eq_false h];simp
theorem headB_yes {W:List Int} {a:Nat} (h1:0<=gw W a/\gw W a<=60) (h2:0<=gw W (a+1)/\gw W (a+1)<=99) (h3:0<=gw W (a+3)/\gw W (a+3)<=15):headB W a=true:=by
 unfold headB;rw [decide_eq_true h1,decide_eq_true h2,decide_eq_true h3];rfl
def WalkOut (W:List Int) (f t B:Nat) (x:Ending) (w' : World):Prop :=
 ∃ n g cap ok,n<=800/\x=.returned (.tuple #[.slice (some ⟨g,0,none⟩) n cap,.bool ok])/\w'.ownsRow B 2 1 (.slice (some ⟨g,0,none⟩) n cap) n (icells (ints (its W f n)))/\(ok=true->Goes W f t n)/\(ok=false->∀ m,¬ Goes W f t m)
theorem own_some {w:World} {B e size n:Nat} {v:Value} {xs:List Value} (h:w.ownsRow B e size v n xs) (hn:v ≠ .slice none 0 0):∃ g cap,v=.slice (some ⟨g,0,none⟩) n cap:=by
 rcases h.2 with ⟨e0,_⟩|⟨g,cap,cur,rfl,_⟩
 ·exact absurd e0 hn
 ·exact ⟨g,cap,rfl⟩
set_option maxRecDepth 100000 in
set_option maxHeartbeats 1600000 in
theorem l5Walk_any (b o cap:Nat) (W:List Int) (f t:Nat) (w:World) (hW:WS w b o W) (hl:W.length=3200) (hft:f<=t) (ht:t<=3200) :
  Calls Tryz.prog 127 #[.slice (some ⟨b,o,none⟩) 3200 cap,.int .i64 f,.int .i64 t] w fun x w'=>WalkOut W f t w.heap.size x w' /\ Below w.heap.size w w':=by
 have hb0:=bel_one w (.cells #[] 2)
 have ho0:=own_none w w.heap.size 2 1 (Nat.le_refl _)
 have HLN:Hid (W.length=3200):=hl
 clear hl
 go_enter Tryz.func127,Tryz.ntmps127
 go_wp2
 go_loopw [8,9] (fun lv av wr=>∃ (n a:Nat) (v0:Value),Hid (it W f n=a/\(∀ i,i<n->headB W (it W f i)=true))/\av=.int .i64 a/\a<=t/\f+4 * n<=a/\v0=lv/\v0 ≠ .slice none 0 0/\wr.ownsRow w.heap.size 2 1 v0 n (icells (ints (its W f n)))/\Below w.heap.size w wr) (fun _ av _=>t - (intOf av).toNat)
 case atStart=>exact ⟨0,f,_,⟨rfl,fun i hi=>by omega⟩,rfl,hft,by omega,rfl,by simp,ho0,hb0⟩
 case round =>
  obtain ⟨n,a,lv,hI,rfl,hat,hna,rfl,hnil,hown,hb⟩:=hrel
  have hW1:=hW.later hb
  have NO:Hid (∀ w',Below wr.heap.size wr w' -> (¬ (a+4<=t/\headB W a=true/\nx W a<=t))->a<t->WalkOut W f t w.heap.size (.returned (.tuple #[lv,.bool false])) w' /\ Below w.heap.size w w'):=fun w' h' hno hlt=>by
   obtain ⟨g,cp,rfl⟩:=own_some hown hnil
   refine ⟨⟨n,g,cp,false,by omega,rfl,own_later hown h',by simp,fun _=>?_⟩,hb.trans (h'.mono hb.size)⟩
   obtain ⟨h1,h2⟩:=hI.out
   refine no_goes (n:=n) (by omega) ?_
   rw [h1]
   intro hh
   exact hno ⟨hh.1,hh.2.1,by have:=hh.2.2;unfold it at this;rwa [h1] at this⟩
  by_cases hlt:a<t
  ·by_cases h4:a+4<=t
   ·have c0:=hW1 a (by rw [HLN.out];omega)
    have c0w:=hW a (by rw [HLN.out];omega)
    have c1:=hW1 (a+1) (by rw [HLN.out];omega)
    have c3:=hW1 (a+3) (by rw [HLN.out];omega)
    have HH:Hid (∀ (_:¬ (0<=gw W a/\gw W a<=60)),headB W a=false):=headB_no1
    have HH2:Hid (∀ (_:¬ (0<=gw W (a+1)/\gw W (a+1)<=99)),headB W a=false):=headB_no2
    have HH3:Hid (∀ (_:¬ (0<=gw W (a+3)/\gw W (a+3)<=15)),headB W a=false):=headB_no3
    have HY:Hid (0<=gw W a/\gw W a<=60->0<=gw W (a+1)/\gw W (a+1)<=99->0<=gw W (a+3)/\gw W (a+3)<=15->headB W a=true):=headB_yes
    have HN:Hid (nx W a=a+4+(gw W a).toNat):=rfl
    generalize gw W a=x0 at *
    generalize gw W (a+1)=x1 at *
    generalize gw W (a+3)=x3 at *
    clear hW hW1
    by_cases h0:0<=x0/\x0<=60
    ·have D0:=decide_eq_true h0
     obtain ⟨m,rfl⟩:=Int.eq_ofNat_of_zero_le h0.1
     by_cases hn:a+4+m<=t
     ·by_cases h1:0<=x1/\x1<=99
      ·have D1:=decide_eq_true h1
       by_cases h3:0<=x3/\x3<=15
       ·have D3:=decide_eq_true h3
        have HB:Hid (headB W a=true):=HY.out h0 h1 h3
        rw [Int.toNat_natCast] at HN
        clear HH HH2 HH3 HY NO h0 h1 h3
        have hown2:=own_later hown (bel_one wr (.cells #[.int .i64 a] 2))
        have hb2:=bel_after hb (bel_one wr (.cells #[.int .i64 a] 2))
        have hsz:=hb.size
        have hc:∀ W:World,(W.alloc (.cells #[.int .i64 a] 2)).cell? ⟨W.heap.size,0,none⟩=some (.int .i64 (a:Int)):=fun W=>by simp
        have c0':=cell_later (bel_one wr (.cells #[.int .i64 a] 2)) c0
        have hlo:=World.block_lt_of_cell? _ _ c0
        go_wp2_with (first
         | (go_at_call 80;refine (wl1In_any _ _ _ _).mono ?_;rintro x w' ⟨rfl,rfl⟩;(first|rw [D0]|rw [D1]|rw [D3]))
         | (at_builtin;refine app_int _ rfl _ _ rfl _ _ n (icells (ints (its W f n))) rfl hown2 _ 1 a rfl (hc _) (by omega) (Nat.le_trans hsz (by simp)) ?_;intro v4 w4 hown4 hg4;have hb4:=own_grown hb2 hown2 hg4 (Nat.le_trans hsz (by simp));have c04:=cell_later hb4 c0w))
        have ei:icells (ints (its W f (n+1)))=icells (ints (its W f n)) ++ [.int .i64 (a:Int)]:=by rw [its_succ,hI.out.1];simp [icells,ints]
        refine ⟨⟨n+1,a+4+m,v4,⟨?_,fun i hi=>?_⟩,congrArg (Value.int .i64) (by omega),hn,by omega,rfl,fun e=>?_,by rw [ei];exact hown4,hb4⟩,by simp [intOf];omega⟩
        ·show nx W (it W f n)=_
         rw [hI.out.1,HN.out]
        ·by_cases e:i=n
         ·subst e;rw [hI.out.1];exact HB.out
         ·exact hI.out.2 i (by omega)
        ·subst e
         rcases hown4.2 with ⟨_,e2⟩|⟨g,cp,cur,e2,_⟩
         ·omega
         ·cases e2
       ·have D3:=decide_eq_false h3
        have HB:=HH3.out h3
        have G:=NO.out
        clear HH HH2 HH3 HY NO
        go_wp2_with (go_at_call 80;refine (wl1In_any _ _ _ _).mono ?_;rintro x w' ⟨rfl,rfl⟩;(first|rw [D0]|rw [D1]|rw [D3]))
        exact bodyPost_ret (v:=.tuple #[lv,.bool false]) (by simp [results,Tryz.results127,go_sem]) rfl (G _ (Below.refl _ _) (fun h=>by rw [HB] at h;exact absurd h.2.1 (by simp)) hlt)
      ·have D1:=decide_eq_false h1
       have HB:=HH2.out h1
       have G:=NO.out
       clear HH HH2 HH3 HY NO
       go_wp2_with (go_at_call 80;refine (wl1In_any _ _ _ _).mono ?_;rintro x w' ⟨rfl,rfl⟩;(first|rw [D0]|rw [D1]|rw [D3]))
       exact bodyPost_ret (v:=.tuple #[lv,.bool false]) (by simp [results,Tryz.results127,go_sem]) rfl (G _ (Below.refl _ _) (fun h=>by rw [HB] at h;exact absurd h.2.1 (by simp)) hlt)
     ·have G:=NO.out
      clear HH HH2 HH3 HY NO
      go_wp2_with (go_at_call 80;refine (wl1In_any _ _ _ _).mono ?_;rintro x w' ⟨rfl,rfl⟩;(first|rw [D0]|rw [D1]|rw [D3]))
      exact bodyPost_ret (v:=.tuple #[lv,.bool false]) (by simp [results,Tryz.results127,go_sem]) rfl (G _ (Below.refl _ _) (fun h=>hn (by have:=h.2.2;rw [HN.out,Int.toNat_natCast] at this;exact this)) hlt)
    ·have D0:=decide_eq_false h0
     have HB:=HH.out h0
     have G:=NO.out
     clear HH HH2 HH3 HY NO
     go_wp2_with (go_at_call 80;refine (wl1In_any _ _ _ _).mono ?_;rintro x w' ⟨rfl,rfl⟩;(first|rw [D0]|rw [D1]|rw [D3]))
     exact bodyPost_ret (v:=.tuple #[lv,.bool false]) (by simp [results,Tryz.results127,go_sem]) rfl (G _ (Below.refl _ _) (fun h=>by rw [HB] at h;exact absurd h.2.1 (by simp)) hlt)
   ·have G:=NO.out wr (Below.refl _ _) (fun h=>h4 h.1) hlt
    clear NO hI
    go_wp2
    exact bodyPost_ret (v:=.tuple #[lv,.bool false]) (by simp [results,Tryz.results127,go_sem]) rfl G
  ·obtain rfl:a=t:=by omega
   have hG:Hid (Goes W f a n):=hI.out
   clear NO hI
   go_wp2
   obtain ⟨g,cp,rfl⟩:=own_some hown hnil
   exact bodyPost_ret (v:=.tuple #[.slice (some ⟨g,0,none⟩) n cp,.bool true]) (by simp [results,Tryz.results127,go_sem]) rfl ⟨⟨n,g,cp,true,by omega,rfl,hown,fun _=>hG.out,by simp⟩,hb⟩
end Go.Proofs.YtgnbibinclepcaaGreatDoor
