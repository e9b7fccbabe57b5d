
import Derived.Test.YtgnbibinclepcaaGreatDoorZQBase
import Derived.Deep.MidRow
import Derived.Laws.CopyRow
import Derived.Test.YtgnbibinclepcaaGreatDoorZP12
/- Boxes by their block: a struct is stored as one step. -/
namespace Go.Proofs.YtgnbibinclepcaaGreatDoor
open Go.RowKit
theorem Bk.store {w:World} {b:Nat} {C:Array Value} {t' : TypeId} (h:Bk w b C t') (t:TypeId) (cs:Array Value) (hn:cs.size=C.size) (hi:(Tryz.prog.info? t).map (·.size)=some C.size) (h1:cs.all (·.oneCell')=true) :
  ∃ w',(Instr.storeAt t (.pointer (some ⟨b,0,none⟩)) (.agg cs)).run Tryz.prog w=.ok () w' /\ Bk w' b cs t' /\ w.grownBy w' (some b)/\w'.heap.size=w.heap.size:=by
 refine ⟨w.setRow b cs,?_,setRow_heap w b C _ t' _ h,?_,?_⟩
 ·have hst:=run_storeCells_at Tryz.prog b 0 t' cs.toList 0 C w h (by simp;omega) (fun v hv=>by
   have q:=Array.all_eq_true'.1 h1 v (by simpa using hv)
   exact q)
  have e:(C.toList.take (0+0) ++ cs.toList ++ C.toList.drop (0+0+cs.toList.length)).toArray=cs:=by
   rw [Nat.add_zero,List.take_zero,List.nil_append,List.drop_eq_nil_of_le (by simp;omega)]
   simp
  rw [e] at hst
  obtain ⟨i,hi',hs⟩:=Option.map_eq_some_iff.1 hi
  simp [Instr.storeAt,Instr.sureAddr,storeVar,sizeOf,typeInfo,hi',hs,hn,Value.cells,hst]
 ·refine ⟨rfl,rfl,rfl,?_,fun i _ hne=>?_⟩
  ·simp [World.setRow]
  ·simp [World.setRow,Array.getElem?_modify]
   intro e
   exact absurd (by rw [e]) hne
 ·simp [World.setRow]
theorem Bk.off {w w' : World} {b:Nat} {C:Array Value} {t:TypeId} {row:Option Nat} (h:Bk w b C t) (hg:w.grownBy w' row) (hne:some b ≠ row):Bk w' b C t:=(hg.block b h.lt hne).trans h
theorem Bk.drew {w:World} {b:Nat} {C:Array Value} {t:TypeId} (h:Bk w b C t):Bk w.drew b C t:=h
theorem exec_storeQ {o:Oper} {T:Array Value} {D:List Deferred} {W W' : World} {p s:Operand} {t:TypeId} {a u:Value} (ho:o.op=.store t p s) (hp:Act.eval ⟨T,D⟩ p=a) (hs:Act.eval ⟨T,D⟩ s=u) (hrun:(Instr.storeAt t a u).run Tryz.prog W=.ok () W') :
  (execOp (Act.eval ⟨T,D⟩) o).run Tryz.prog W=.ok .skip W':=by
 simp [execOp,ho,hp,hs,hrun]
theorem bel_set {w W W' : World} {b:Nat} (h:Below w.heap.size w W) (hg:W.grownBy W' (some b)) (hb:w.heap.size<=b):Below w.heap.size w W':=Below.grown h hg h.size (fun k hk=>by cases hk;exact hb)
end Go.Proofs.YtgnbibinclepcaaGreatDoor
/- An operation whose guard does not hold, in a region that draws its order. -/
namespace Go.Proofs.YtgnbibinclepcaaGreatDoor.Disk
open Go
theorem z_pass {P:Program} {md:Region.Mode} {ops:Array Oper} {R:Act->World->Prop} {S:World->Prop} {z:Nat} (i d:Nat) {oi:Oper} {fuel:Nat} {listed:Array Bool} {T:Array Value} {D:List Deferred} {w:World} (hi:ops[i]?=some oi) (hd:oi.dst=some d)
  (hz:waitsB md ops z i=true) (hs:Region.noSelect ops=true) (hf:Region.free md ops listed i=true) (hr:(Region.ready md ops listed).contains i=true)
  (hw:Region.wanted oi (yielded ops T)=false) (hS:S w)
  (h:wpAnyZ P md ops (Ends R) z S fuel (listed.setIfInBounds i true) ⟨T.setIfInBounds d undef,D⟩ w):wpAnyZ P md ops (Ends R) z S (fuel+1) listed ⟨T,D⟩ w :=
 wpAnyZ_first hi hz (Region.noSelect_spec hs) ends_panic fuel listed _ w (Region.free_spec hi hf) (by simpa using hr) (Or.inr ⟨hw,rfl⟩) hS (by rw [hd];exact h)
end Go.Proofs.YtgnbibinclepcaaGreatDoor.Disk
/- CodeOk of the model and of the program; a Code of the laws' package made one of the program's. -/
namespace Go.Proofs.YtgnbibinclepcaaGreatDoor
open Go.RowKit
theorem specCodeOk_any (op n:Int) (w:World) :
  Calls Tryz.prog 105 #[codeV op n] w fun e w'=>e=.returned (.bool (cokB op n))/\Below w.heap.size w w':=by
 have eo:opB op=(decide (1<=op) && decide (op<=20)):=Bool.decide_and _ _
 unfold codeV
 cases hb:(decide ((1:Int)<=op) && decide (op<=20))
 ·have G:Hid (cokB op n=false):=(by unfold cokB;rw [eo,hb];rfl:cokB op n=false)
  have G2:Hid ((decide ((1:Int)<=op) && decide (op<=20))=false):=hb
  clear eo hb
  go_enter Tryz.func105,Tryz.ntmps105
  go_wp2_with fail
  refine (qIn_any op 1 20 _).mono ?_
  rintro e w1 ⟨rfl,rfl⟩
  rw [G2.out]
  go_wp2
  go_ret
  exact ⟨by rw [G.out];rfl,qbel _ _⟩
 ·have G:Hid (cokB op n=(decide (bndL op<=n) && decide (n<=bndH op))):=(by unfold cokB;rw [eo,hb];rfl:cokB op n=_)
  have G2:Hid ((decide ((1:Int)<=op) && decide (op<=20))=true):=hb
  clear eo hb
  have LB:=l12Bounds_any op
  generalize bndL op=lo at LB G
  generalize bndH op=hi at LB G
  generalize hasN op=hs at LB
  go_enter Tryz.func105,Tryz.ntmps105
  go_wp2_with fail
  refine (qIn_any op 1 20 _).mono ?_
  rintro e w1 ⟨rfl,rfl⟩
  rw [G2.out]
  go_wp2_with fail
  refine (LB _).mono ?_
  rintro e w1 ⟨rfl,rfl⟩
  go_wp2_with fail
  refine (qIn_any n lo hi _).mono ?_
  rintro e w1 ⟨rfl,rfl⟩
  go_wp2
  go_ret
  exact ⟨by rw [G.out];rfl,qbel _ _⟩
set_option maxRecDepth 100000 in
set_option maxHeartbeats 4000000 in
theorem ruleFor_any (op n:Int) (w:World) :
  Calls Tryz.prog 185 #[codeV op n] w fun e w'=>e=.returned (.tuple #[ruleV op,.bool (cokB op n)])/\Below w.heap.size w w':=by
 have hmx:Tryz.prog.follows .mixedOrders=true:=by kernel_rfl
 have R:=ruleOf_any op
 have G:Hid (cokB op n=(opB op && (decide (bndL op<=n) && decide (n<=bndH op)))):=(rfl:cokB op n=_)
 unfold codeV ruleV at *
 generalize bndL op=lo at R G
 generalize bndH op=hi at R G
 generalize hasN op=hs at R
 generalize cokB op n=ck at G
 generalize opB op=ob at R G
 go_enter Tryz.func185,Tryz.ntmps185
 go_wp2_with fail
 refine (R _).mono ?_
 rintro e w1 ⟨rfl,hb1⟩
 have k1:=((Bk.new w #[.int .i64 op,.int .i64 n] 70).alloc (.cells #[.bool false,.int .i64 0,.int .i64 0] 223)).later hb1
 have k2:=(Bk.new (w.alloc (.cells #[.int .i64 op,.int .i64 n] 70)) #[.bool false,.int .i64 0,.int .i64 0] 223).later hb1
 rw [World.size_alloc] at k2
 have B1:=bel_afterQ (bel_afterQ (qbel w _) (qbel _ _)) hb1
 have k3:=Bk.new w1 #[.bool hs,.int .i64 lo,.int .i64 hi] 223
 have S0:((w1.alloc (.cells #[.bool hs,.int .i64 lo,.int .i64 hi] 223)).drew).cell? ⟨w1.heap.size,0,none⟩=some (.bool hs)/\((w1.alloc (.cells #[.bool hs,.int .i64 lo,.int .i64 hi] 223)).drew).cell? ⟨w1.heap.size,1,none⟩=some (.int .i64 lo)/\((w1.alloc (.cells #[.bool hs,.int .i64 lo,.int .i64 hi] 223)).drew).cell? ⟨w1.heap.size,2,none⟩=some (.int .i64 hi)/\((w1.alloc (.cells #[.bool hs,.int .i64 lo,.int .i64 hi] 223)).drew).cell? ⟨w.heap.size,1,none⟩=some (.int .i64 n) :=
  ⟨k3.drew.cell 0 _ rfl,k3.drew.cell 1 _ rfl,k3.drew.cell 2 _ rfl,(k1.alloc _).drew.cell 1 _ rfl⟩
 obtain ⟨w9,hrun,k9,hg9,_⟩:=(k2.alloc (.cells #[.bool hs,.int .i64 lo,.int .i64 hi] 223)).drew.store 223 #[.bool hs,.int .i64 lo,.int .i64 hi] rfl (by kernel_rfl) (by kernel_rfl)
 have z1:some w1.heap.size ≠ some (w.heap.size+1):=by
  have:=k2.lt
  simp
  omega
 have z2:some w.heap.size ≠ some (w.heap.size+1):=by simp
 have k39:=k3.drew.off hg9 z1
 have k19:=(k1.alloc _).drew.off hg9 z2
 have hS9:w9.cell? ⟨w1.heap.size,0,none⟩=some (.bool hs)/\w9.cell? ⟨w1.heap.size,1,none⟩=some (.int .i64 lo)/\w9.cell? ⟨w1.heap.size,2,none⟩=some (.int .i64 hi)/\w9.cell? ⟨w.heap.size,1,none⟩=some (.int .i64 n) :=
  ⟨k39.cell 0 _ rfl,k39.cell 1 _ rfl,k39.cell 2 _ rfl,k19.cell 1 _ rfl⟩
 have B9:Below w.heap.size w w9:=bel_set ((B1.alloc B1.size _).drew) hg9 (by omega)
 have r0:w9.cell? ⟨w.heap.size+1,0,none⟩=some (.bool hs):=k9.cell 0 _ rfl
 have r1:w9.cell? ⟨w.heap.size+1,1,none⟩=some (.int .i64 lo):=k9.cell 1 _ rfl
 have r2:w9.cell? ⟨w.heap.size+1,2,none⟩=some (.int .i64 hi):=k9.cell 2 _ rfl
 clear hb1 k1 k2 R k3 k9 hg9 z1 z2 k39 k19 B1
 go_wp2_with fail
 refine Disk.z_plain 99 (fun W'=>W'.cell? ⟨w1.heap.size,0,none⟩=some (.bool hs)/\W'.cell? ⟨w1.heap.size,1,none⟩=some (.int .i64 lo)/\W'.cell? ⟨w1.heap.size,2,none⟩=some (.int .i64 hi)/\W'.cell? ⟨w.heap.size,1,none⟩=some (.int .i64 n)) hmx S0 (fun hS=>?_)
 cases ob
 case false =>
  refine Disk.zt 0 12 (v:=.agg #[.bool hs,.int .i64 lo,.int .i64 hi]) rfl rfl hS (fun W' hSw=>(by
   obtain ⟨s0,s1,s2,s3⟩:=hSw
   go_simp;first|done|with_reducible rfl)) ?_
  simp only [zA,zB,zC]
  refine Disk.zt 1 13 (v:=.bool false) rfl rfl hS (fun W' hSw=>(by
   go_simp;first|done|with_reducible rfl)) ?_
  simp only [zA,zB,zC]
  refine Disk.zt 2 14 (v:=.bool false) rfl rfl hS (fun W' hSw=>(by
   go_simp;first|done|with_reducible rfl)) ?_
  simp only [zA,zB,zC]
  refine Disk.z_pass 3 15 rfl rfl (by kernel_rfl) (by kernel_rfl) (by kernel_rfl) (by kernel_rfl) (by rfl) hS ?_
  simp only [zA,zB,zC]
  refine Disk.z_pass 5 17 rfl rfl (by kernel_rfl) (by kernel_rfl) (by kernel_rfl) (by kernel_rfl) (by rfl) hS ?_
  simp only [zA,zB,zC]
  refine Disk.z_pass 4 16 rfl rfl (by kernel_rfl) (by kernel_rfl) (by kernel_rfl) (by kernel_rfl) (by rfl) hS ?_
  simp only [zA,zB,zC]
  refine Disk.z_pass 6 18 rfl rfl (by kernel_rfl) (by kernel_rfl) (by kernel_rfl) (by kernel_rfl) (by rfl) hS ?_
  simp only [zA,zB,zC]
  refine Disk.z_pass 7 19 rfl rfl (by kernel_rfl) (by kernel_rfl) (by kernel_rfl) (by kernel_rfl) (by rfl) hS ?_
  simp only [zA,zB,zC]
  refine Disk.zt 8 20 (v:=.bool false) rfl rfl hS (fun W' hSw=>(by
   go_simp;first|done|with_reducible rfl)) ?_
  simp only [zA,zB,zC]
  refine Disk.zt 9 21 (v:=.bool false) rfl rfl hS (fun W' hSw=>(by
   go_simp;first|done|with_reducible rfl)) ?_
  simp only [zA,zB,zC]
  refine Disk.z_pass 10 22 rfl rfl (by kernel_rfl) (by kernel_rfl) (by kernel_rfl) (by kernel_rfl) (by rfl) hS ?_
  simp only [zA,zB,zC]
  refine Disk.z_pass 12 24 rfl rfl (by kernel_rfl) (by kernel_rfl) (by kernel_rfl) (by kernel_rfl) (by rfl) hS ?_
  simp only [zA,zB,zC]
  refine Disk.z_pass 11 23 rfl rfl (by kernel_rfl) (by kernel_rfl) (by kernel_rfl) (by kernel_rfl) (by rfl) hS ?_
  simp only [zA,zB,zC]
  refine Disk.z_pass 13 25 rfl rfl (by kernel_rfl) (by kernel_rfl) (by kernel_rfl) (by kernel_rfl) (by rfl) hS ?_
  simp only [zA,zB,zC]
  refine Disk.z_pass 14 26 rfl rfl (by kernel_rfl) (by kernel_rfl) (by kernel_rfl) (by kernel_rfl) (by rfl) hS ?_
  simp only [zA,zB,zC]
  refine Disk.zt 15 27 (v:=.bool false) rfl rfl hS (fun W' hSw=>(by
   go_simp;first|done|with_reducible rfl)) ?_
  simp only [zA,zB,zC]
  refine Disk.z_skip 16 rfl rfl (by kernel_rfl) (by rfl) (exec_storeQ rfl rfl rfl hrun) (.inr hS9) ?_
  refine Disk.zr 17 3 (w':=w9) (v:=.bool false) rfl rfl (.inr hS9) ?_
  simp only [zA,zB,zC]
  refine Disk.z_done (by kernel_rfl) ?_ _
  clear hS hS9 S0
  go_wp2
  exact bodyPost_ret (v:=.tuple #[.agg #[.bool hs,.int .i64 lo,.int .i64 hi],.bool false]) (by simp [results,Tryz.results185,go_sem,r0,r1,r2]) rfl ⟨by rw [G.out];simp,B9⟩
 case true =>
  by_cases dl:lo<=n
  case neg =>
   refine Disk.zt 0 12 (v:=.agg #[.bool hs,.int .i64 lo,.int .i64 hi]) rfl rfl hS (fun W' hSw=>(by
    obtain ⟨s0,s1,s2,s3⟩:=hSw
    go_simp;first|done|with_reducible rfl)) ?_
   simp only [zA,zB,zC]
   refine Disk.zt 1 13 (v:=.bool true) rfl rfl hS (fun W' hSw=>(by
    go_simp;first|done|with_reducible rfl)) ?_
   simp only [zA,zB,zC]
   refine Disk.zt 2 14 (v:=.bool true) rfl rfl hS (fun W' hSw=>(by
    go_simp;first|done|with_reducible rfl)) ?_
   simp only [zA,zB,zC]
   refine Disk.zt 3 15 (v:=.pointer (some ⟨w.heap.size,1,none⟩)) rfl rfl hS (fun W' hSw=>(by
    go_simp;first|done|with_reducible rfl)) ?_
   simp only [zA,zB,zC]
   refine Disk.zt 5 17 (v:=.pointer (some ⟨w1.heap.size,1,none⟩)) rfl rfl hS (fun W' hSw=>(by
    go_simp;first|done|with_reducible rfl)) ?_
   simp only [zA,zB,zC]
   refine Disk.zt 4 16 (v:=.int .i64 n) rfl rfl hS (fun W' hSw=>(by
    obtain ⟨s0,s1,s2,s3⟩:=hSw
    go_simp;first|done|with_reducible rfl)) ?_
   simp only [zA,zB,zC]
   refine Disk.zt 6 18 (v:=.int .i64 lo) rfl rfl hS (fun W' hSw=>(by
    obtain ⟨s0,s1,s2,s3⟩:=hSw
    go_simp;first|done|with_reducible rfl)) ?_
   simp only [zA,zB,zC]
   refine Disk.zt 7 19 (v:=.bool false) rfl rfl hS (fun W' hSw=>(by
    go_simp;first|done|with_reducible rfl|simp [dl])) ?_
   simp only [zA,zB,zC]
   refine Disk.zt 8 20 (v:=.bool false) rfl rfl hS (fun W' hSw=>(by
    go_simp;first|done|with_reducible rfl)) ?_
   simp only [zA,zB,zC]
   refine Disk.zt 9 21 (v:=.bool false) rfl rfl hS (fun W' hSw=>(by
    go_simp;first|done|with_reducible rfl)) ?_
   simp only [zA,zB,zC]
   refine Disk.z_pass 10 22 rfl rfl (by kernel_rfl) (by kernel_rfl) (by kernel_rfl) (by kernel_rfl) (by rfl) hS ?_
   simp only [zA,zB,zC]
   refine Disk.z_pass 12 24 rfl rfl (by kernel_rfl) (by kernel_rfl) (by kernel_rfl) (by kernel_rfl) (by rfl) hS ?_
   simp only [zA,zB,zC]
   refine Disk.z_pass 11 23 rfl rfl (by kernel_rfl) (by kernel_rfl) (by kernel_rfl) (by kernel_rfl) (by rfl) hS ?_
   simp only [zA,zB,zC]
   refine Disk.z_pass 13 25 rfl rfl (by kernel_rfl) (by kernel_rfl) (by kernel_rfl) (by kernel_rfl) (by rfl) hS ?_
   simp only [zA,zB,zC]
   refine Disk.z_pass 14 26 rfl rfl (by kernel_rfl) (by kernel_rfl) (by kernel_rfl) (by kernel_rfl) (by rfl) hS ?_
   simp only [zA,zB,zC]
   refine Disk.zt 15 27 (v:=.bool false) rfl rfl hS (fun W' hSw=>(by
    go_simp;first|done|with_reducible rfl)) ?_
   simp only [zA,zB,zC]
   refine Disk.z_skip 16 rfl rfl (by kernel_rfl) (by rfl) (exec_storeQ rfl rfl rfl hrun) (.inr hS9) ?_
   refine Disk.zr 17 3 (w':=w9) (v:=.bool false) rfl rfl (.inr hS9) ?_
   simp only [zA,zB,zC]
   refine Disk.z_done (by kernel_rfl) ?_ _
   clear hS hS9 S0
   go_wp2
   exact bodyPost_ret (v:=.tuple #[.agg #[.bool hs,.int .i64 lo,.int .i64 hi],.bool false]) (by simp [results,Tryz.results185,go_sem,r0,r1,r2]) rfl ⟨by rw [G.out];simp;omega,B9⟩
  case pos =>
   by_cases dh:n<=hi
   case neg =>
    refine Disk.zt 0 12 (v:=.agg #[.bool hs,.int .i64 lo,.int .i64 hi]) rfl rfl hS (fun W' hSw=>(by
     obtain ⟨s0,s1,s2,s3⟩:=hSw
     go_simp;first|done|with_reducible rfl)) ?_
    simp only [zA,zB,zC]
    refine Disk.zt 1 13 (v:=.bool true) rfl rfl hS (fun W' hSw=>(by
     go_simp;first|done|with_reducible rfl)) ?_
    simp only [zA,zB,zC]
    refine Disk.zt 2 14 (v:=.bool true) rfl rfl hS (fun W' hSw=>(by
     go_simp;first|done|with_reducible rfl)) ?_
    simp only [zA,zB,zC]
    refine Disk.zt 3 15 (v:=.pointer (some ⟨w.heap.size,1,none⟩)) rfl rfl hS (fun W' hSw=>(by
     go_simp;first|done|with_reducible rfl)) ?_
    simp only [zA,zB,zC]
    refine Disk.zt 5 17 (v:=.pointer (some ⟨w1.heap.size,1,none⟩)) rfl rfl hS (fun W' hSw=>(by
     go_simp;first|done|with_reducible rfl)) ?_
    simp only [zA,zB,zC]
    refine Disk.zt 4 16 (v:=.int .i64 n) rfl rfl hS (fun W' hSw=>(by
     obtain ⟨s0,s1,s2,s3⟩:=hSw
     go_simp;first|done|with_reducible rfl)) ?_
    simp only [zA,zB,zC]
    refine Disk.zt 6 18 (v:=.int .i64 lo) rfl rfl hS (fun W' hSw=>(by
     obtain ⟨s0,s1,s2,s3⟩:=hSw
     go_simp;first|done|with_reducible rfl)) ?_
    simp only [zA,zB,zC]
    refine Disk.zt 7 19 (v:=.bool true) rfl rfl hS (fun W' hSw=>(by
     go_simp;first|done|with_reducible rfl|simp [dl])) ?_
    simp only [zA,zB,zC]
    refine Disk.zt 8 20 (v:=.bool true) rfl rfl hS (fun W' hSw=>(by
     go_simp;first|done|with_reducible rfl)) ?_
    simp only [zA,zB,zC]
    refine Disk.zt 9 21 (v:=.bool true) rfl rfl hS (fun W' hSw=>(by
     go_simp;first|done|with_reducible rfl)) ?_
    simp only [zA,zB,zC]
    refine Disk.zt 10 22 (v:=.pointer (some ⟨w.heap.size,1,none⟩)) rfl rfl hS (fun W' hSw=>(by
     go_simp;first|done|with_reducible rfl)) ?_
    simp only [zA,zB,zC]
    refine Disk.zt 12 24 (v:=.pointer (some ⟨w1.heap.size,2,none⟩)) rfl rfl hS (fun W' hSw=>(by
     go_simp;first|done|with_reducible rfl)) ?_
    simp only [zA,zB,zC]
    refine Disk.zt 11 23 (v:=.int .i64 n) rfl rfl hS (fun W' hSw=>(by
     obtain ⟨s0,s1,s2,s3⟩:=hSw
     go_simp;first|done|with_reducible rfl)) ?_
    simp only [zA,zB,zC]
    refine Disk.zt 13 25 (v:=.int .i64 hi) rfl rfl hS (fun W' hSw=>(by
     obtain ⟨s0,s1,s2,s3⟩:=hSw
     go_simp;first|done|with_reducible rfl)) ?_
    simp only [zA,zB,zC]
    refine Disk.zt 14 26 (v:=.bool false) rfl rfl hS (fun W' hSw=>(by
     go_simp;first|done|with_reducible rfl|simp [dh])) ?_
    simp only [zA,zB,zC]
    refine Disk.zt 15 27 (v:=.bool false) rfl rfl hS (fun W' hSw=>(by
     go_simp;first|done|with_reducible rfl)) ?_
    simp only [zA,zB,zC]
    refine Disk.z_skip 16 rfl rfl (by kernel_rfl) (by rfl) (exec_storeQ rfl rfl rfl hrun) (.inr hS9) ?_
    refine Disk.zr 17 3 (w':=w9) (v:=.bool false) rfl rfl (.inr hS9) ?_
    simp only [zA,zB,zC]
    refine Disk.z_done (by kernel_rfl) ?_ _
    clear hS hS9 S0
    go_wp2
    exact bodyPost_ret (v:=.tuple #[.agg #[.bool hs,.int .i64 lo,.int .i64 hi],.bool false]) (by simp [results,Tryz.results185,go_sem,r0,r1,r2]) rfl ⟨by rw [G.out];simp [dl,dh],B9⟩
   case pos =>
    refine Disk.zt 0 12 (v:=.agg #[.bool hs,.int .i64 lo,.int .i64 hi]) rfl rfl hS (fun W' hSw=>(by
     obtain ⟨s0,s1,s2,s3⟩:=hSw
     go_simp;first|done|with_reducible rfl)) ?_
    simp only [zA,zB,zC]
    refine Disk.zt 1 13 (v:=.bool true) rfl rfl hS (fun W' hSw=>(by
     go_simp;first|done|with_reducible rfl)) ?_
    simp only [zA,zB,zC]
    refine Disk.zt 2 14 (v:=.bool true) rfl rfl hS (fun W' hSw=>(by
     go_simp;first|done|with_reducible rfl)) ?_
    simp only [zA,zB,zC]
    refine Disk.zt 3 15 (v:=.pointer (some ⟨w.heap.size,1,none⟩)) rfl rfl hS (fun W' hSw=>(by
     go_simp;first|done|with_reducible rfl)) ?_
    simp only [zA,zB,zC]
    refine Disk.zt 5 17 (v:=.pointer (some ⟨w1.heap.size,1,none⟩)) rfl rfl hS (fun W' hSw=>(by
     go_simp;first|done|with_reducible rfl)) ?_
    simp only [zA,zB,zC]
    refine Disk.zt 4 16 (v:=.int .i64 n) rfl rfl hS (fun W' hSw=>(by
     obtain ⟨s0,s1,s2,s3⟩:=hSw
     go_simp;first|done|with_reducible rfl)) ?_
    simp only [zA,zB,zC]
    refine Disk.zt 6 18 (v:=.int .i64 lo) rfl rfl hS (fun W' hSw=>(by
     obtain ⟨s0,s1,s2,s3⟩:=hSw
     go_simp;first|done|with_reducible rfl)) ?_
    simp only [zA,zB,zC]
    refine Disk.zt 7 19 (v:=.bool true) rfl rfl hS (fun W' hSw=>(by
     go_simp;first|done|with_reducible rfl|simp [dl])) ?_
    simp only [zA,zB,zC]
    refine Disk.zt 8 20 (v:=.bool true) rfl rfl hS (fun W' hSw=>(by
     go_simp;first|done|with_reducible rfl)) ?_
    simp only [zA,zB,zC]
    refine Disk.zt 9 21 (v:=.bool true) rfl rfl hS (fun W' hSw=>(by
     go_simp;first|done|with_reducible rfl)) ?_
    simp only [zA,zB,zC]
    refine Disk.zt 10 22 (v:=.pointer (some ⟨w.heap.size,1,none⟩)) rfl rfl hS (fun W' hSw=>(by
     go_simp;first|done|with_reducible rfl)) ?_
    simp only [zA,zB,zC]
    refine Disk.zt 12 24 (v:=.pointer (some ⟨w1.heap.size,2,none⟩)) rfl rfl hS (fun W' hSw=>(by
     go_simp;first|done|with_reducible rfl)) ?_
    simp only [zA,zB,zC]
    refine Disk.zt 11 23 (v:=.int .i64 n) rfl rfl hS (fun W' hSw=>(by
     obtain ⟨s0,s1,s2,s3⟩:=hSw
     go_simp;first|done|with_reducible rfl)) ?_
    simp only [zA,zB,zC]
    refine Disk.zt 13 25 (v:=.int .i64 hi) rfl rfl hS (fun W' hSw=>(by
     obtain ⟨s0,s1,s2,s3⟩:=hSw
     go_simp;first|done|with_reducible rfl)) ?_
    simp only [zA,zB,zC]
    refine Disk.zt 14 26 (v:=.bool true) rfl rfl hS (fun W' hSw=>(by
     go_simp;first|done|with_reducible rfl|simp [dh])) ?_
    simp only [zA,zB,zC]
    refine Disk.zt 15 27 (v:=.bool true) rfl rfl hS (fun W' hSw=>(by
     go_simp;first|done|with_reducible rfl)) ?_
    simp only [zA,zB,zC]
    refine Disk.z_skip 16 rfl rfl (by kernel_rfl) (by rfl) (exec_storeQ rfl rfl rfl hrun) (.inr hS9) ?_
    refine Disk.zr 17 3 (w':=w9) (v:=.bool true) rfl rfl (.inr hS9) ?_
    simp only [zA,zB,zC]
    refine Disk.z_done (by kernel_rfl) ?_ _
    clear hS hS9 S0
    go_wp2
    exact bodyPost_ret (v:=.tuple #[.agg #[.bool hs,.int .i64 lo,.int .i64 hi],.bool true]) (by simp [results,Tryz.results185,go_sem,r0,r1,r2]) rfl ⟨by rw [G.out];simp [dl,dh],B9⟩
theorem implCodeOk_any (op n:Int) (w:World) :
  Calls Tryz.prog 149 #[codeV op n] w fun e w'=>e=.returned (.bool (cokB op n))/\Below w.heap.size w w':=by
 have R:=ruleFor_any op n
 unfold codeV ruleV at *
 generalize bndL op=lo at R
 generalize bndH op=hi at R
 generalize hasN op=hs at R
 generalize cokB op n=ck at *
 go_enter Tryz.func149,Tryz.ntmps149
 go_wp2_with fail
 refine (R _).mono ?_
 rintro e w1 ⟨rfl,hb1⟩
 have B1:=bel_afterQ (qbel w _) hb1
 clear hb1
 go_wp2
 go_ret
 exact ⟨rfl,B1.alloc B1.size _⟩
theorem toCode_any (op n:Int) (w:World) :
  Calls Tryz.prog 69 #[codeV op n] w fun e w'=>e=.returned (codeV op n)/\Below w.heap.size w w':=by
 unfold codeV
 go_enter Tryz.func69,Tryz.ntmps69
 go_wp2
 exact bodyPost_ret (v:=.agg #[.int .i64 op,.int .i64 n]) (by simp [results,Tryz.results69,go_sem]) rfl ⟨rfl,bel_afterQ (bel_afterQ (qbel w _) (qbel _ _)) (qbel _ _)⟩
end Go.Proofs.YtgnbibinclepcaaGreatDoor
