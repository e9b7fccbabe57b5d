
import Derived.Test.YtgnbibinclepcaaGreatDoorZP22
import Derived.Test.YtgnbibinclepcaaGreatDoorZGShP
import Derived.Test.YtgnbibinclepcaaGreatDoorZP16
import Derived.Test.YtgnbibinclepcaaGreatDoorZP15
import Derived.Test.YtgnbibinclepcaaGreatDoorZGShI
import Derived.Test.YtgnbibinclepcaaGreatDoorZKOk
import Derived.Test.YtgnbibinclepcaaGreatDoorZKSpW
import Derived.Test.YtgnbibinclepcaaGreatDoorZP8
import Derived.Test.YtgnbibinclepcaaGreatDoorZP6
import Derived.Laws.IdiomStrings
import Derived.Test.YtgnbibinclepcaaGreatDoorZP19
import Derived.Test.YtgnbibinclepcaaGreatDoorZP21
/- l14Text of the model: the text of a machine, byte by byte. -/
namespace Go.Proofs.YtgnbibinclepcaaGreatDoor
open Go.RowKit
theorem bel_da (w:World) (o:Obj):Below w.heap.size w (w.drew.alloc o):=Below.alloc (Below.refl _ w).drew (Nat.le_refl _) o
theorem exec_convTB {o:Oper} {a:Act} {w w' : World} {u v:Value} {t1 t2:TypeId} (s:Operand) (ho:o.op=.convert t1 t2 s) (hs:a.eval s=v) (hr:(convert t1 t2 v).run Tryz.prog w=.ok u w'):(execOp a.eval o).run Tryz.prog w=.ok (.value u) w':=by
 unfold execOp
 simp only [ho,Sem.run_bind,Sem.run_pure,Result.andThen_ok,hs,hr]
theorem gitoa_size {n:Int} (h:g64 n):(gitoa n).size<=21:=by
 show (Lib.itoa n).toArray.size<=21
 rw [List.size_toArray]
 exact Lib.itoa_length_le n h.1 h.2
theorem gint_any (n:Int) (w:World) (h:g64 n):Calls Tryz.prog 81 #[.int .i64 n] w fun e w'=>e=.returned (.string (gitoa n))/\Below w.heap.size w w':=l2Int_any n w h.1 h.2
theorem rowB_snoc (l:List Int) (j:Nat) (h:j<l.length):rowB (l.take (j+1))=rowB (l.take j) ++ (32::Lib.itoa (l.getD j 0)):=by
 rw [List.take_succ_eq_append_getElem h,rowB,List.flatMap_append]
 simp [rowB,List.getD_eq_getElem?_getD,h]
def nodB (n:Nd):List UInt8:=Lib.itoa n.cls ++ [32] ++ Lib.itoa n.hash ++ rowB n.fl ++ [10]
theorem nods_snoc (l:List Nd) (j:Nat) (h:j<l.length):(l.take (j+1)).flatMap nodB=(l.take j).flatMap nodB ++ nodB (l.getD j nd0):=by
 rw [List.take_succ_eq_append_getElem h,List.flatMap_append]
 simp [List.getD_eq_getElem?_getD,h]
theorem rowB_len {l:List Int} (h:∀ x,x ∈ l->g64 x):(rowB l).length<=22 * l.length:=by
 induction l with
 | nil=>simp [rowB]
 | cons x l ih =>
  have h1:=ih fun y hy=>h y (List.mem_cons_of_mem _ hy)
  have h2:=Lib.itoa_length_le x (h x (by simp)).1 (h x (by simp)).2
  have e:rowB (x::l)=(32::Lib.itoa x) ++ rowB l:=by simp [rowB]
  rw [e,List.length_append,List.length_cons,List.length_cons]
  omega
theorem nodB_len {n:Nd} (h:nd64 n) (hl:n.fl.length<=60):(nodB n).length<=1400:=by
 have h1:=Lib.itoa_length_le n.cls h.1.1 h.1.2
 have h2:=Lib.itoa_length_le n.hash h.2.1.1 h.2.1.2
 have h3:=rowB_len h.2.2
 unfold nodB
 simp only [List.length_append,List.length_cons,List.length_nil]
 omega
theorem nods_len {l:List Nd} (h:∀ n,n ∈ l->nd64 n/\n.fl.length<=60):(l.flatMap nodB).length<=1400 * l.length:=by
 induction l with
 | nil=>simp
 | cons x l ih =>
  have h1:=ih fun y hy=>h y (List.mem_cons_of_mem _ hy)
  have h2:=nodB_len (h x (by simp)).1 (h x (by simp)).2
  rw [List.flatMap_cons,List.length_append,List.length_cons]
  omega
def imgH (pc st hash:Int) (n:Nat):List UInt8:=Lib.itoa pc ++ [32] ++ Lib.itoa st ++ [32] ++ Lib.itoa hash ++ [10] ++ Lib.itoa (n:Int)
theorem imgH_len {pc st hash:Int} {n:Nat} (h1:g64 pc) (h2:g64 st) (h3:g64 hash) (h4:g64 n):(imgH pc st hash n).length<=100:=by
 have:=Lib.itoa_length_le pc h1.1 h1.2
 have:=Lib.itoa_length_le st h2.1 h2.2
 have:=Lib.itoa_length_le hash h3.1 h3.2
 have:=Lib.itoa_length_le n h4.1 h4.2
 unfold imgH
 simp only [List.length_append,List.length_cons,List.length_nil]
 omega
theorem imgS_H (pc st hash:Int) (out:List Int) (nodes:List Nd):imgS pc st hash out nodes=imgH pc st hash out.length ++ rowB out ++ [10] ++ nodes.flatMap nodB:=by
 unfold imgS imgH
 rfl
theorem imgS_len {pc st hash:Int} {out:List Int} {nodes:List Nd} (h1:g64 pc) (h2:g64 st) (h3:g64 hash) (ho:out.length<=300) (ho2:∀ x,x ∈ out->g64 x) (hn:nodes.length<=3200) (hn2:∀ n,n ∈ nodes->nd64 n/\n.fl.length<=60):(imgS pc st hash out nodes).length<=5000000:=by
 have a:=imgH_len h1 h2 h3 (show g64 (out.length:Int) by unfold g64;omega)
 have b:=rowB_len ho2
 have c:=nods_len hn2
 rw [imgS_H]
 simp only [List.length_append,List.length_cons,List.length_nil]
 omega
theorem head_eq (pc st hash:Int) (n:Nat):(gitoa pc ++ ⟨#[32]⟩ ++ gitoa st ++ ⟨#[32]⟩ ++ gitoa hash ++ ⟨#[10]⟩ ++ gitoa n).data.toList=imgH pc st hash n:=by
 simp [gitoa,imgH,ByteArray.data_append]
structure TS (W1 w:World) (g cap:Nat) (l:List UInt8):Prop where
 below:Below W1.heap.size W1 w
 tb:TB W1.heap.size w g cap l
theorem TS.call {W1 w w' : World} {g cap:Nat} {l:List UInt8} (h:TS W1 w g cap l) (hb:Below w.heap.size w w'):TS W1 w' g cap l:=⟨bel_after h.below hb,h.tb.later hb⟩
theorem TS.app {W1 w w' : World} {g cap g' cap' : Nat} {l l' : List UInt8} (h:TS W1 w g cap l) (gr:w.grownBy w' (some g)) (t:TB W1.heap.size w' g' cap' l'):TS W1 w' g' cap' l' :=
 ⟨Below.grown h.below gr h.below.size (fun k e=>by cases e;exact h.tb.lo),t⟩
theorem ts_conv (w:World) (s:ByteArray) (l:List UInt8) (hl:s.data.toList=l) (hs:s.size<=1000000) :
  TS w (w.drew.alloc (.cells (bytesRow s (grownCap w s.size 0 5)) 5 ((bytesRow s (grownCap w s.size 0 5)).size,(bytesRow s (grownCap w s.size 0 5)).size+1))) w.heap.size (grownCap w s.size 0 5) l:=by
 subst hl
 exact ⟨bel_da w _,TB.conv w s _ (grownCap_ge _ _ _ _) (grownCap_le_maxLen w s.size 0 5 (by unfold maxLen;omega))⟩
set_option maxRecDepth 100000 in
set_option maxHeartbeats 3200000 in
theorem specText_any (tv:ByteArray) (v1 v2 v3 vp vo:Value) (m:Mp) (l:List Nat) (w:World) (i1:IR w v1 m.h.words) (i2:IR w v2 m.h.roots) (i3:IR w v3 m.h.kept) (io:IR w vo m.out) (r:RightAt m.h l) (hpc:g64 m.pc) (hst:g64 m.st) (hol:m.out.length<=300) (ho2:∀ x,x ∈ m.out->g64 x) (htv:tv=⟨(imgS m.pc m.st m.h.hash m.out (shP m.h).nodes).toArray⟩) :
  Calls Tryz.prog 38 #[.agg #[v1,v2,.int .i64 m.h.old,.int .i64 m.h.eden,.int .i64 m.h.surv,.bool m.h.flip,.int .i64 m.h.hash,v3,vp,.int .i64 m.pc,vo,.int .i64 m.st]] w fun e w'=>e=.returned (.string tv)/\Below w.heap.size w w':=by
 have hb0:=bel_one w (.cells #[v1,v2,.int .i64 m.h.old,.int .i64 m.h.eden,.int .i64 m.h.surv,.bool m.h.flip,.int .i64 m.h.hash,v3,vp,.int .i64 m.pc,vo,.int .i64 m.st] 29)
 have B0:Bk (w.alloc (.cells #[v1,v2,.int .i64 m.h.old,.int .i64 m.h.eden,.int .i64 m.h.surv,.bool m.h.flip,.int .i64 m.h.hash,v3,vp,.int .i64 m.pc,vo,.int .i64 m.st] 29)) w.heap.size #[v1,v2,.int .i64 m.h.old,.int .i64 m.h.eden,.int .i64 m.h.surv,.bool m.h.flip,.int .i64 m.h.hash,v3,vp,.int .i64 m.pc,vo,.int .i64 m.st] 29:=Bk.new w _ _
 have SH:=l6Shape_any (.agg #[v1,v2,.int .i64 m.h.old,.int .i64 m.h.eden,.int .i64 m.h.surv,.bool m.h.flip,.int .i64 m.h.hash,v3]) m.h l _ ⟨v1,v2,v3,rfl,i1.later hb0,i2.later hb0,i3.later hb0⟩ r
 have hvh:g64 (shP m.h).hash:=by have:=r.2.2.1;show g64 m.h.hash;unfold g64;omega
 have hvl:g64 (m.out.length:Int):=by unfold g64;omega
 obtain ⟨nn,nb⟩:=shape_nodes r
 have HE:∀ l2,l2=imgS m.pc m.st (shP m.h).hash m.out (shP m.h).nodes->Ending.returned (.string ⟨l2.toArray⟩)=.returned (.string tv):=fun l2 h=>by rw [h,htv];rfl
 clear r i1 i2 i3 htv
 have x0:=B0.cell 0 (v1) rfl
 have x1:=B0.cell 1 (v2) rfl
 have x2:=B0.cell 2 (.int .i64 m.h.old) rfl
 have x3:=B0.cell 3 (.int .i64 m.h.eden) rfl
 have x4:=B0.cell 4 (.int .i64 m.h.surv) rfl
 have x5:=B0.cell 5 (.bool m.h.flip) rfl
 have x6:=B0.cell 6 (.int .i64 m.h.hash) rfl
 have x7:=B0.cell 7 (v3) rfl
 obtain ⟨oa,oc,rfl,-,hvc⟩:=id io
 go_enter Tryz.func38,Tryz.ntmps38
 go_wp2_with fail
 refine SH.mono ?_
 clear SH x0 x1 x2 x3 x4 x5 x6 x7
 rintro e w1 ⟨⟨v',rfl,gr⟩,hb1⟩
 obtain ⟨ra,rc,na,nc,rfl,-,hn⟩:=gr.gr.out
 clear gr
 have bw1:=bel_after hb0 hb1
 have B1:=B0.later hb1
 clear B0 hb0 hb1
 generalize shP m.h=g at *
 have al:=bel_one w1 (.cells #[.slice ra g.roots.length rc,.slice na g.nodes.length nc,.int .i64 g.hash] 41)
 have D2:Bk (w1.alloc (.cells #[.slice ra g.roots.length rc,.slice na g.nodes.length nc,.int .i64 g.hash] 41)) w1.heap.size #[.slice ra g.roots.length rc,.slice na g.nodes.length nc,.int .i64 g.hash] 41:=Bk.new w1 _ _
 have B2:=B1.later al
 have bw2:=bel_after bw1 al
 have hn2:=hn.later al
 have io2:=io.later bw2
 clear B1 hn bw1
 go_wp2_with fail
 generalize hgb:w1.heap.size=gb at *
 generalize w1.alloc (.cells #[.slice ra g.roots.length rc,.slice na g.nodes.length nc,.int .i64 g.hash] 41)=w2 at *
 clear al hgb
 have z1:=gitoa_size hpc
 have z2:=gitoa_size hst
 have z3:=gitoa_size hvh
 have z4:=gitoa_size hvl
 have g1:¬ 9223372036854775807<(gitoa m.pc).size+1:=by omega
 have g2:¬ 9223372036854775807<(gitoa m.pc).size+1+(gitoa m.st).size:=by omega
 have g3:¬ 9223372036854775807<(gitoa m.pc).size+1+(gitoa m.st).size+1:=by omega
 have g4:¬ 9223372036854775807<(gitoa m.pc).size+1+(gitoa m.st).size+1+(gitoa g.hash).size:=by omega
 have g5:¬ 9223372036854775807<(gitoa m.pc).size+1+(gitoa m.st).size+1+(gitoa g.hash).size+1:=by omega
 have g6:¬ 9223372036854775807<(gitoa m.pc).size+1+(gitoa m.st).size+1+(gitoa g.hash).size+1+(gitoa (m.out.length:Int)).size:=by omega
 have CX:∀ W,Below w2.heap.size w2 W->W.cell? ⟨w.heap.size,9,none⟩=some (.int .i64 m.pc)/\W.cell? ⟨w.heap.size,11,none⟩=some (.int .i64 m.st)/\W.cell? ⟨w.heap.size,10,none⟩=some (.slice oa m.out.length oc)/\W.cell? ⟨gb,2,none⟩=some (.int .i64 g.hash):=fun W hb=>⟨(B2.later hb).cell 9 _ rfl,(B2.later hb).cell 11 _ rfl,(B2.later hb).cell 10 _ rfl,(D2.later hb).cell 2 _ rfl⟩
 refine Disk.z_plain 99 (fun W'=>Below w2.heap.size w2 W') (by kernel_rfl) (Below.refl _ w2).drew fun hs=>?_
 generalize w2.drew=wd at hs ⊢
 refine Disk.zt 0 12 (v:=.pointer (some ⟨w.heap.size,9,none⟩)) rfl rfl hs (fun W' hSw=>(by
  obtain ⟨q0,q1,q2,q3⟩:=CX _ hSw
  clear hSw CX
  go_simp;first|done|with_reducible rfl)) ?_
 simp only [zA,zB,zC]
 refine Disk.zt 1 13 (v:=.int .i64 m.pc) rfl rfl hs (fun W' hSw=>(by
  obtain ⟨q0,q1,q2,q3⟩:=CX _ hSw
  clear hSw CX
  go_simp;first|done|with_reducible rfl)) ?_
 simp only [zA,zB,zC]
 refine Disk.zt 4 16 (v:=.pointer (some ⟨w.heap.size,11,none⟩)) rfl rfl hs (fun W' hSw=>(by
  obtain ⟨q0,q1,q2,q3⟩:=CX _ hSw
  clear hSw CX
  go_simp;first|done|with_reducible rfl)) ?_
 simp only [zA,zB,zC]
 refine Disk.zt 5 17 (v:=.int .i64 m.st) rfl rfl hs (fun W' hSw=>(by
  obtain ⟨q0,q1,q2,q3⟩:=CX _ hSw
  clear hSw CX
  go_simp;first|done|with_reducible rfl)) ?_
 simp only [zA,zB,zC]
 refine Disk.zt 9 21 (v:=.pointer (some ⟨gb,2,none⟩)) rfl rfl hs (fun W' hSw=>(by
  obtain ⟨q0,q1,q2,q3⟩:=CX _ hSw
  clear hSw CX
  go_simp;first|done|with_reducible rfl)) ?_
 simp only [zA,zB,zC]
 refine Disk.zt 10 22 (v:=.int .i64 g.hash) rfl rfl hs (fun W' hSw=>(by
  obtain ⟨q0,q1,q2,q3⟩:=CX _ hSw
  clear hSw CX
  go_simp;first|done|with_reducible rfl)) ?_
 simp only [zA,zB,zC]
 refine Disk.zt 14 26 (v:=.pointer (some ⟨w.heap.size,10,none⟩)) rfl rfl hs (fun W' hSw=>(by
  obtain ⟨q0,q1,q2,q3⟩:=CX _ hSw
  clear hSw CX
  go_simp;first|done|with_reducible rfl)) ?_
 simp only [zA,zB,zC]
 refine Disk.zt 15 27 (v:=.slice oa m.out.length oc) rfl rfl hs (fun W' hSw=>(by
  obtain ⟨q0,q1,q2,q3⟩:=CX _ hSw
  clear hSw CX
  go_simp;first|done|with_reducible rfl)) ?_
 simp only [zA,zB,zC]
 refine Disk.zt 16 28 (v:=.int .i64 (m.out.length:Int)) rfl rfl hs (fun W' hSw=>(by
  obtain ⟨q0,q1,q2,q3⟩:=CX _ hSw
  clear hSw CX
  go_simp;first|done|with_reducible rfl)) ?_
 simp only [zA,zB,zC]
 refine Disk.z_call 2 14 rfl rfl (by kernel_rfl) (by rfl) (f:=81) (args:=#[.int .i64 m.pc]) (w0:=wd) (by go_simp;first|done|with_reducible rfl) ?_
 refine (gint_any m.pc wd hpc).mono ?_
 rintro e wa ⟨rfl,hbz⟩
 have ha:=bel_after hs hbz
 refine ⟨_,rfl,.inr ha,?_⟩
 clear hbz hs
 simp only [zA,zB,zC]
 refine Disk.zt 3 15 (v:=.string (gitoa m.pc ++ ⟨#[32]⟩)) rfl rfl ha (fun W' hSw=>(by
  obtain ⟨q0,q1,q2,q3⟩:=CX _ hSw
  clear hSw CX
  go_simp;first|done|with_reducible rfl)) ?_
 simp only [zA,zB,zC]
 refine Disk.z_call 6 18 rfl rfl (by kernel_rfl) (by rfl) (f:=81) (args:=#[.int .i64 m.st]) (w0:=wa) (by go_simp;first|done|with_reducible rfl) ?_
 refine (gint_any m.st wa hst).mono ?_
 rintro e wb ⟨rfl,hbz⟩
 have hb:=bel_after ha hbz
 refine ⟨_,rfl,.inr hb,?_⟩
 clear hbz ha
 simp only [zA,zB,zC]
 refine Disk.zt 7 19 (v:=.string (gitoa m.pc ++ ⟨#[32]⟩ ++ gitoa m.st)) rfl rfl hb (fun W' hSw=>(by
  obtain ⟨q0,q1,q2,q3⟩:=CX _ hSw
  clear hSw CX
  go_simp;first|done|with_reducible rfl)) ?_
 simp only [zA,zB,zC]
 refine Disk.zt 8 20 (v:=.string (gitoa m.pc ++ ⟨#[32]⟩ ++ gitoa m.st ++ ⟨#[32]⟩)) rfl rfl hb (fun W' hSw=>(by
  obtain ⟨q0,q1,q2,q3⟩:=CX _ hSw
  clear hSw CX
  go_simp;first|done|with_reducible rfl)) ?_
 simp only [zA,zB,zC]
 refine Disk.z_call 11 23 rfl rfl (by kernel_rfl) (by rfl) (f:=81) (args:=#[.int .i64 g.hash]) (w0:=wb) (by go_simp;first|done|with_reducible rfl) ?_
 refine (gint_any g.hash wb hvh).mono ?_
 rintro e wc ⟨rfl,hbz⟩
 have hc:=bel_after hb hbz
 refine ⟨_,rfl,.inr hc,?_⟩
 clear hbz hb
 simp only [zA,zB,zC]
 refine Disk.zt 12 24 (v:=.string (gitoa m.pc ++ ⟨#[32]⟩ ++ gitoa m.st ++ ⟨#[32]⟩ ++ gitoa g.hash)) rfl rfl hc (fun W' hSw=>(by
  obtain ⟨q0,q1,q2,q3⟩:=CX _ hSw
  clear hSw CX
  go_simp;first|done|with_reducible rfl)) ?_
 simp only [zA,zB,zC]
 refine Disk.zt 13 25 (v:=.string (gitoa m.pc ++ ⟨#[32]⟩ ++ gitoa m.st ++ ⟨#[32]⟩ ++ gitoa g.hash ++ ⟨#[10]⟩)) rfl rfl hc (fun W' hSw=>(by
  obtain ⟨q0,q1,q2,q3⟩:=CX _ hSw
  clear hSw CX
  go_simp;first|done|with_reducible rfl)) ?_
 simp only [zA,zB,zC]
 refine Disk.z_call 17 29 rfl rfl (by kernel_rfl) (by rfl) (f:=81) (args:=#[.int .i64 (m.out.length:Int)]) (w0:=wc) (by go_simp;first|done|with_reducible rfl) ?_
 refine (gint_any (m.out.length:Int) wc hvl).mono ?_
 rintro e w3 ⟨rfl,hbz⟩
 have h3:=bel_after hc hbz
 refine ⟨_,rfl,.inr h3,?_⟩
 clear hbz hc
 simp only [zA,zB,zC]
 refine Disk.zt 18 30 (v:=.string (gitoa m.pc ++ ⟨#[32]⟩ ++ gitoa m.st ++ ⟨#[32]⟩ ++ gitoa g.hash ++ ⟨#[10]⟩ ++ gitoa (m.out.length:Int))) rfl rfl h3 (fun W' hSw=>(by
  obtain ⟨q0,q1,q2,q3⟩:=CX _ hSw
  clear hSw CX
  go_simp;first|done|with_reducible rfl)) ?_
 simp only [zA,zB,zC]
 obtain ⟨s6,hs6⟩:∃ s,s=gitoa m.pc ++ ⟨#[32]⟩ ++ gitoa m.st ++ ⟨#[32]⟩ ++ gitoa g.hash ++ ⟨#[10]⟩ ++ gitoa (m.out.length:Int):=⟨_,rfl⟩
 rw [<- hs6]
 have hd6:s6.data.toList=imgH m.pc m.st g.hash m.out.length:=by rw [hs6];exact head_eq _ _ _ _
 clear hs6 g1 g2 g3 g4 g5 g6 z1 z2 z3 z4
 have hcv:=conv_TB w3 s6
 have h3c:Below w2.heap.size w2 (w3.drew.alloc (.cells (bytesRow s6 (grownCap w3 s6.size 0 5)) 5 ((bytesRow s6 (grownCap w3 s6.size 0 5)).size,(bytesRow s6 (grownCap w3 s6.size 0 5)).size+1))):=bel_after h3 (bel_da w3 _)
 refine Disk.z_run 19 31 (v:=.slice (some ⟨w3.heap.size,0,none⟩) s6.size (grownCap w3 s6.size 0 5)) rfl rfl (by kernel_rfl) (by rfl) (w':=(w3.drew.alloc (.cells (bytesRow s6 (grownCap w3 s6.size 0 5)) 5 ((bytesRow s6 (grownCap w3 s6.size 0 5)).size,(bytesRow s6 (grownCap w3 s6.size 0 5)).size+1)))) (exec_convTB _ rfl rfl hcv) (.inr h3c) ?_
 simp only [zA,zB,zC]
 refine Disk.zt 20 4 (v:=.slice (some ⟨w3.heap.size,0,none⟩) s6.size (grownCap w3 s6.size 0 5)) rfl rfl h3c (fun W' hSw=>(by
  clear hSw CX
  go_simp;first|done|with_reducible rfl)) ?_
 simp only [zA,zB,zC]
 refine Disk.z_done (by kernel_rfl) ?_ _
 clear h3c hcv CX
 have b23:=h3
 have L0:=imgH_len hpc hst hvh hvl
 have HN0:s6.size=(imgH m.pc m.st g.hash m.out.length).length:=by rw [<- hd6,Array.length_toList];rfl
 have ts0:=ts_conv w3 s6 _ hd6 (by omega)
 clear hd6
 have B3:=B2.later b23
 have D3:=D2.later b23
 have bw3:=bel_after bw2 b23
 have hn3:=hn2.later b23
 clear B2 D2 bw2 hn2 io2
 generalize World.alloc w3.drew _=w4 at ts0 ⊢
 generalize grownCap w3 s6.size 0 5=C at ts0 ⊢
 generalize s6.size=N at HN0 ⊢
 generalize hL1:imgH m.pc m.st g.hash m.out.length=l0 at ts0 HN0 L0
 replace HE:Hid (∀ l2,l2=l0 ++ rowB m.out ++ [10] ++ g.nodes.flatMap nodB->Ending.returned (.string ⟨l2.toArray⟩)=.returned (.string tv)):=(fun l2 h=>HE l2 (by rw [h,imgS_H,hL1]):∀ l2,l2=l0 ++ rowB m.out ++ [10] ++ g.nodes.flatMap nodB->Ending.returned (.string ⟨l2.toArray⟩)=.returned (.string tv))
 clear hL1 io hpc hst hvh hvl b23 h3
 have HN1:Hid (N=(l0 ++ rowB (m.out.take 0)).length):=(by simpa [rowB] using HN0:N=(l0 ++ rowB (m.out.take 0)).length)
 have ts1:TS w3 w4 w3.heap.size C (l0 ++ rowB (m.out.take 0)):=by simpa [rowB] using ts0
 clear HN0 ts0
 go_wp2
 go_loopw [4,5] (fun bv iv wr=>∃ (j g1 c1 n:Nat),j<=m.out.length/\iv=.int .i64 j/\bv=.slice (some ⟨g1,0,none⟩) n c1/\Hid (n=(l0 ++ rowB (m.out.take j)).length)/\TS w3 wr g1 c1 (l0 ++ rowB (m.out.take j))) (fun _ iv _=>m.out.length - (intOf iv).toNat)
 case atStart=>exact ⟨0,_,_,N,Nat.zero_le _,rfl,rfl,HN1,ts1⟩
 case round =>
  obtain ⟨j,g1,c1,n,hj,rfl,rfl,hn,ts⟩:=hrel
  clear ts1 HN1
  by_cases hjl:j<m.out.length
  ·obtain ⟨ob,oo,rfl,hcw⟩:=hvc j hjl
   have hcr:=cell_later (bel_after bw3 ts.below) hcw
   have BX:=B3.later ts.below
   have y2:=BX.cell 10 (.slice (some ⟨ob,oo,none⟩) m.out.length oc) rfl
   have h64:=ho2 (m.out.getD j 0) (by simp [hjl])
   have RS:=rowB_snoc m.out j hjl
   have R1:=rowB_len (l:=m.out.take j) (fun x hx=>ho2 x (List.mem_of_mem_take hx))
   have z1:=gitoa_size h64
   have GI:=fun W=>gint_any (m.out.getD j 0) W h64
   have gs:(⟨#[32]⟩ ++ gitoa (m.out.getD j 0):ByteArray).data.toList=32::Lib.itoa (m.out.getD j 0):=by simp [gitoa,ByteArray.data_append]
   have gz:(⟨#[32]⟩ ++ gitoa (m.out.getD j 0):ByteArray).size<=22:=by rw [ByteArray.size_append];show 1+_<=_;omega
   have RL:((m.out.take j).length)<=300:=by rw [List.length_take];omega
   replace RS:Hid (l0 ++ rowB (m.out.take (j+1))=(l0 ++ rowB (m.out.take j)) ++ (⟨#[32]⟩ ++ gitoa (m.out.getD j 0):ByteArray).data.toList):=(by rw [RS,gs,List.append_assoc]:l0 ++ rowB (m.out.take (j+1))=(l0 ++ rowB (m.out.take j)) ++ (⟨#[32]⟩ ++ gitoa (m.out.getD j 0):ByteArray).data.toList)
   have LN:(l0 ++ rowB (m.out.take j)).length<=10000:=by rw [List.length_append];omega
   clear gs hcw RL R1
   generalize m.out.getD j 0=x at *
   generalize l0 ++ rowB (m.out.take j)=l1 at *
   have g1' : ¬ 9223372036854775807<1+(gitoa x).size:=by omega
   have hji:(j:Int)<m.out.length:=by omega
   go_wp2_with fail
   refine (GI _).mono ?_
   rintro e w5 ⟨rfl,hb5⟩
   have ts5:=ts.call hb5
   go_wp2_with (at_builtin;refine app_tbs _ rfl _ _ rfl w3.heap.size g1 c1 n l1 rfl hn.out ts5.tb (⟨#[32]⟩ ++ gitoa x) rfl (by omega) ts5.below.size ?_;intro g6 c6 w6 t6 gr6 _)
   have SZ:Hid ((⟨#[32]⟩ ++ gitoa x:ByteArray).data.toList.length=1+(gitoa x).size):=(by rw [Array.length_toList];exact ByteArray.size_append:(⟨#[32]⟩ ++ gitoa x:ByteArray).data.toList.length=1+(gitoa x).size)
   exact ⟨⟨j+1,g6,c6,_,by omega,by go_num,rfl,(by rw [RS.out,List.length_append,← hn.out,SZ.out]:n+(1+(gitoa x).size)=(l0 ++ rowB (m.out.take (j+1))).length),by rw [RS.out];exact ts5.app gr6 t6⟩,by simp [intOf];omega⟩
  ·obtain rfl:j=m.out.length:=by omega
   rw [List.take_length] at hn ts
   have R1:=rowB_len ho2
   have LN:(l0 ++ rowB m.out).length<=10000:=by rw [List.length_append];omega
   have hnv:∀ i,i<g.nodes.length->∃ b o fa fc,na=some ⟨b,o,none⟩/\w3.cell? ⟨b,o+i * 3,none⟩=some (.int .i64 (g.nodes.getD i nd0).cls)/\w3.cell? ⟨b,o+i * 3+1,none⟩=some (.int .i64 (g.nodes.getD i nd0).hash)/\w3.cell? ⟨b,o+i * 3+2,none⟩=some (.slice fa (g.nodes.getD i nd0).fl.length fc)/\IR w3 (.slice fa (g.nodes.getD i nd0).fl.length fc) (g.nodes.getD i nd0).fl:=by
    obtain ⟨ao,cap,e,_,h⟩:=hn3
    simp only [Value.slice.injEq] at e
    obtain ⟨rfl,_,rfl⟩:=e
    intro i hi
    obtain ⟨b,o,fa,fn,fc,e,k0,k1,k2,ir⟩:=h i hi
    obtain ⟨fa',fc',e2,_⟩:=id ir
    simp only [Value.slice.injEq] at e2
    obtain ⟨rfl,rfl,rfl⟩:=e2
    exact ⟨b,o,_,_,e,k0,k1,k2,ir⟩
   have HE2:Hid (∀ l2,l2=(l0 ++ rowB m.out) ++ [10] ++ g.nodes.flatMap nodB->Ending.returned (.string ⟨l2.toArray⟩)=.returned (.string tv)):=HE.out
   clear hn3 HE R1 hvc ho2
   generalize l0 ++ rowB m.out=l1 at *
   have BX:=B3.later ts.below
   have y2:=BX.cell 10 (.slice oa m.out.length oc) rfl
   have al7:=bel_one wr (.cells #[.int .u8 10] 5)
   have ts7:=ts.call al7
   have hc7:∀ W:World,(W.alloc (.cells #[.int .u8 10] 5)).cell? ⟨W.heap.size,0,none⟩=some (.int .u8 (((10:UInt8).toNat:Nat):Int)):=fun W=>by simp
   go_wp2_with (at_builtin;refine app_tbb _ rfl _ _ rfl w3.heap.size g1 c1 n l1 rfl hn.out ts7.tb wr.heap.size 1 10 rfl (hc7 _) (by omega) ts7.below.size ?_;intro g6 c6 w6 t6 gr6 _)
   have ts6:=ts7.app gr6 t6
   have e6:n+1=(l1 ++ [10] ++ (g.nodes.take 0).flatMap nodB).length:=by
    have:=hn.out
    simp
    omega
   have HN6:Hid (n+1=(l1 ++ [10] ++ (g.nodes.take 0).flatMap nodB).length):=e6
   clear e6
   have ts60:TS w3 w6 g6 c6 (l1 ++ [10] ++ (g.nodes.take 0).flatMap nodB):=by simpa using ts6
   clear ts6 t6 gr6 ts7 al7 hc7 ts BX y2
   generalize hl2:l1 ++ [10]=l2 at *
   have L2:l2.length<=10001:=by rw [<- hl2];simp;omega
   clear hl2 hn LN
   have Q2:=fun j=>nods_len (l:=g.nodes.take j) (fun x hx=>nb x (List.mem_of_mem_take hx))
   go_loopw [4,6] (fun bv iv wr=>∃ (j g1 c1 n:Nat),j<=g.nodes.length/\iv=.int .i64 j/\bv=.slice (some ⟨g1,0,none⟩) n c1/\Hid (n=(l2 ++ (g.nodes.take j).flatMap nodB).length)/\TS w3 wr g1 c1 (l2 ++ (g.nodes.take j).flatMap nodB)) (fun _ iv _=>g.nodes.length - (intOf iv).toNat)
   case atStart=>exact ⟨0,_,_,_,Nat.zero_le _,rfl,rfl,HN6,ts60⟩
   case round =>
    obtain ⟨j,g7,c7,n7,hj,rfl,rfl,HN7,ts⟩:=hrel
    clear ts60 HN6
    have BX:=B3.later ts.below
    have DX:=D3.later ts.below
    have LL:(l2 ++ (g.nodes.take j).flatMap nodB).length<=5000000:=by
     have:=Q2 j
     rw [List.length_take] at this
     rw [List.length_append]
     omega
    by_cases hjl:j<g.nodes.length
    ·obtain ⟨b,o,fa,fc,rfl,k0,k1,k2,ir⟩:=hnv j hjl
     obtain ⟨N64,N60⟩:=nb (g.nodes.getD j nd0) (by simp [hjl])
     have k0':=cell_later ts.below k0
     have k1':=cell_later ts.below k1
     have k2':=cell_later ts.below k2
     have RS:Hid (l2 ++ (g.nodes.take (j+1)).flatMap nodB=(l2 ++ (g.nodes.take j).flatMap nodB) ++ nodB (g.nodes.getD j nd0)):=(by rw [nods_snoc _ j hjl,List.append_assoc]:l2 ++ (g.nodes.take (j+1)).flatMap nodB=(l2 ++ (g.nodes.take j).flatMap nodB) ++ nodB (g.nodes.getD j nd0))
     have y1:=DX.cell 1 _ rfl
     clear k0 k1 k2 hnv nb Q2 DX
     generalize g.nodes.getD j nd0=nd at *
     generalize l2 ++ (g.nodes.take j).flatMap nodB=l3 at *
     have hji:(j:Int)<g.nodes.length:=by omega
     have h0i:(0:Int)<=j:=by omega
     have aln:=bel_one wr (.cells #[.int .i64 nd.cls,.int .i64 nd.hash,.slice fa nd.fl.length fc] 73)
     have bn:Bk (wr.alloc (.cells #[.int .i64 nd.cls,.int .i64 nd.hash,.slice fa nd.fl.length fc] 73)) wr.heap.size #[.int .i64 nd.cls,.int .i64 nd.hash,.slice fa nd.fl.length fc] 73:=Bk.new wr _ _
     have tsn:=ts.call aln
     have nxg:wr.heap.size ≠ g7:=by have:=ts.tb.lt;omega
     go_wp2_with fail
     clear y1 k0' k1' k2' ts BX aln
     generalize hnx:wr.heap.size=nx at *
     generalize wr.alloc (.cells #[.int .i64 nd.cls,.int .i64 nd.hash,.slice fa nd.fl.length fc] 73)=wn at *
     have z1:=gitoa_size N64.1
     have z2:=gitoa_size N64.2.1
     have q5:¬ 9223372036854775807<(gitoa nd.cls).size+1:=by omega
     have q6:¬ 9223372036854775807<(gitoa nd.cls).size+1+(gitoa nd.hash).size:=by omega
     have q7:(gitoa nd.cls ++ ⟨#[32]⟩ ++ gitoa nd.hash:ByteArray).size=(gitoa nd.cls).size+1+(gitoa nd.hash).size:=by rw [ByteArray.size_append,ByteArray.size_append];rfl
     refine Disk.z_plain 99 (fun W'=>Bk W' nx #[.int .i64 nd.cls,.int .i64 nd.hash,.slice fa nd.fl.length fc] 73) (by kernel_rfl) bn.drew fun hz=>?_
     have tswd:TS w3 wn.drew g7 c7 l3:=tsn.call (Below.refl _ _).drew
     generalize wn.drew=wd at hz tswd ⊢
     refine Disk.zt 0 63 (v:=.slice (some ⟨g7,0,none⟩) n7 c7) rfl rfl hz (fun W' hSw=>(by
      have q0:=hSw.cell 0 (.int .i64 nd.cls) rfl
      have q1:=hSw.cell 1 (.int .i64 nd.hash) rfl
      clear hSw
      go_simp;first|done|with_reducible rfl)) ?_
     simp only [zA,zB,zC]
     refine Disk.zt 1 64 (v:=.pointer (some ⟨nx,0,none⟩)) rfl rfl hz (fun W' hSw=>(by
      have q0:=hSw.cell 0 (.int .i64 nd.cls) rfl
      have q1:=hSw.cell 1 (.int .i64 nd.hash) rfl
      clear hSw
      go_simp;first|done|with_reducible rfl)) ?_
     simp only [zA,zB,zC]
     refine Disk.zt 2 65 (v:=.int .i64 nd.cls) rfl rfl hz (fun W' hSw=>(by
      have q0:=hSw.cell 0 (.int .i64 nd.cls) rfl
      have q1:=hSw.cell 1 (.int .i64 nd.hash) rfl
      clear hSw
      go_simp;first|done|with_reducible rfl)) ?_
     simp only [zA,zB,zC]
     refine Disk.zt 5 68 (v:=.pointer (some ⟨nx,1,none⟩)) rfl rfl hz (fun W' hSw=>(by
      have q0:=hSw.cell 0 (.int .i64 nd.cls) rfl
      have q1:=hSw.cell 1 (.int .i64 nd.hash) rfl
      clear hSw
      go_simp;first|done|with_reducible rfl)) ?_
     simp only [zA,zB,zC]
     refine Disk.zt 6 69 (v:=.int .i64 nd.hash) rfl rfl hz (fun W' hSw=>(by
      have q0:=hSw.cell 0 (.int .i64 nd.cls) rfl
      have q1:=hSw.cell 1 (.int .i64 nd.hash) rfl
      clear hSw
      go_simp;first|done|with_reducible rfl)) ?_
     simp only [zA,zB,zC]
     refine Disk.z_call 3 66 rfl rfl (by kernel_rfl) (by rfl) (f:=81) (args:=#[.int .i64 nd.cls]) (w0:=wd) (by go_simp;first|done|with_reducible rfl) ?_
     refine (gint_any nd.cls wd N64.1).mono ?_
     rintro e wa ⟨rfl,hbz⟩
     have tswa:=tswd.call hbz
     replace hz:=hz.later hbz
     refine ⟨_,rfl,.inr hz,?_⟩
     clear hbz
     simp only [zA,zB,zC]
     refine Disk.zt 4 67 (v:=.string (gitoa nd.cls ++ ⟨#[32]⟩)) rfl rfl hz (fun W' hSw=>(by
      have q0:=hSw.cell 0 (.int .i64 nd.cls) rfl
      have q1:=hSw.cell 1 (.int .i64 nd.hash) rfl
      clear hSw
      go_simp;first|done|with_reducible rfl)) ?_
     simp only [zA,zB,zC]
     refine Disk.z_call 7 70 rfl rfl (by kernel_rfl) (by rfl) (f:=81) (args:=#[.int .i64 nd.hash]) (w0:=wa) (by go_simp;first|done|with_reducible rfl) ?_
     refine (gint_any nd.hash wa N64.2.1).mono ?_
     rintro e wb ⟨rfl,hbz⟩
     have tswb:=tswa.call hbz
     replace hz:=hz.later hbz
     refine ⟨_,rfl,.inr hz,?_⟩
     clear hbz
     simp only [zA,zB,zC]
     refine Disk.zt 8 71 (v:=.string (gitoa nd.cls ++ ⟨#[32]⟩ ++ gitoa nd.hash)) rfl rfl hz (fun W' hSw=>(by
      have q0:=hSw.cell 0 (.int .i64 nd.cls) rfl
      have q1:=hSw.cell 1 (.int .i64 nd.hash) rfl
      clear hSw
      go_simp;first|done|with_reducible rfl)) ?_
     simp only [zA,zB,zC]
     obtain ⟨g8,c8,w8,hrun,t8,gr8,hg8⟩:=tswb.tb.str tswb.below.size (gitoa nd.cls ++ ⟨#[32]⟩ ++ gitoa nd.hash) (by omega) 22
     have ts8:=tswb.app gr8 t8
     have hz8:Bk w8 nx #[.int .i64 nd.cls,.int .i64 nd.hash,.slice fa nd.fl.length fc] 73:=hz.off gr8 (fun e=>nxg (Option.some.inj e))
     have nxg8:nx ≠ g8:=by
      rcases hg8 with e|e
      ·rw [e];exact nxg
      ·have:=hz.lt;omega
     rw [<- HN7.out] at hrun
     refine Disk.z_run 9 72 (v:=.slice (some ⟨g8,0,none⟩) (n7+(gitoa nd.cls ++ ⟨#[32]⟩ ++ gitoa nd.hash:ByteArray).size) c8) rfl rfl (by kernel_rfl) (by rfl) (w':=w8) (exec_appTB 22 9 _ _ rfl _ _ rfl rfl hrun) (.inr hz8) ?_
     simp only [zA,zB,zC]
     refine Disk.zt 10 4 (v:=.slice (some ⟨g8,0,none⟩) (n7+(gitoa nd.cls ++ ⟨#[32]⟩ ++ gitoa nd.hash:ByteArray).size) c8) rfl rfl hz8 (fun W' hSw=>(by
      clear hSw
      go_simp;first|done|with_reducible rfl)) ?_
     simp only [zA,zB,zC]
     refine Disk.z_done (by kernel_rfl) ?_ _
     clear hrun gr8 t8 hg8 nxg hz tswb tswa tswd
     have HN8:Hid (n7+(gitoa nd.cls ++ ⟨#[32]⟩ ++ gitoa nd.hash:ByteArray).size=(l3 ++ (gitoa nd.cls ++ ⟨#[32]⟩ ++ gitoa nd.hash:ByteArray).data.toList ++ rowB (nd.fl.take 0)).length):=(by rw [HN7.out];simp [rowB];show (gitoa nd.cls).size+1+(gitoa nd.hash).size=_;omega:n7+(gitoa nd.cls ++ ⟨#[32]⟩ ++ gitoa nd.hash:ByteArray).size=(l3 ++ (gitoa nd.cls ++ ⟨#[32]⟩ ++ gitoa nd.hash:ByteArray).data.toList ++ rowB (nd.fl.take 0)).length)
     have ts80:TS w3 w8 g8 c8 (l3 ++ (gitoa nd.cls ++ ⟨#[32]⟩ ++ gitoa nd.hash:ByteArray).data.toList ++ rowB (nd.fl.take 0)):=by simpa [rowB] using ts8
     have ND:Hid (l3 ++ nodB nd=l3 ++ (gitoa nd.cls ++ ⟨#[32]⟩ ++ gitoa nd.hash:ByteArray).data.toList ++ rowB nd.fl ++ [10]):=(by simp [nodB,gitoa,ByteArray.data_append]:l3 ++ nodB nd=l3 ++ (gitoa nd.cls ++ ⟨#[32]⟩ ++ gitoa nd.hash:ByteArray).data.toList ++ rowB nd.fl ++ [10])
     have L4:(l3 ++ (gitoa nd.cls ++ ⟨#[32]⟩ ++ gitoa nd.hash:ByteArray).data.toList).length<=5000100:=by
      have e:(gitoa nd.cls ++ ⟨#[32]⟩ ++ gitoa nd.hash:ByteArray).data.toList.length=(gitoa nd.cls ++ ⟨#[32]⟩ ++ gitoa nd.hash:ByteArray).size:=by rw [Array.length_toList];rfl
      rw [List.length_append,e]
      omega
     obtain ⟨fa',fc',ef,_,hfv⟩:=ir
     simp only [Value.slice.injEq,true_and] at ef
     obtain ⟨rfl,rfl⟩:=ef
     clear ts8 HN7 LL tsn bn hnx z1 z2 q5 q6 q7
     generalize l3 ++ (gitoa nd.cls ++ ⟨#[32]⟩ ++ gitoa nd.hash:ByteArray).data.toList=l4 at *
     generalize n7+(gitoa nd.cls ++ ⟨#[32]⟩ ++ gitoa nd.hash:ByteArray).size=n8 at *
     go_wp2
     go_loopw [4,8] (fun bv kv wr=>∃ (k g1 c1 n:Nat),k<=nd.fl.length/\kv=.int .i64 k/\bv=.slice (some ⟨g1,0,none⟩) n c1/\Hid (n=(l4 ++ rowB (nd.fl.take k)).length)/\TS w3 wr g1 c1 (l4 ++ rowB (nd.fl.take k))/\Bk wr nx #[.int .i64 nd.cls,.int .i64 nd.hash,.slice fa nd.fl.length fc] 73/\nx ≠ g1) (fun _ kv _=>nd.fl.length - (intOf kv).toNat)
     case atStart=>exact ⟨0,_,_,_,Nat.zero_le _,rfl,rfl,HN8,ts80,hz8,nxg8⟩
     case round =>
      obtain ⟨k,g1,c1,n,hk,rfl,rfl,hn,ts,bx,nxg⟩:=hrel
      clear ts80 HN8 hz8 nxg8
      have R1:=rowB_len (l:=nd.fl.take k) (fun x hx=>N64.2.2 x (List.mem_of_mem_take hx))
      have RL:(nd.fl.take k).length<=60:=by rw [List.length_take];omega
      have LN:(l4 ++ rowB (nd.fl.take k)).length<=5002000:=by rw [List.length_append];omega
      have q2:=bx.cell 2 _ rfl
      by_cases hkl:k<nd.fl.length
      ·obtain ⟨fb,fo,rfl,hcw⟩:=hfv k hkl
       have hcr:=cell_later ts.below hcw
       have h64:=N64.2.2 (nd.fl.getD k 0) (by simp [hkl])
       have RS2:=rowB_snoc nd.fl k hkl
       have z1:=gitoa_size h64
       have GI:=fun W=>gint_any (nd.fl.getD k 0) W h64
       have gs:(⟨#[32]⟩ ++ gitoa (nd.fl.getD k 0):ByteArray).data.toList=32::Lib.itoa (nd.fl.getD k 0):=by simp [gitoa,ByteArray.data_append]
       have gz:(⟨#[32]⟩ ++ gitoa (nd.fl.getD k 0):ByteArray).size<=22:=by rw [ByteArray.size_append];show 1+_<=_;omega
       replace RS2:Hid (l4 ++ rowB (nd.fl.take (k+1))=(l4 ++ rowB (nd.fl.take k)) ++ (⟨#[32]⟩ ++ gitoa (nd.fl.getD k 0):ByteArray).data.toList):=(by rw [RS2,gs,List.append_assoc]:l4 ++ rowB (nd.fl.take (k+1))=(l4 ++ rowB (nd.fl.take k)) ++ (⟨#[32]⟩ ++ gitoa (nd.fl.getD k 0):ByteArray).data.toList)
       clear gs hcw RL R1 hfv
       generalize nd.fl.getD k 0=x at *
       generalize l4 ++ rowB (nd.fl.take k)=l5 at *
       have g1' : ¬ 9223372036854775807<1+(gitoa x).size:=by omega
       have hki:(k:Int)<nd.fl.length:=by omega
       go_wp2_with fail
       refine (GI _).mono ?_
       rintro e w5 ⟨rfl,hb5⟩
       have ts5:=ts.call hb5
       have bx5:=bx.later hb5
       go_wp2_with (at_builtin;refine app_tbs _ rfl _ _ rfl w3.heap.size g1 c1 n l5 rfl hn.out ts5.tb (⟨#[32]⟩ ++ gitoa x) rfl (by omega) ts5.below.size ?_;intro g6 c6 w6 t6 gr6 hg6)
       have SZ:Hid ((⟨#[32]⟩ ++ gitoa x:ByteArray).data.toList.length=1+(gitoa x).size):=(by rw [Array.length_toList];exact ByteArray.size_append:(⟨#[32]⟩ ++ gitoa x:ByteArray).data.toList.length=1+(gitoa x).size)
       exact ⟨⟨k+1,g6,c6,_,by omega,by go_num,rfl,(by rw [RS2.out,List.length_append,← hn.out,SZ.out]:n+(1+(gitoa x).size)=(l4 ++ rowB (nd.fl.take (k+1))).length),by rw [RS2.out];exact ts5.app gr6 t6,bx5.off gr6 (fun e=>nxg (Option.some.inj e)),(by
        have:=bx5.lt
        rcases hg6 with e|e <;> omega)⟩,by simp [intOf];omega⟩
      ·obtain rfl:k=nd.fl.length:=by omega
       rw [List.take_length] at hn ts LN
       clear hfv RL R1
       replace RS:Hid (l2 ++ (g.nodes.take (j+1)).flatMap nodB=l4 ++ rowB nd.fl ++ [10]):=(RS.out.trans ND.out:l2 ++ (g.nodes.take (j+1)).flatMap nodB=l4 ++ rowB nd.fl ++ [10])
       clear ND
       generalize l4 ++ rowB nd.fl=l5 at *
       have al7:=bel_one wr (.cells #[.int .u8 10] 5)
       have ts7:=ts.call al7
       have hc7:∀ W:World,(W.alloc (.cells #[.int .u8 10] 5)).cell? ⟨W.heap.size,0,none⟩=some (.int .u8 (((10:UInt8).toNat:Nat):Int)):=fun W=>by simp
       go_wp2_with (at_builtin;refine app_tbb _ rfl _ _ rfl w3.heap.size g1 c1 n l5 rfl hn.out ts7.tb wr.heap.size 1 10 rfl (hc7 _) (by omega) ts7.below.size ?_;intro g6 c6 w6 t6 gr6 _)
       exact ⟨⟨j+1,g6,c6,_,by omega,by go_num,rfl,(by rw [RS.out,List.length_append,← hn.out];rfl:n+1=(l2 ++ (g.nodes.take (j+1)).flatMap nodB).length),by rw [RS.out];exact ts7.app gr6 t6⟩,by simp [intOf];omega⟩
    ·obtain rfl:j=g.nodes.length:=by omega
     rw [List.take_length] at HN7 ts
     have CV:=ts.tb.text
     rw [<- HN7.out] at CV
     have HE3:=HE2.out _ rfl
     have BB:=bel_after bw3 ts.below
     generalize l2 ++ g.nodes.flatMap nodB=l3 at *
     have y1:=DX.cell 1 _ rfl
     clear HE2 Q2 hnv nb LL HN7
     replace HE3:Hid (Ending.returned (.string ⟨l3.toArray⟩)=.returned (.string tv)):=HE3
     go_wp2
     go_ret
     exact ⟨HE3.out,BB⟩
end Go.Proofs.YtgnbibinclepcaaGreatDoor
/- imageText of the program: the text of a machine, its rows joined. -/
namespace Go.Proofs.YtgnbibinclepcaaGreatDoor
open Go.RowKit
set_option maxRecDepth 100000 in
set_option maxHeartbeats 3200000 in
theorem implText_any (tv:ByteArray) (v1 v2 v3 vp vo:Value) (m:Mp) (w:World) (i1:IR w v1 m.h.words) (i2:IR w v2 m.h.roots) (i3:IR w v3 m.h.kept) (io:IR w vo m.out) (k:okC m.h=true) (s2:m.h.roots.length<=1000000000) (s3:m.h.kept.length<=1000000000) (hpc:g64 m.pc) (hst:g64 m.st) (hol:m.out.length<=300) (ho2:∀ x,x ∈ m.out->g64 x) (ht:GTb w) (htv:tv=⟨(imgS m.pc m.st m.h.hash m.out (shP m.h).nodes).toArray⟩) :
  Calls Tryz.prog 36 #[.agg #[v1,v2,.int .i64 m.h.old,.int .i64 m.h.eden,.int .i64 m.h.surv,.bool m.h.flip,.int .i64 m.h.hash,v3,vp,.int .i64 m.pc,vo,.int .i64 m.st]] w fun e w'=>e=.returned (.string tv)/\Below w.heap.size w w':=by
 have r:=c_right k
 obtain ⟨oa,oc,rfl,_⟩:=id io
 have hb0:=bel_one w (.cells #[v1,v2,.int .i64 m.h.old,.int .i64 m.h.eden,.int .i64 m.h.surv,.bool m.h.flip,.int .i64 m.h.hash,v3,vp,.int .i64 m.pc,.slice oa m.out.length oc,.int .i64 m.st] 29)
 have B0:Bk (w.alloc (.cells #[v1,v2,.int .i64 m.h.old,.int .i64 m.h.eden,.int .i64 m.h.surv,.bool m.h.flip,.int .i64 m.h.hash,v3,vp,.int .i64 m.pc,.slice oa m.out.length oc,.int .i64 m.st] 29)) w.heap.size #[v1,v2,.int .i64 m.h.old,.int .i64 m.h.eden,.int .i64 m.h.surv,.bool m.h.flip,.int .i64 m.h.hash,v3,vp,.int .i64 m.pc,.slice oa m.out.length oc,.int .i64 m.st] 29:=Bk.new w _ _
 have SH:=implShape_c (.agg #[v1,v2,.int .i64 m.h.old,.int .i64 m.h.eden,.int .i64 m.h.surv,.bool m.h.flip,.int .i64 m.h.hash,v3]) m.h _ ⟨v1,v2,v3,rfl,i1.later hb0,i2.later hb0,i3.later hb0⟩ (by omega) (by omega)
 rw [show shC m.h=shP m.h by unfold shC;rw [if_pos k]] at SH
 have hvh:g64 (shP m.h).hash:=by have:=r.2.2.1;show g64 m.h.hash;unfold g64;omega
 have hvl:g64 (m.out.length:Int):=by unfold g64;omega
 obtain ⟨nn,nb⟩:=shape_nodes r
 have h3:∀ x,x ∈ [m.pc,m.st,(shP m.h).hash]->g64 x:=by
  intro x hx
  simp only [List.mem_cons,List.not_mem_nil,or_false] at hx
  rcases hx with rfl|rfl|rfl
  ·exact hpc
  ·exact hst
  ·exact hvh
 have h4:∀ x,x ∈ [(m.out.length:Int)] ++ m.out->g64 x:=by
  intro x hx
  rcases List.mem_append.1 hx with hx|hx
  ·rw [List.mem_singleton.1 hx];exact hvl
  ·exact ho2 x hx
 have HE:Hid (∀ t:ByteArray,t.data.toList=imgI m.pc m.st (shP m.h).hash m.out (shP m.h).nodes->Ending.returned (.string t)=.returned (.string tv)):=(fun t h=>by
  rw [imgI_S] at h
  have e:t=⟨(imgS m.pc m.st m.h.hash m.out (shP m.h).nodes).toArray⟩:=by
   cases t with
   | mk d=>simp only at h;congr 1;apply Array.ext';rw [h];rfl
  rw [e,htv]:∀ t:ByteArray,t.data.toList=imgI m.pc m.st (shP m.h).hash m.out (shP m.h).nodes->Ending.returned (.string t)=.returned (.string tv))
 clear r i1 i2 i3 hvh hvl k s2 s3 hpc hst ho2 htv
 have x0:=B0.cell 0 (v1) rfl
 have x1:=B0.cell 1 (v2) rfl
 have x2:=B0.cell 2 (.int .i64 m.h.old) rfl
 have x3:=B0.cell 3 (.int .i64 m.h.eden) rfl
 have x4:=B0.cell 4 (.int .i64 m.h.surv) rfl
 have x5:=B0.cell 5 (.bool m.h.flip) rfl
 have x6:=B0.cell 6 (.int .i64 m.h.hash) rfl
 have x7:=B0.cell 7 (v3) rfl
 go_enter Tryz.func36,Tryz.ntmps36
 go_wp2_with fail
 refine SH.mono ?_
 clear SH x0 x1 x2 x3 x4 x5 x6 x7
 rintro e w1 ⟨⟨v',rfl,gr⟩,hb1⟩
 obtain ⟨ra,rc,na,nc,rfl,-,hn⟩:=gr.grn.gr.out
 clear gr
 have bw1:=bel_after hb0 hb1
 have B1:=B0.later hb1
 clear B0 hb0 hb1
 generalize shP m.h=g at *
 have al:=bel_one w1 (.cells #[.slice ra g.roots.length rc,.slice na g.nodes.length nc,.int .i64 g.hash] 41)
 have D2:Bk (w1.alloc (.cells #[.slice ra g.roots.length rc,.slice na g.nodes.length nc,.int .i64 g.hash] 41)) w1.heap.size #[.slice ra g.roots.length rc,.slice na g.nodes.length nc,.int .i64 g.hash] 41:=Bk.new w1 _ _
 have B2:=B1.later al
 have bw2:=bel_after bw1 al
 have hn2:=hn.later al
 have io2:=io.later bw2
 have ht2:=ht.later bw2
 clear B1 hn bw1 io ht
 go_wp2_with fail
 generalize w1.heap.size=gb at *
 generalize w1.alloc (.cells #[.slice ra g.roots.length rc,.slice na g.nodes.length nc,.int .i64 g.hash] 41)=w2 at *
 have CX:∀ W,Below w2.heap.size w2 W->W.cell? ⟨w.heap.size,9,none⟩=some (.int .i64 m.pc)/\W.cell? ⟨w.heap.size,11,none⟩=some (.int .i64 m.st)/\W.cell? ⟨w.heap.size,10,none⟩=some (.slice oa m.out.length oc)/\W.cell? ⟨gb,2,none⟩=some (.int .i64 g.hash):=fun W hb=>⟨(B2.later hb).cell 9 _ rfl,(B2.later hb).cell 11 _ rfl,(B2.later hb).cell 10 _ rfl,(D2.later hb).cell 2 _ rfl⟩
 refine regT2 (g:=g) (m:=m) CX io2 ht2 hol h3 h4 _ _ _ _ _ _ _ _ _ _ _ _ _ _ _ _ _ _ _ _ _ _ _ _ _ _ _ _ _ _ _ _ _ _ _ _ _ _ _ _ _ _ ?_
 intro w5 lb a10 a11 a12 a13 a14 a15 a16 a17 a18 a19 a20 a21 a22 a23 a24 a25 a26 a27 hb5 FL
 obtain ⟨t1,ht1⟩:∃ t,t=textB [m.pc,m.st,g.hash]:=⟨_,rfl⟩
 obtain ⟨t2,ht2'⟩:∃ t,t=textB ([(m.out.length:Int)] ++ m.out):=⟨_,rfl⟩
 rw [<- ht1,← ht2'] at FL
 have HE2:Hid (∀ t:ByteArray,t.data.toList=Lib.join ((t1::t2::g.nodes.map ndTx).map (·.data.toList)) [10] ++ [10]->Ending.returned (.string t)=.returned (.string tv)):=(by
  rw [ht1,ht2']
  exact HE.out:∀ t:ByteArray,t.data.toList=Lib.join ((t1::t2::g.nodes.map ndTx).map (·.data.toList)) [10] ++ [10]->Ending.returned (.string t)=.returned (.string tv))
 have HJ:Hid ((Lib.join ((t1::t2::g.nodes.map ndTx).map (·.data.toList)) [10]).length<=5000000):=(by
  have q:(imgI m.pc m.st g.hash m.out g.nodes).length<=5000000:=by
   rw [imgI_S]
   exact imgS_len (h3 _ (by simp)) (h3 _ (by simp)) (h3 _ (by simp)) hol (fun x hx=>h4 x (List.mem_append_right _ hx)) nn nb
  rw [ht1,ht2']
  unfold imgI at q
  rw [List.length_append] at q
  have q2:∀ n:Nat,n + [(10:UInt8)].length<=5000000->n<=5000000:=fun n h=>by simp at h;omega
  exact q2 _ q:(Lib.join ((t1::t2::g.nodes.map ndTx).map (·.data.toList)) [10]).length<=5000000)
 have D5:=D2.later hb5
 clear ht1 ht2' HE h3 h4 B2 CX io2 al
 have y1:=D5.cell 1 _ rfl
 go_wp2
 go_loopw [4,31] (fun lv iv wr=>∃ (j g1 c1:Nat),j<=g.nodes.length/\iv=.int .i64 j/\lv=.slice (some ⟨g1,0,none⟩) (2+j) c1/\wr.ownsRow w2.heap.size 9 1 (.slice (some ⟨g1,0,none⟩) (2+j) c1) (2+j) ([.string t1,.string t2] ++ (g.nodes.take j).map fun x=>.string (ndTx x))/\Below w2.heap.size w5 wr) (fun _ iv _=>g.nodes.length - (intOf iv).toNat)
 case atStart=>exact ⟨0,lb,2,Nat.zero_le _,rfl,rfl,FL,Below.refl _ _⟩
 case round =>
  obtain ⟨j,g1,c1,hj,rfl,rfl,ho,hb⟩:=hrel
  clear FL
  have bw:=hb5.trans hb
  have D6:=D2.later bw
  have y1:=D6.cell 1 _ rfl
  have hn6:=hn2.later bw
  have ht6:=ht2.later bw
  by_cases hjl:j<g.nodes.length
  ·obtain ⟨ao,cp,e,_,hnv⟩:=hn6
   simp only [Value.slice.injEq] at e
   obtain ⟨rfl,_,rfl⟩:=e
   obtain ⟨b,o,fa,fn,fc,rfl,k0,k1,k2,ir⟩:=hnv j hjl
   obtain ⟨fa',fc',e2,_⟩:=id ir
   simp only [Value.slice.injEq] at e2
   obtain ⟨rfl,rfl,rfl⟩:=e2
   obtain ⟨N64,N60⟩:=nb (g.nodes.getD j nd0) (by simp [hjl])
   have TS:Hid ([Value.string t1,Value.string t2] ++ (g.nodes.take (j+1)).map (fun x=>Value.string (ndTx x))=([Value.string t1,Value.string t2] ++ (g.nodes.take j).map fun x=>Value.string (ndTx x)) ++ [.string (ndTx (g.nodes.getD j nd0))]):=(by
    rw [List.take_succ_eq_append_getElem hjl,List.map_append,List.append_assoc]
    congr 2
    simp [List.getD_eq_getElem?_getD,hjl]:[Value.string t1,Value.string t2] ++ (g.nodes.take (j+1)).map (fun x=>Value.string (ndTx x))=([Value.string t1,Value.string t2] ++ (g.nodes.take j).map fun x=>Value.string (ndTx x)) ++ [.string (ndTx (g.nodes.getD j nd0))])
   clear hnv nb
   generalize ([Value.string t1,Value.string t2] ++ (g.nodes.take j).map fun x=>Value.string (ndTx x))=xs at *
   generalize g.nodes.getD j nd0=nd at *
   have hji:(j:Int)<g.nodes.length:=by omega
   have h0i:(0:Int)<=j:=by omega
   have aln:=bel_one wr (.cells #[.int .i64 nd.cls,.int .i64 nd.hash,.slice fa nd.fl.length fc] 73)
   have bn:Bk (wr.alloc (.cells #[.int .i64 nd.cls,.int .i64 nd.hash,.slice fa nd.fl.length fc] 73)) wr.heap.size #[.int .i64 nd.cls,.int .i64 nd.hash,.slice fa nd.fl.length fc] 73:=Bk.new wr _ _
   have NT:=nodeText_any nd _ _ (ir.later aln) (by omega) N64 (ht6.later aln)
   generalize hz:ndTx nd=z at *
   have q0:=bn.cell 0 _ rfl
   have q1:=bn.cell 1 _ rfl
   have q2:=bn.cell 2 _ rfl
   have hoA:=own_later ho aln
   go_wp2_with fail
   refine NT.mono ?_
   clear q0 q1 q2 k0 k1 k2
   rintro e w7 ⟨rfl,hb7⟩
   have b7:=bel_after aln hb7
   have ho7:=own_later hoA hb7
   have al:=bel_one w7 (.cells #[.string z] 9)
   have ho8:=own_later ho7 al
   have hc:∀ W:World,(W.alloc (.cells #[.string z] 9)).cell? ⟨W.heap.size,0,none⟩=some (.string z):=fun W=>by simp
   have hbw:=bel_after b7 al
   have sz:w2.heap.size<=wr.heap.size:=bw.size
   have hb8:Below w2.heap.size w5 (w7.alloc (.cells #[.string z] 9)):=hb.trans (hbw.mono sz)
   have sz8:w2.heap.size<=(w7.alloc (.cells #[.string z] 9)).heap.size:=Nat.le_trans sz hbw.size
   go_wp2_with (at_builtin;refine app_str _ rfl _ _ rfl w2.heap.size _ c1 (2+j) _ rfl ho8 _ 1 z rfl (hc _) (by omega) sz8 ?_;intro g4 cap4 w4 o4 gr4)
   exact ⟨⟨j+1,g4,cap4,by omega,by go_num,rfl,by rw [TS.out];exact o4,Below.grown hb8 gr4 sz8 (fun k e=>by cases e;exact (ho.lt _ rfl).1)⟩,by simp [intOf];omega⟩
  ·obtain rfl:j=g.nodes.length:=by omega
   rw [List.take_length] at ho
   have hg:=(ho.lt g1 rfl).2
   have ho' : wr.ownsRow w2.heap.size 9 1 (.slice (some ⟨g1,0,none⟩) (2+g.nodes.length) c1) (2+g.nodes.length) ((t1::t2::g.nodes.map ndTx).map .string):=by
    have e:(t1::t2::g.nodes.map ndTx).map Value.string=[Value.string t1,Value.string t2] ++ g.nodes.map fun x=>Value.string (ndTx x):=by simp
    rw [e]
    exact ho
   have LL:(t1::t2::g.nodes.map ndTx).length=2+g.nodes.length:=by simp;omega
   have hcap:(t1::t2::g.nodes.map ndTx).length<=c1:=by
    obtain ⟨_,_,e,hle,_⟩:=own_cell ho'
    simp only [Value.slice.injEq] at e
    omega
   have JN:=Any.strings_Join Tryz.lays156 Tryz.Builder_Extra_156 g1 0 c1 (t1::t2::g.nodes.map ndTx) ⟨#[10]⟩ wr (fun i x hx=>by
    obtain ⟨ao,c,e,_,hcell⟩:=own_cell ho'
    have hi:i<(t1::t2::g.nodes.map ndTx).length:=(List.getElem?_eq_some_iff.1 hx).1
    obtain ⟨b,e2,hci⟩:=hcell i (by omega)
    simp only [Value.slice.injEq] at e
    rw [<- e.1] at e2
    cases e2
    rw [Nat.zero_add,hci,List.getElem?_map,hx]
    rfl) hg (by omega) hcap (by
     have:=HJ.out
     show (Lib.join ((t1::t2::g.nodes.map ndTx).map (fun b=>b.data.toList)) [10]).length<=_
     omega)
   rw [LL] at JN
   obtain ⟨jt,hjt⟩:∃ jt:ByteArray,jt=⟨(Lib.join ((t1::t2::g.nodes.map ndTx).map (fun b=>b.data.toList)) (⟨#[10]⟩:ByteArray).data.toList).toArray⟩:=⟨_,rfl⟩
   have hjd:jt.data.toList=Lib.join ((t1::t2::g.nodes.map ndTx).map (·.data.toList)) [10]:=by rw [hjt]
   have JS:jt.size<=5000000:=by
    have:=HJ.out
    rw [<- hjd,Array.length_toList] at this
    exact this
   have JE:Hid (∀ e:Ending,e=.returned (.string ⟨(Lib.join ((t1::t2::g.nodes.map ndTx).map (fun b=>b.data.toList)) (⟨#[10]⟩:ByteArray).data.toList).toArray⟩)->e=.returned (.string jt)):=fun e he=>by rw [he,hjt]
   have h3e:Ending.returned (.string (jt ++ ⟨#[10]⟩))=.returned (.string tv):=HE2.out (jt ++ ⟨#[10]⟩) (by rw [ByteArray.data_append,Array.toList_append,hjd])
   have HE3:Hid (Ending.returned (.string (jt ++ ⟨#[10]⟩))=.returned (.string tv)):=h3e
   clear h3e
   have ns:¬ 9223372036854775807<jt.size+1:=by omega
   clear ho ho' hjt hjd HE2 HJ hn2 hn6 hcap y1 D5 D6 nb
   go_wp2_with fail
   refine JN.mono ?_
   rintro e w8 ⟨he,hb8⟩
   have he2:=JE.out e he
   clear he JE
   subst he2
   have bwv:=bel_after (bel_after bw2 bw) hb8
   go_wp2
   go_ret
   exact ⟨HE3.out,bwv⟩
end Go.Proofs.YtgnbibinclepcaaGreatDoor
/- The law of VmOk. -/
namespace Go.Proofs.YtgnbibinclepcaaGreatDoor
open Go.RowKit
theorem specVmOk_c (v:Value) (m:Mp) (w:World) (hv:VR w v m) (hs:smM m 1000000000) :
  Calls Tryz.prog 37 #[v] w fun e w'=>e=.returned (.bool (okM m.h m.prog m.pc m.out m.st && partsB m.h))/\Below w.heap.size w w':=by
 obtain ⟨v1,v2,v3,vp,vo,rfl,i1,i2,i3,ip,io⟩:=hv
 obtain ⟨s1,s2,s3,s4,s5⟩:=hs
 exact specVmOk_any v1 v2 v3 vp vo m.h m.prog m.pc m.out m.st w i1 i2 i3 ip io s2 s3 s4 s5
end Go.Proofs.YtgnbibinclepcaaGreatDoor
/- markVm and heldVm of the laws. -/
namespace Go.Proofs.YtgnbibinclepcaaGreatDoor
open Go.RowKit
structure Only (w w' : World) (R:Nat->Prop):Prop where
 os:w'.os=w.os
 tape:w'.tape=w.tape
 output:w'.output=w.output
 size:w.heap.size<=w'.heap.size
 block:∀ k,k<w.heap.size->¬ R k->w'.heap[k]?=w.heap[k]?
theorem Only.of_below {w w' : World} {R:Nat->Prop} (h:Below w.heap.size w w'):Only w w' R:=⟨h.os,h.tape,h.output,h.size,fun k hk _=>h.block k hk⟩
theorem Only.of_grown {w w' : World} {R:Nat->Prop} {r:Option Nat} (h:w.grownBy w' r) (hr:∀ k,r=some k->R k):Only w w' R:=⟨h.os,h.tape,h.output,h.size,fun k hk n=>h.block k hk (fun e=>n (hr k e.symm))⟩
theorem Only.of_thr {w w' : World} {R:Nat->Prop} {r1 r2 r3:Option Nat} (h:Thr w w' r1 r2 r3) (h1:∀ k,r1=some k->R k) (h2:∀ k,r2=some k->R k) (h3:∀ k,r3=some k->R k):Only w w' R :=
 ⟨h.os,h.tape,h.output,h.size,fun k hk n=>h.block k hk (fun e=>n (h1 k e.symm)) (fun e=>n (h2 k e.symm)) (fun e=>n (h3 k e.symm))⟩
theorem Only.trans {a b c:World} {R:Nat->Prop} (h:Only a b R) (k:Only b c R):Only a c R :=
 ⟨k.os.trans h.os,k.tape.trans h.tape,k.output.trans h.output,Nat.le_trans h.size k.size,fun i hi n=>(k.block i (Nat.lt_of_lt_of_le hi h.size) n).trans (h.block i hi n)⟩
theorem Only.below {w w' : World} {R:Nat->Prop} {B:Nat} (h:Only w w' R) (hB:B<=w.heap.size) (hr:∀ k,R k->B<=k):Below B w w' :=
 ⟨h.os,h.tape,h.output,h.size,fun k hk=>h.block k (by omega) (fun e=>by have:=hr k e;omega)⟩
def VRow (v:Value) (m:Mp) (b:Nat):Prop:=∃ v1 v2 v3 vp vo,v=.agg #[v1,v2,.int .i64 m.h.old,.int .i64 m.h.eden,.int .i64 m.h.surv,.bool m.h.flip,.int .i64 m.h.hash,v3,vp,.int .i64 m.pc,vo,.int .i64 m.st]/\(Disk.rowOf v1 m.h.words.length=some b ∨ Disk.rowOf v2 m.h.roots.length=some b ∨ Disk.rowOf v3 m.h.kept.length=some b ∨ Disk.rowOf vp m.prog.length=some b ∨ Disk.rowOf vo m.out.length=some b)
theorem VN.row {B b:Nat} {w:World} {v:Value} {m:Mp} (k:VN B w v m) (h:VRow v m b):B<=b/\b<w.heap.size:=by
 obtain ⟨v1,v2,v3,vp,vo,rfl,hh,⟨_,op⟩,⟨_,oo⟩,r1,r2⟩:=k.ex
 obtain ⟨u1,u2,u3,up,uo,e,h⟩:=h
 injection e with e
 simp only [Array.mk.injEq,List.cons.injEq,and_true,true_and] at e
 obtain ⟨rfl,rfl,rfl,rfl,rfl⟩:=e
 obtain ⟨⟨o1,o2,o3⟩,_,⟨b1,b2,b3⟩,_⟩:=hh.irs
 rcases h with h|h|h|h|h
 ·exact ⟨b1 b h,o1.row b h⟩
 ·exact ⟨b2 b h,o2.row b h⟩
 ·exact ⟨b3 b h,o3.row b h⟩
 ·exact ⟨(r1 b h).1,op.row b h⟩
 ·exact ⟨(r2 b h).1,oo.row b h⟩
def MK (w:World) (v:Value) (m:Mp):Prop:=∃ v1 v2 v3 vp vo,v=.agg #[v1,v2,.int .i64 m.h.old,.int .i64 m.h.eden,.int .i64 m.h.surv,.bool m.h.flip,.int .i64 m.h.hash,v3,vp,.int .i64 m.pc,vo,.int .i64 m.st]/\IR w v1 (imarks 1 m.h.words.length)/\IR w v2 (imarks (1+(m.h.words.length:Int)) m.h.roots.length)/\IR w v3 (imarks (1+(m.h.words.length:Int)+m.h.roots.length) m.h.kept.length)/\CR w vp (cmarks (1+(m.h.words.length:Int)+m.h.roots.length+m.h.kept.length) m.prog.length)/\IR w vo (imarks (1+(m.h.words.length:Int)+m.h.roots.length+m.h.kept.length+2 * m.prog.length) m.out.length)
def kTot (m:Mp):Int:=(1+(m.h.words.length:Int)+m.h.roots.length+m.h.kept.length+2 * m.prog.length+m.out.length)
theorem OS.keepT {w w' : World} {t s n:Nat} {v:Value} {r1 r2 r3:Option Nat} (h:Disk.OS w t s v n) (T:Thr w w' r1 r2 r3) (hr:∀ b,Disk.rowOf v n=some b->some b ≠ r1/\some b ≠ r2/\some b ≠ r3):Disk.OS w' t s v n:=by
 obtain ⟨ao,cap,rfl,h⟩:=h
 refine ⟨ao,cap,rfl,?_⟩
 by_cases h0:n=0
 ·exact .inl h0
 ·obtain ⟨b,N,f,rfl,hN,hrow⟩:=h.resolve_left h0
  have q:=hr b (by unfold Disk.rowOf;rw [if_neg h0];rfl)
  exact .inr ⟨b,N,f,rfl,hN,hrow.of_block (T.block b hrow.lt q.1 q.2.1 q.2.2)⟩
theorem apartC {w:World} {t s n mm:Nat} {v u:Value} (d:∀ b,Disk.rowOf v n=some b->Disk.rowOf u mm ≠ some b) (hv:Disk.OS w t s v n):n=0 ∨ v.ownBlock ≠ Disk.rowOf u mm:=apart' d hv
theorem inil {k:Int} {n mm:Nat} {v u:Value} (h:n=0 ∨ v.ownBlock ≠ Disk.rowOf u mm):imarks k n=[] ∨ v.ownBlock ≠ Disk.rowOf u mm:=marks_nil h
theorem cnil {k:Int} {n mm:Nat} {v u:Value} (h:n=0 ∨ v.ownBlock ≠ Disk.rowOf u mm):cmarks k n=[] ∨ v.ownBlock ≠ Disk.rowOf u mm:=h.elim (fun e=>.inl (by rw [e];rfl)) .inr
set_option maxRecDepth 100000 in
set_option maxHeartbeats 1600000 in
theorem markVm_any (B:Nat) (v:Value) (m:Mp) (w:World) (k:VN B w v m) (hs:smM m 1000000000) :
  Calls Tryz.prog 23 #[v,.int .i64 1] w fun e w'=>e=.returned (.int .i64 (kTot m))/\Only w w' (VRow v m)/\MK w' v m:=by
 have kr:=fun b h=>k.row (b:=b) h
 obtain ⟨v1,v2,v3,vp,vo,rfl,hh,⟨rp,op⟩,⟨ro,oo⟩,d1,d2⟩:=k.ex
 obtain ⟨⟨o1,o2,o3⟩,⟨i1,i2,i3⟩,_,d12,d13,d23⟩:=hh.irs
 obtain ⟨s1,s2,s3,s4,s5⟩:=hs
 have hb0:=bel_one w (.cells #[v1,v2,.int .i64 m.h.old,.int .i64 m.h.eden,.int .i64 m.h.surv,.bool m.h.flip,.int .i64 m.h.hash,v3,vp,.int .i64 m.pc,vo,.int .i64 m.st] 29)
 have B0:Bk (w.alloc (.cells #[v1,v2,.int .i64 m.h.old,.int .i64 m.h.eden,.int .i64 m.h.surv,.bool m.h.flip,.int .i64 m.h.hash,v3,vp,.int .i64 m.pc,vo,.int .i64 m.st] 29)) w.heap.size #[v1,v2,.int .i64 m.h.old,.int .i64 m.h.eden,.int .i64 m.h.surv,.bool m.h.flip,.int .i64 m.h.hash,v3,vp,.int .i64 m.pc,vo,.int .i64 m.st] 29:=Bk.new w _ _
 have x0:=B0.cell 0 (v1) rfl
 have x1:=B0.cell 1 (v2) rfl
 have x2:=B0.cell 2 (.int .i64 m.h.old) rfl
 have x3:=B0.cell 3 (.int .i64 m.h.eden) rfl
 have x4:=B0.cell 4 (.int .i64 m.h.surv) rfl
 have x5:=B0.cell 5 (.bool m.h.flip) rfl
 have x6:=B0.cell 6 (.int .i64 m.h.hash) rfl
 have x7:=B0.cell 7 (v3) rfl
 have x8:=B0.cell 8 (vp) rfl
 have x9:=B0.cell 9 (.int .i64 m.pc) rfl
 have Bg:=B0.cell 10 (vo) rfl
 have Bh:=B0.cell 11 (.int .i64 m.st) rfl
 have nb:∀ b,VRow (.agg #[v1,v2,.int .i64 m.h.old,.int .i64 m.h.eden,.int .i64 m.h.surv,.bool m.h.flip,.int .i64 m.h.hash,v3,vp,.int .i64 m.pc,vo,.int .i64 m.st]) m b->b ≠ w.heap.size:=fun b h e=>by have:=(kr b h).2;omega
 have n1:some w.heap.size ≠ Disk.rowOf v1 m.h.words.length:=fun e=>nb _ ⟨_,_,_,_,_,rfl,.inl e.symm⟩ rfl
 have n2:some w.heap.size ≠ Disk.rowOf v2 m.h.roots.length:=fun e=>nb _ ⟨_,_,_,_,_,rfl,.inr (.inl e.symm)⟩ rfl
 have n3:some w.heap.size ≠ Disk.rowOf v3 m.h.kept.length:=fun e=>nb _ ⟨_,_,_,_,_,rfl,.inr (.inr (.inl e.symm))⟩ rfl
 have n4:some w.heap.size ≠ Disk.rowOf vp m.prog.length:=fun e=>nb _ ⟨_,_,_,_,_,rfl,.inr (.inr (.inr (.inl e.symm)))⟩ rfl
 have q1:∀ b,Disk.rowOf v1 m.h.words.length=some b->VRow (.agg #[v1,v2,.int .i64 m.h.old,.int .i64 m.h.eden,.int .i64 m.h.surv,.bool m.h.flip,.int .i64 m.h.hash,v3,vp,.int .i64 m.pc,vo,.int .i64 m.st]) m b:=fun b e=>⟨_,_,_,_,_,rfl,.inl e⟩
 have q2:∀ b,Disk.rowOf v2 m.h.roots.length=some b->VRow (.agg #[v1,v2,.int .i64 m.h.old,.int .i64 m.h.eden,.int .i64 m.h.surv,.bool m.h.flip,.int .i64 m.h.hash,v3,vp,.int .i64 m.pc,vo,.int .i64 m.st]) m b:=fun b e=>⟨_,_,_,_,_,rfl,.inr (.inl e)⟩
 have q3:∀ b,Disk.rowOf v3 m.h.kept.length=some b->VRow (.agg #[v1,v2,.int .i64 m.h.old,.int .i64 m.h.eden,.int .i64 m.h.surv,.bool m.h.flip,.int .i64 m.h.hash,v3,vp,.int .i64 m.pc,vo,.int .i64 m.st]) m b:=fun b e=>⟨_,_,_,_,_,rfl,.inr (.inr (.inl e))⟩
 have q4:∀ b,Disk.rowOf vp m.prog.length=some b->VRow (.agg #[v1,v2,.int .i64 m.h.old,.int .i64 m.h.eden,.int .i64 m.h.surv,.bool m.h.flip,.int .i64 m.h.hash,v3,vp,.int .i64 m.pc,vo,.int .i64 m.st]) m b:=fun b e=>⟨_,_,_,_,_,rfl,.inr (.inr (.inr (.inl e)))⟩
 have q5:∀ b,Disk.rowOf vo m.out.length=some b->VRow (.agg #[v1,v2,.int .i64 m.h.old,.int .i64 m.h.eden,.int .i64 m.h.surv,.bool m.h.flip,.int .i64 m.h.hash,v3,vp,.int .i64 m.pc,vo,.int .i64 m.st]) m b:=fun b e=>⟨_,_,_,_,_,rfl,.inr (.inr (.inr (.inr e)))⟩
 have MH:=markHeap_any v1 v2 v3 m.h 1 _ (o1.later hb0) (o2.later hb0) (o3.later hb0) (i1.later hb0) (i2.later hb0) (i3.later hb0) d12 d13 d23 (by omega) (by omega) (by omega) (by omega) (by omega)
 have zp:=CRs rp
 have zo:=IRs ro
 unfold kTot
 generalize hRR:VRow (.agg #[v1,v2,.int .i64 m.h.old,.int .i64 m.h.eden,.int .i64 m.h.surv,.bool m.h.flip,.int .i64 m.h.hash,v3,vp,.int .i64 m.pc,vo,.int .i64 m.st]) m=RR at *
 go_enter Tryz.func23,Tryz.ntmps23
 go_wp2_with fail
 refine MH.mono ?_
 clear MH x0 x1 x2 x3 x4 x5 x6 x7 x8 x9 Bg Bh nb kr
 rintro e w1 ⟨rfl,T1,m1,m2,m3⟩
 have O1:Only w w1 RR:=(Only.of_below hb0).trans (Only.of_thr T1 q1 q2 q3)
 have B1:Bk w1 w.heap.size #[v1,v2,.int .i64 m.h.old,.int .i64 m.h.eden,.int .i64 m.h.surv,.bool m.h.flip,.int .i64 m.h.hash,v3,vp,.int .i64 m.pc,vo,.int .i64 m.st] 29:=(T1.block _ B0.lt n1 n2 n3).trans B0
 have opx:Disk.OS w1 70 2 vp m.prog.length:=by
  have p0:=op.later hb0
  exact OS.keepT p0 T1 (fun b e=>⟨fun f=>(d1 b e).2.1 f.symm,fun f=>(d1 b e).2.2.1 f.symm,fun f=>(d1 b e).2.2.2.1 f.symm⟩)
 have oox:Disk.OS w1 2 1 vo m.out.length:=by
  have p0:=oo.later hb0
  exact OS.keepT p0 T1 (fun b e=>⟨fun f=>(d2 b e).2.1 f.symm,fun f=>(d2 b e).2.2.1 f.symm,fun f=>(d2 b e).2.2.2 f.symm⟩)
 have MC:=markCodes_any vp m.prog.length (1+(m.h.words.length:Int)+m.h.roots.length+m.h.kept.length) w1 opx (by obtain ⟨a,c,e,f⟩:=zp;exact ⟨a,c,e,f⟩) (by omega) (by omega)
 have x8:=B1.cell 8 vp rfl
 go_wp2_with fail
 refine MC.mono ?_
 clear MC x8
 rintro e w2 ⟨rfl,g2,m4⟩
 have O2:Only w w2 RR:=O1.trans (Only.of_grown g2 q4)
 have B2:=B1.off g2 n4
 have Bg:=B2.cell 10 vo rfl
 have ooy:=oox.grown g2 (apartC (fun b e f=>(d1 b f).2.2.2.2 e) oo)
 have p1:=m1.grown g2 (inil (apartC (fun b e f=>(d1 b f).2.1 e) o1))
 have p2:=m2.grown g2 (inil (apartC (fun b e f=>(d1 b f).2.2.1 e) o2))
 have p3:=m3.grown g2 (inil (apartC (fun b e f=>(d1 b f).2.2.2.1 e) o3))
 have MI:=markInt64S_any vo m.out.length (1+(m.h.words.length:Int)+m.h.roots.length+m.h.kept.length+2 * m.prog.length) w2 ooy (by obtain ⟨a,c,e,f⟩:=zo;exact ⟨a,c,e,f⟩) (by omega) (by omega)
 clear B0 B1 m1 m2 m3 opx oox
 go_wp2_with fail
 refine MI.mono ?_
 clear MI Bg
 rintro e w3 ⟨rfl,g3,m5⟩
 have O3:Only w w3 RR:=O2.trans (Only.of_grown g3 q5)
 have r1:=p1.grown g3 (inil (apartC (fun b e f=>(d2 b f).2.1 e) o1))
 have r2:=p2.grown g3 (inil (apartC (fun b e f=>(d2 b f).2.2.1 e) o2))
 have r3:=p3.grown g3 (inil (apartC (fun b e f=>(d2 b f).2.2.2 e) o3))
 have r4:=m4.grown g3 (cnil (apartC (fun b e f=>(d1 b e).2.2.2.2 f) op))
 go_wp2
 go_ret
 exact ⟨rfl,O3,⟨_,_,_,_,_,rfl,r1,r2,r3,r4,m5⟩⟩
end Go.Proofs.YtgnbibinclepcaaGreatDoor
/- eqStringS, markStringS, heldStringS, beside heaps. -/
namespace Go.Proofs.YtgnbibinclepcaaGreatDoor.Disk
open Go.RowKit
set_option maxHeartbeats 400000 in
theorem eqStringS_any (v u:Value) (ss tt:List ByteArray) (w:World) (hv:SR w v ss) (hu:SR w u tt) (h1:ss.length<=1000000000000000) (_h2:tt.length<=1000000000000000) :
  Calls Tryz.prog 21 #[v,u] w fun e w'=>e=.returned (.bool (decide (ss=tt)))/\Below w.heap.size w w':=by
 obtain ⟨ao,cap,rfl,hv⟩:=hv
 obtain ⟨bo,cbp,rfl,hu⟩:=hu
 by_cases hl:ss.length=tt.length
 ·have hl' : ((ss.length:Int) != (tt.length:Int))=false:=by simp [hl]
  have HL:Hid (ss.length=tt.length):=hl
  go_enter Tryz.func21,Tryz.ntmps21
  go_wp2
  go_loopw [5] (fun a wr=>∃ (k:Nat),a=.int .i64 k/\k<=ss.length/\Hid (∀ j,j<k->ss.getD j ByteArray.empty=tt.getD j ByteArray.empty)/\∃ n,wr=w.drewN n) (fun a _=>(ss.length - (intOf a).toNat))
  case atStart=>exact ⟨0,rfl,Nat.zero_le _,fun j hj=>absurd hj (by omega),0,rfl⟩
  case round =>
   obtain ⟨k,rfl,hk,hj,n,rfl⟩:=hrel
   by_cases hlt:k<ss.length
   ·obtain ⟨b,o,rfl,hc⟩:=hv k hlt
    obtain ⟨b',o',rfl,hc'⟩:=hu k (by omega)
    have hlt' : k<tt.length:=by omega
    generalize hs:ss.getD k ByteArray.empty=s at *
    generalize ht:tt.getD k ByteArray.empty=t at *
    have HS:Hid (ss.getD k ByteArray.empty=s):=hs
    have HT:Hid (tt.getD k ByteArray.empty=t):=ht
    clear hs ht hv hu hl
    go_wp2
    go_region
    all_goals go_wp2
    ·have hne:=str_ne (by assumption)
     go_ret
     exact ⟨ret_bool (decide_eq_false (fun e=>hne (by rw [<- HS.out,← HT.out,e]))).symm,below_drewN (Below.refl _ _) _⟩
    ·have he:=str_eq (by assumption)
     go_roundw
     case rel=>exact ⟨k+1,by go_num,by omega,all_upto hj.out (by rw [HS.out,HT.out,he]),_,rfl⟩
     case measure=>simp [intOf];omega
   ·go_wp2
    go_ret
    exact ⟨ret_bool (decide_eq_true (lists_eq hl (fun j hj'=>hj.out j (by omega)))).symm,below_drewN (Below.refl _ _) _⟩
 ·have hl' : ((ss.length:Int) != (tt.length:Int))=true:=by simp;omega
  go_enter Tryz.func21,Tryz.ntmps21
  go_wp2
  go_ret
  exact ⟨ret_bool (decide_eq_false (fun e=>hl (by rw [e]))).symm,Below.refl _ _⟩
theorem conv_one (w:World) (c:Int):(convert 22 9 (.slice (some ⟨w.heap.size,0,none⟩) 1 1)).run Tryz.prog (w.alloc (.cells #[.int .u8 c] 5))=.ok (.string ⟨#[UInt8.ofNat c.toNat]⟩) (w.alloc (.cells #[.int .u8 c] 5)):=by
 have hl:=run_loadCells_list (P:=Tryz.prog) (w.alloc (.cells #[.int .u8 c] 5)) ⟨w.heap.size,0,none⟩ ([c].map (Value.int .u8)) (fun j v hj=>by
  match j,hj with
  | 0,hj=>simp at hj;subst hj;simp [Addr.add])
 rw [run_convert_bytes_string _ 22 9 5 _ _ _ (by kernel_rfl) (by kernel_rfl) (by kernel_rfl),run_bytesToString _ _ 1 1 [c] hl]
 rfl
set_option maxHeartbeats 400000 in
theorem markText_any (k:Int) (w:World) (h0:0<k) (h1:k<=1000000000000000) :
  Calls Tryz.prog 68 #[.int .i64 k] w fun e w'=>e=.returned (.string (mtext k))/\Below w.heap.size w w':=by
 have hcv:=conv_one
 go_enter Tryz.func68,Tryz.ntmps68
 go_wp2
 go_loopw [0,3] (fun a o wr=>∃ (n f:Nat) (s:ByteArray),a=.int .i64 n/\o=.string s/\n<=f/\s.size+n<=k.toNat/\Hid (digs f n s.data.toList=digs k.toNat k.toNat [])/\Below w.heap.size w wr) (fun a _ _=>(intOf a).toNat)
 case atStart =>
  exact ⟨k.toNat,k.toNat,_,by rw [Int.toNat_of_nonneg (by omega)],rfl,Nat.le_refl _,by show 0+k.toNat<=k.toNat;omega,rfl,Below.refl _ _⟩
 case round =>
  obtain ⟨n,f,s,rfl,rfl,hf,hs,hd,hb⟩:=hrel
  by_cases hn:0<n
  ·have HD:Hid (digs (f - 1) (n / 10) (({ data:=#[48+UInt8.ofNat (n % 10)] } ++ s:ByteArray).data.toList)=digs k.toNat k.toNat []):=(digs_step f n s hn hf).trans hd.out
   go_wp2
   go_roundw
   case rel=>exact ⟨n / 10,f - 1,_,by go_num,rfl,by omega,by rw [ByteArray.size_append];show 1+s.size+n / 10<=_;omega,HD,hb.alloc hb.size _⟩
   case measure=>simp [intOf];omega
  ·go_wp2
   go_ret
   exact ⟨ret_str (digs_end k f n s h0 hn hd.out),hb⟩
theorem row_mark {w:World} {b N j:Nat} {k:Int} {f:Nat->Value} (h:w.rowIs b 9 N (fun i:Nat=>if i<j then .string (mtext (k+i)) else f i)) :
  (w.setCell ⟨b,j,none⟩ (.string (mtext (k+j)))).rowIs b 9 N (fun i:Nat=>if i<j+1 then .string (mtext (k+i)) else f i):=by
 refine (h.set j _).congr fun i _=>?_
 by_cases e:i=j
 ·subst e;simp
 ·by_cases e' : i<j
  ·rw [if_neg e,if_pos e',if_pos (by omega)]
  ·rw [if_neg e,if_neg e',if_neg (by omega)]
theorem row_marks {w:World} {b N n cap:Nat} {k:Int} {f:Nat->Value} (h:w.rowIs b 9 N (fun i:Nat=>if i<n then .string (mtext (k+i)) else f i)) (hN:n<=N) :
  SR w (.slice (some ⟨b,0,none⟩) n cap) (marks k n):=by
 refine ⟨some ⟨b,0,none⟩,cap,by rw [marks_length],fun i hi=>⟨b,0,rfl,?_⟩⟩
 rw [marks_length] at hi
 rw [marks_get k n i hi,Nat.zero_add,h.cell (by omega),if_pos hi]
set_option maxHeartbeats 400000 in
theorem markStringS_any (v:Value) (n:Nat) (k:Int) (w:World) (hv:OS w 9 1 v n) (h0:0<k) (h1:k+n<=1000000000000000) :
  Calls Tryz.prog 24 #[v,.int .i64 k] w fun e w'=>e=.returned (.int .i64 (k+n))/\w.grownBy w' (rowOf v n)/\SR w' v (marks k n):=by
 obtain ⟨ao,cap,rfl,hv⟩:=hv
 by_cases hn:n=0
 ·subst hn
  go_enter Tryz.func24,Tryz.ntmps24
  go_wp2
  refine wp_loop_rounds 1 ?_
  rw [rounds_succ]
  go_wp2
  go_ret
  exact ⟨ret_int (by simp),World.grownBy.refl _ _,⟨ao,cap,by simp [marks],fun i hi=>by simp [marks] at hi⟩⟩
 ·obtain ⟨b,N,f,rfl,hN,hr⟩:=hv.resolve_left hn
  have hro:rowOf (.slice (some ⟨b,0,none⟩) n cap) n=some b:=by simp [rowOf,hn,Value.ownBlock]
  rw [hro]
  rw [Nat.mul_one] at hN
  clear hv hro
  go_enter Tryz.func24,Tryz.ntmps24
  go_wp2
  go_loopw [1,5] (fun c i wr=>∃ j:Nat,j<=n/\i=.int .i64 j/\c=.int .i64 (k+j)/\w.grownBy wr (some b)/\wr.rowIs b 9 N (fun i:Nat=>if i<j then .string (mtext (k+i)) else f i)) (fun _ i _=>n - (intOf i).toNat)
  case atStart=>exact ⟨0,Nat.zero_le _,rfl,by go_num,World.grownBy.refl _ _,hr.congr (fun i _=>by simp)⟩
  case round =>
   obtain ⟨j,hj,rfl,rfl,hg,hrow⟩:=hrel
   by_cases hlt:j<n
   ·go_wp2_with (fail)
    refine (markText_any _ _ (by omega) (by omega)).mono ?_
    rintro e w2 ⟨rfl,hb2⟩
    have hrow2:=hrow.of_block (hb2.block b hrow.lt)
    have hc2:=hrow2.cell (i:=j) (by omega)
    have hf2:=hrow2.frozen j
    have hg2:=grown_trans hg (grown_below (row:=some b) hb2)
    have R:=row_mark hrow2
    have G:=grown_trans hg2 (grown_set w2 b j (.string (mtext (k+j))))
    clear hrow hrow2 hg hg2
    go_wp2
    go_roundw
    case rel=>exact ⟨j+1,by omega,by go_num,by go_num,G,R⟩
    case measure=>simp [intOf];omega
   ·obtain rfl:j=n:=by omega
    go_wp2
    go_ret
    exact ⟨rfl,hg,row_marks hrow hN⟩
set_option maxHeartbeats 400000 in
theorem heldStringS_any (v:Value) (n:Nat) (k:Int) (w:World) (hv:SR w v (marks k n)) (h0:0<k) (h1:k+n<=1000000000000000) :
  Calls Tryz.prog 25 #[v,.int .i64 k] w fun e w'=>e=.returned (.int .i64 (k+n))/\Below w.heap.size w w':=by
 obtain ⟨ao,cap,rfl,hv⟩:=hv
 rw [marks_length] at hv ⊢
 go_enter Tryz.func25,Tryz.ntmps25
 go_wp2
 go_loopw [1,5] (fun c i wr=>∃ j:Nat,j<=n/\i=.int .i64 j/\c=.int .i64 (k+j)/\Below w.heap.size w wr) (fun _ i _=>n - (intOf i).toNat)
 case atStart=>exact ⟨0,Nat.zero_le _,rfl,by go_num,Below.refl _ _⟩
 case round =>
  obtain ⟨j,hj,rfl,rfl,hb⟩:=hrel
  by_cases hlt:j<n
  ·obtain ⟨b,o,rfl,hc⟩:=hv j hlt
   rw [marks_get k n j hlt] at hc
   have hc1:=cell_later hb hc
   clear hv hc
   go_wp2
   go_region_with (go_at_call 68;refine (markText_any _ _ (by omega) (by omega)).mono ?_;rintro e w2 ⟨rfl,hb2⟩;have hc2:=cell_later hb2 hc1)
   all_goals go_wp2
   all_goals
    have hb3:Below w.heap.size w w2:=hb.drew.trans (hb2.mono hb.size)
    go_roundw
    case rel=>exact ⟨j+1,by omega,by go_num,by go_num,hb3⟩
    case measure=>simp [intOf];omega
  ·obtain rfl:j=n:=by omega
   go_wp2
   go_ret
   exact ⟨rfl,hb⟩
end Go.Proofs.YtgnbibinclepcaaGreatDoor.Disk
set_option linter.unusedVariables false
namespace Go.Proofs.YtgnbibinclepcaaGreatDoor
open Go.Conc Go.Proofs.YtgnbibinclepcaaGreatDoor.Lf Go.RowKit
noncomputable def okV (m:Mp):Bool:=okM m.h m.prog m.pc m.out m.st && partsB m.h
noncomputable def txV (m:Mp):ByteArray:=if okV m=true then ⟨(imgS m.pc m.st m.h.hash m.out (shP m.h).nodes).toArray⟩ else ⟨#[]⟩
noncomputable def rbV (m:Mp):Bool:=okV m && decide ((cutT (txV m)).length<=30)
noncomputable def pgV (m:Mp):List ByteArray:=if rbV m=true then cutT (txV m) else []
theorem okV_need {m:Mp} (h:okV m=true):okC m.h=true/\g64 m.pc/\g64 m.st/\m.out.length<=300/\∀ x,x ∈ m.out->g64 x:=by
 unfold okV okM progB placeB outB stateB at h
 simp only [Bool.and_eq_true,decide_eq_true_eq,List.all_eq_true] at h
 obtain ⟨⟨h1,⟨hp,_⟩,⟨h2,h3⟩,⟨h4,h5⟩,h6,h7⟩,_⟩:=h
 refine ⟨h1,?_,?_,h4,fun x hx=>?_⟩
 ·unfold g64;omega
 ·unfold g64;omega
 ·have:=h5 x hx
  unfold numB at this
  simp only [decide_eq_true_eq] at this
  unfold g64
  omega
theorem txV_size (m:Mp):(txV m).size<=5000000:=by
 unfold txV
 split
 ·next h =>
  obtain ⟨k,a1,a2,a3,a4⟩:=okV_need h
  have r:=c_right k
  obtain ⟨nn,nb⟩:=shape_nodes r
  have hh:=r.2.2.1
  show (imgS _ _ _ _ _).toArray.size<=_
  rw [List.size_toArray]
  exact imgS_len a1 a2 (by unfold g64;omega) a3 a4 nn nb
 ·show 0<=_
  omega
theorem cutV_len (m:Mp):(cutT (txV m)).length<=5000001:=by
 rw [cutT_S]
 have:=cutS_len (txV m) ((txV m).size+1)
 have:=txV_size m
 omega
theorem pgV_len (m:Mp):(pgV m).length<=30:=by
 unfold pgV
 split
 ·next h =>
  unfold rbV at h
  simp only [Bool.and_eq_true,decide_eq_true_eq] at h
  exact h.2
 ·simp
def SPost (m:Mp) (B:Nat) (e:Ending) (w' : World):Prop:=∃ ov,e=.returned (.tuple #[ov,.bool (rbV m)])/\w'.ownsRow B 9 1 ov (pgV m).length ((pgV m).map .string)
theorem specFreeze_c (v:Value) (m:Mp) (w:World) (hv:VR w v m) (hs:smM m 1000000000) :
  Calls Tryz.prog 9 #[v] w fun e w'=>SPost m w.heap.size e w' /\ Below w.heap.size w w':=by
 obtain ⟨v1,v2,v3,vp,vo,rfl,i1,i2,i3,ip,io⟩:=hv
 refine (specFreeze_any v1 v2 v3 vp vo m.h m.pc m.st w (okV m) (txV m) (Nat.le_trans (txV_size m) (by omega))
  (fun W hb=>specVmOk_c _ m W ⟨v1,v2,v3,vp,vo,rfl,i1.later hb,i2.later hb,i3.later hb,ip.later hb,io.later hb⟩ hs)
  (fun ok W hb=>by
   obtain ⟨k,a1,a2,a3,a4⟩:=okV_need ok
   exact specText_any (txV m) v1 v2 v3 vp vo m _ W (i1.later hb) (i2.later hb) (i3.later hb) (io.later hb) (c_right k) a1 a2 a3 a4 (by unfold txV;rw [if_pos ok]))).mono ?_
 rintro e w' ⟨⟨ov,n,rb,rfl,hrb,ho⟩,hb⟩
 refine ⟨⟨ov,?_,?_⟩,hb⟩
 ·rw [hrb,← cutT_S]
  rfl
 ·have e1:rb=rbV m:=by rw [hrb,← cutT_S];rfl
  have e2:(if rb=true then (cutS ((txV m).size+1) (txV m)).map Value.string else [])=(pgV m).map .string:=by
   rw [e1,← cutT_S]
   unfold pgV
   split <;> rfl
  have e3:n=(pgV m).length:=by
   have:=ho.1
   rw [e2,List.length_map] at this
   omega
  rw [e2,e3] at ho
  exact ho
def IPost (W0:World) (m:Mp) (e:Ending) (w' : World):Prop :=
 ∃ ov,e=.returned (.tuple #[ov,.bool (rbV m)])/\Below W0.heap.size (W0.re w'.tape 0) w' /\ w'.ownsRow W0.heap.size 9 1 ov (pgV m).length ((pgV m).map .string)
theorem implFreeze_runs (v:Value) (m:Mp) (W0:World) (cs:List Frame) (hcs:∀ f ∈ cs,FitFrame f) (hv:VR W0 v m) (hs:smM m 1000000000) (ht:GTb W0) :
  Runs Tryz.prog (AtLeave Tryz.prog 8 cs (IPost W0 m)) (G (Frame.enter Tryz.prog 8 #[v] .normal) cs) W0:=by
 obtain ⟨v1,v2,v3,vp,vo,rfl,i1,i2,i3,ip,io⟩:=hv
 have lat:∀ w,FX W0 (vmV v1 v2 v3 vp vo m) w->IR w v1 m.h.words/\IR w v2 m.h.roots/\IR w v3 m.h.kept/\CR w vp m.prog/\IR w vo m.out/\GTb w:=fun w h =>
  ⟨(show IR (W0.re w.tape 0) v1 m.h.words from i1).later h.below,(show IR (W0.re w.tape 0) v2 m.h.roots from i2).later h.below,(show IR (W0.re w.tape 0) v3 m.h.kept from i3).later h.below,(show CR (W0.re w.tape 0) vp m.prog from ip).later h.below,(show IR (W0.re w.tape 0) vo m.out from io).later h.below,(show GTb (W0.re w.tape 0) from ht).later h.below⟩
 refine (freeze_runs W0 (txV m) cs hcs v1 v2 v3 vp vo m (okV m) (by have:=cutV_len m;omega)
  (fun w h=>by
   obtain ⟨a,b,c,d,e,_⟩:=lat w h
   exact implVmOk_any _ m w ⟨v1,v2,v3,vp,vo,rfl,a,b,c,d,e⟩ hs)
  (fun ok w h=>by
   obtain ⟨a,b,c,d,e,g⟩:=lat w h
   obtain ⟨k,a1,a2,a3,a4⟩:=okV_need ok
   exact implText_any (txV m) v1 v2 v3 vp vo m w a b c e k hs.2.1 hs.2.2.1 a1 a2 a3 a4 g (by unfold txV;rw [if_pos ok]))).bind fun g w h=>?_
 refine Runs.stop (blind_atLeave _ _ _) ?_
 obtain ⟨e,fr,T,d,rfl,⟨ov,rfl,hb,ho⟩,h2,h3⟩:=h
 refine ⟨_,fr,T,d,rfl,⟨ov,rfl,hb,?_⟩,h2,h3⟩
 change if rbV m=true then _ else _ at ho
 unfold pgV
 by_cases hr:rbV m=true
 ·rw [if_pos hr] at ho ⊢
  rw [List.length_map] at ho
  exact ho
 ·rw [if_neg hr] at ho ⊢
  subst ho
  exact World.ownsRow_nil _ _ _ _
theorem SR_own {w:World} {B:Nat} {v:Value} {l:List ByteArray} (h:w.ownsRow B 9 1 v l.length (l.map .string)):Disk.SR w v l:=by
 obtain ⟨ao,cap,rfl,hle,hc⟩:=own_cell h
 refine ⟨ao,cap,rfl,fun i hi=>?_⟩
 obtain ⟨b,rfl,hci⟩:=hc i hi
 refine ⟨b,0,rfl,?_⟩
 rw [Nat.zero_add,hci]
 simp [hi]
end Go.Proofs.YtgnbibinclepcaaGreatDoor
