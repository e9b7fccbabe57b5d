
import Derived.Test.YtgnbibinclepcaaGreatDoorRows
import Derived.WalkKit
import Derived.WalkSpells
import Derived.WalkLawsBesides
import Derived.Lib.ItoaNum
import Derived.Test.YtgnbibinclepcaaGreatDoorZP11
import Derived.Test.YtgnbibinclepcaaGreatDoorZP20
import Derived.Test.YtgnbibinclepcaaGreatDoorZP21
import Derived.ArgAppend
import Derived.Lib.AppendStr
import Derived.Laws.IdiomStrings
import Derived.Test.YtgnbibinclepcaaGreatDoorZP6
import Derived.Test.YtgnbibinclepcaaGreatDoorZP16
import Derived.Test.YtgnbibinclepcaaGreatDoorZP18
/- l2Int of the model: the numeral of a number. -/
namespace Go.Proofs.YtgnbibinclepcaaGreatDoor
open Go.RowKit
theorem conv_one (w:World) (c:Int):(convert 22 9 (.slice (some ⟨w.heap.size,0,none⟩) 1 1)).run Tryz.prog (w.alloc (.cells #[.int .u8 c] 5))=.ok (.string ⟨#[UInt8.ofNat c.toNat]⟩) (w.alloc (.cells #[.int .u8 c] 5)):=by
 have hl:=run_loadCells_list (P:=Tryz.prog) (w.alloc (.cells #[.int .u8 c] 5)) ⟨w.heap.size,0,none⟩ ([c].map (Value.int .u8)) (fun j v hj=>by
  match j,hj with
  | 0,hj=>simp at hj;subst hj;simp [Addr.add])
 rw [run_convert_bytes_string _ 22 9 5 _ _ _ (by kernel_rfl) (by kernel_rfl) (by kernel_rfl),run_bytesToString _ _ 1 1 [c] hl]
 rfl
def pre10 (m:Nat):List UInt8:=if m=0 then [] else Lib.decDigits m
theorem digit_eq (d:Nat):UInt8.ofNat (48+d)=48+UInt8.ofNat d:=by rw [UInt8.ofNat_add];rfl
theorem dec_step (m:Nat):Lib.decDigits m=pre10 (m / 10) ++ [UInt8.ofNat (48+m % 10)]:=by
 rw [Lib.decDigits]
 unfold pre10
 by_cases h:m<10
 ·rw [dif_pos h,if_pos (by omega),Nat.mod_eq_of_lt h]
  rfl
 ·rw [dif_neg h,if_neg (by omega)]
theorem pre_step (m:Nat) (h:m ≠ 0):pre10 m=pre10 (m / 10) ++ [UInt8.ofNat (48+m % 10)]:=by
 rw [<- dec_step]
 unfold pre10
 rw [if_neg h]
def Writ (N m:Nat) (s:ByteArray):Prop:=(s=⟨#[]⟩/\m=N) ∨ (s ≠ ⟨#[]⟩/\Lib.decDigits N=pre10 m ++ s.data.toList)
theorem Writ.step {N m:Nat} {s:ByteArray} (h:Writ N m s) (hm:s=⟨#[]⟩ ∨ m ≠ 0):Writ N (m / 10) (⟨#[48+UInt8.ofNat (m % 10)]⟩ ++ s):=by
 rw [<- digit_eq]
 refine .inr ⟨fun e=>?_,?_⟩
 ·have:=congrArg ByteArray.size e
  rw [ByteArray.size_append] at this
  change 1+s.size=0 at this
  omega
 ·rcases h with ⟨rfl,rfl⟩|⟨hs,h⟩
  ·rw [dec_step]
   simp
  ·rw [h,pre_step m (hm.resolve_left hs)]
   simp
theorem Writ.done {N:Nat} {s:ByteArray} (h:Writ N 0 s) (hs:s ≠ ⟨#[]⟩):s=⟨(Lib.decDigits N).toArray⟩:=by
 rcases h with ⟨e,_⟩|⟨_,h⟩
 ·exact absurd e hs
 ·rw [h]
  simp [pre10]
def isEmp:Value->Nat
 | .string s=>if s.size=0 then 1 else 0
 | _=>0
theorem isEmp_cons (x:UInt8) (s:ByteArray):isEmp (.string (⟨#[x]⟩ ++ s))=0:=by
 show (if (⟨#[x]⟩ ++ s:ByteArray).size=0 then 1 else 0)=0
 rw [if_neg]
 rw [ByteArray.size_append]
 show ¬ (1+s.size=0)
 omega
theorem isEmp_nil:isEmp (.string ⟨#[]⟩)=1:=rfl
theorem size_cons (x:UInt8) (s:ByteArray):(⟨#[x]⟩ ++ s:ByteArray).size=s.size+1:=by
 rw [ByteArray.size_append]
 show 1+s.size=_
 omega
theorem pow_step {m k:Nat} (h:m<10 ^ (20 - k)) (hk:k<=20) (hm:k=0 ∨ m ≠ 0):m / 10<10 ^ (20 - (k+1))/\k+1<=20:=by
 by_cases h20:k=20
 ·subst h20
  simp at h
  omega
 ·have e:20 - k=(20 - (k+1))+1:=by omega
  rw [e,Nat.pow_succ] at h
  exact ⟨(Nat.div_lt_iff_lt_mul (by omega)).2 h,by omega⟩
theorem str_nil {s:ByteArray} (h:s ≠ ⟨#[]⟩):¬ s.toList=[]:=fun e=>h (by
 rw [ByteArray.toList_eq] at e
 exact ByteArray.ext (Array.toList_eq_nil_iff.1 e))
set_option maxRecDepth 100000 in
set_option maxHeartbeats 1000000 in
theorem l2Int_pos (n:Nat) (w:World) (hn:n<=9223372036854775807) :
  Calls Tryz.prog 81 #[.int .i64 n] w fun e w'=>e=.returned (.string ⟨(Lib.itoa n).toArray⟩)/\Below w.heap.size w w':=by
 have hcv:=conv_one
 have HN:Hid (Lib.itoa n=Lib.decDigits n):=(by unfold Lib.itoa;rw [if_neg (by omega)];rfl:Lib.itoa n=Lib.decDigits n)
 have hneg:decide ((n:Int)<0)=false:=by simp
 go_enter Tryz.func81,Tryz.ntmps81
 go_wp2
 go_loopw [0,3] (fun a o wr=>∃ (m:Nat) (s:ByteArray),a=.int .i64 m/\o=.string s/\m<=n/\s.size<=20/\Hid (m<10 ^ (20 - s.size))/\Hid (Writ n m s)/\Below w.heap.size w wr) (fun a o _=>(intOf a).toNat+isEmp o)
 case atStart =>
  exact ⟨n,⟨#[]⟩,rfl,rfl,Nat.le_refl _,by show 0<=20;omega,(by show n<10 ^ 20;omega:n<10 ^ (20 - (⟨#[]⟩:ByteArray).size)),.inl ⟨rfl,rfl⟩,Below.refl _ _⟩
 case round =>
  obtain ⟨m,s,rfl,rfl,hm,hs,hp,hd,hb⟩:=hrel
  by_cases hgo:s=⟨#[]⟩ ∨ m ≠ 0
  ·have HD:Hid (Writ n (m / 10) (⟨#[48+UInt8.ofNat (m % 10)]⟩ ++ s)):=hd.out.step hgo
   obtain ⟨p1,p2⟩:=pow_step hp.out hs (hgo.imp (fun e=>by rw [e];rfl) id)
   have HP:Hid (m / 10<10 ^ (20 - (s.size+1))):=p1
   have hq:decide ((m:Int) % 10<0)=false:=by simp;omega
   clear p1
   by_cases hse:s=⟨#[]⟩
   ·subst hse
    go_wp2
    exact ⟨⟨m / 10,_,by go_num,rfl,by omega,by rw [size_cons];exact p2,(by rw [size_cons];exact HP.out:m / 10<10 ^ (20 - (⟨#[48+UInt8.ofNat (m % 10)]⟩ ++ ⟨#[]⟩:ByteArray).size)),HD,hb.alloc hb.size _⟩,by rw [isEmp_cons,isEmp_nil];simp [intOf];omega⟩
   ·have hm0:=hgo.resolve_left hse
    have q1:=str_nil hse
    have q2:s.toList.isEmpty=false:=by simpa using q1
    have q3:((m:Int) != 0)=true:=by simp;omega
    go_wp2
    exact ⟨⟨m / 10,_,by go_num,rfl,by omega,by rw [size_cons];exact p2,(by rw [size_cons];exact HP.out:m / 10<10 ^ (20 - (⟨#[48+UInt8.ofNat (m % 10)]⟩ ++ s:ByteArray).size)),HD,hb.alloc hb.size _⟩,by rw [isEmp_cons];simp [intOf];omega⟩
  ·have hse:s ≠ ⟨#[]⟩:=fun e=>hgo (.inl e)
   obtain rfl:m=0:=Decidable.byContradiction (fun e=>hgo (.inr e))
   have q1:=str_nil hse
   have q2:s.toList.isEmpty=false:=by simpa using q1
   go_wp2
   go_ret
   refine ⟨congrArg (fun z=>Ending.returned (.string z)) ?_,hb⟩
   rw [HN.out]
   exact hd.out.done hse
theorem tmod_neg (m:Nat):Int.tmod (-(m:Int)) 10 = -((m % 10:Nat):Int):=by rw [Int.neg_tmod];exact congrArg Neg.neg (Int.ofNat_tmod m 10).symm
theorem tdiv_neg (m:Nat):Int.tdiv (-(m:Int)) 10 = -((m / 10:Nat):Int):=by rw [Int.neg_tdiv];exact congrArg Neg.neg (Int.ofNat_tdiv m 10).symm
set_option maxRecDepth 100000 in
set_option maxHeartbeats 1000000 in
theorem l2Int_neg (n:Nat) (w:World) (hn0:n ≠ 0) (hn:n<=9223372036854775808) :
  Calls Tryz.prog 81 #[.int .i64 (-(n:Int))] w fun e w'=>e=.returned (.string ⟨(Lib.itoa (-(n:Int))).toArray⟩)/\Below w.heap.size w w':=by
 have hcv:=conv_one
 have HN:Hid (Lib.itoa (-(n:Int))=45::Lib.decDigits n):=(by unfold Lib.itoa;rw [if_pos (by omega),Int.natAbs_neg];rfl:Lib.itoa (-(n:Int))=45::Lib.decDigits n)
 have hneg:decide (-(n:Int)<0)=true:=by simp;omega
 go_enter Tryz.func81,Tryz.ntmps81
 go_wp2
 go_loopw [0,3] (fun a o wr=>∃ (m:Nat) (s:ByteArray),a=.int .i64 (-(m:Int))/\o=.string s/\m<=n/\s.size<=20/\Hid (m<10 ^ (20 - s.size))/\Hid (Writ n m s)/\Below w.heap.size w wr) (fun a o _=>(-(intOf a)).toNat+isEmp o)
 case atStart =>
  exact ⟨n,⟨#[]⟩,rfl,rfl,Nat.le_refl _,by show 0<=20;omega,(by show n<10 ^ 20;omega:n<10 ^ (20 - (⟨#[]⟩:ByteArray).size)),.inl ⟨rfl,rfl⟩,Below.refl _ _⟩
 case round =>
  obtain ⟨m,s,rfl,rfl,hm,hs,hp,hd,hb⟩:=hrel
  by_cases hgo:s=⟨#[]⟩ ∨ m ≠ 0
  ·have HD:Hid (Writ n (m / 10) (⟨#[48+UInt8.ofNat (m % 10)]⟩ ++ s)):=hd.out.step hgo
   obtain ⟨p1,p2⟩:=pow_step hp.out hs (hgo.imp (fun e=>by rw [e];rfl) id)
   have HP:Hid (m / 10<10 ^ (20 - (s.size+1))):=p1
   have t1:=tmod_neg m
   have t2:=tdiv_neg m
   clear p1
   by_cases hse:s=⟨#[]⟩
   ·subst hse
    go_wp2
    ·exact ⟨⟨m / 10,_,by go_num,rfl,by omega,by rw [size_cons];exact p2,(by rw [size_cons];exact HP.out:m / 10<10 ^ (20 - (⟨#[48+UInt8.ofNat (m % 10)]⟩ ++ ⟨#[]⟩:ByteArray).size)),HD,hb.alloc hb.size _⟩,by rw [isEmp_cons,isEmp_nil];simp [intOf];omega⟩
    ·have z:m % 10=0:=by omega
     have zi:(m:Int) % 10=0:=by omega
     have HD':=HD.out
     rw [z] at HD'
     rw [zi]
     exact ⟨⟨m / 10,_,by go_num,rfl,by omega,by rw [size_cons];exact p2,(by rw [size_cons];exact HP.out:m / 10<10 ^ (20 - (⟨#[UInt8.ofNat ((48:Int) + -0).toNat]⟩ ++ ⟨#[]⟩:ByteArray).size)),HD',hb.alloc hb.size _⟩,by rw [isEmp_cons,isEmp_nil];simp [intOf];omega⟩
   ·have hm0:=hgo.resolve_left hse
    have q1:=str_nil hse
    have q2:s.toList.isEmpty=false:=by simpa using q1
    have q3:(-(m:Int) != 0)=true:=by simp;omega
    go_wp2
    ·exact ⟨⟨m / 10,_,by go_num,rfl,by omega,by rw [size_cons];exact p2,(by rw [size_cons];exact HP.out:m / 10<10 ^ (20 - (⟨#[48+UInt8.ofNat (m % 10)]⟩ ++ s:ByteArray).size)),HD,hb.alloc hb.size _⟩,by rw [isEmp_cons];simp [intOf];omega⟩
    ·have z:m % 10=0:=by omega
     have zi:(m:Int) % 10=0:=by omega
     have HD':=HD.out
     rw [z] at HD'
     rw [zi]
     exact ⟨⟨m / 10,_,by go_num,rfl,by omega,by rw [size_cons];exact p2,(by rw [size_cons];exact HP.out:m / 10<10 ^ (20 - (⟨#[UInt8.ofNat ((48:Int) + -0).toNat]⟩ ++ s:ByteArray).size)),HD',hb.alloc hb.size _⟩,by rw [isEmp_cons];simp [intOf];omega⟩
  ·have hse:s ≠ ⟨#[]⟩:=fun e=>hgo (.inl e)
   obtain rfl:m=0:=Decidable.byContradiction (fun e=>hgo (.inr e))
   have q1:=str_nil hse
   have q2:s.toList.isEmpty=false:=by simpa using q1
   have e1:(⟨#[45]⟩ ++ s:ByteArray)=⟨(45::Lib.decDigits n).toArray⟩:=by
    rw [hd.out.done hse]
    apply ByteArray.ext
    simp
   have E1:Hid ((⟨#[45]⟩ ++ s:ByteArray)=⟨(45::Lib.decDigits n).toArray⟩):=e1
   clear e1
   go_wp2
   go_ret
   refine ⟨congrArg (fun z=>Ending.returned (.string z)) ?_,hb⟩
   rw [HN.out]
   exact E1.out
theorem l2Int_any (n:Int) (w:World) (h0 : -9223372036854775808<=n) (h1:n<=9223372036854775807) :
  Calls Tryz.prog 81 #[.int .i64 n] w fun e w'=>e=.returned (.string ⟨(Lib.itoa n).toArray⟩)/\Below w.heap.size w w':=by
 by_cases h:0<=n
 ·obtain ⟨k,rfl⟩:=Int.eq_ofNat_of_zero_le h
  exact l2Int_pos k w (by omega)
 ·obtain ⟨k,hk⟩:=Int.eq_ofNat_of_zero_le (a:=-n) (by omega)
  obtain rfl:n = -(k:Int):=by omega
  exact l2Int_neg k w (by omega) (by omega)
end Go.Proofs.YtgnbibinclepcaaGreatDoor
/- Graphs in plain words: the objects in the order in which they are come to, the graph of a right heap, the heap of a graph, and that both ways to ask whether there is one say the same. -/
namespace Go.Proofs.YtgnbibinclepcaaGreatDoor
open Go.RowKit
def fol1 (o:List Nat) (x:Int):List Nat:=if isK 2 x=true then (if (x / 2).toNat ∈ o then o else o ++ [(x / 2).toNat]) else o
def fol (o:List Nat) (ws:List Int):List Nat:=ws.foldl fol1 o
def tr (W R:List Int):Nat->List Nat
 | 0=>fol [] R
 | k+1=>if k<(tr W R k).length then fol (tr W R k) (flds W ((tr W R k).getD k 0)) else tr W R k
def lim (R:List Int):Nat:=3200+0 * R.length
theorem lim_eq (R:List Int):lim R=3200:=by simp [lim]
def ordF (W R:List Int):List Nat:=tr W R (lim R)
theorem ord_tr (W R:List Int):ordF W R=tr W R 3200:=by unfold ordF;rw [lim_eq]
def ren (F:List Nat) (x:Int):Int:=if isK 2 x=true then 2 * ((F.idxOf (x / 2).toNat:Nat):Int)+1 else x
theorem fol1_pre (o:List Nat) (x:Int):o <+: fol1 o x:=by
 unfold fol1
 split
 ·split
  ·exact List.prefix_refl _
  ·exact List.prefix_append _ _
 ·exact List.prefix_refl _
theorem fol_pre (ws:List Int):∀ o,o <+: fol o ws:=by
 induction ws with
 | nil=>intro o;exact List.prefix_refl _
 | cons x ws ih=>intro o;exact (fol1_pre o x).trans (ih (fol1 o x))
theorem fol_append (o:List Nat) (a b:List Int):fol o (a ++ b)=fol (fol o a) b:=List.foldl_append
theorem fol_take_pre (o:List Nat) (ws:List Int) (j:Nat):fol o (ws.take j) <+: fol o ws:=by
 have:=fol_pre (ws.drop j) (fol o (ws.take j))
 rwa [<- fol_append,List.take_append_drop] at this
theorem itake_snoc (l:List Int) (k:Nat) (h:k<l.length):l.take (k+1)=l.take k ++ [l.getD k 0]:=by
 rw [List.take_succ_eq_append_getElem h]
 simp [h]
theorem fol_snoc (o:List Nat) (ws:List Int) (j:Nat) (h:j<ws.length):fol o (ws.take (j+1))=fol1 (fol o (ws.take j)) (ws.getD j 0):=by
 rw [itake_snoc ws j h,fol_append]
 rfl
theorem tr_next (W R:List Int) (k:Nat) (h:k<(tr W R k).length):tr W R (k+1)=fol (tr W R k) (flds W ((tr W R k).getD k 0)):=by
 rw [tr,if_pos h]
theorem tr_pre1 (W R:List Int) (k:Nat):tr W R k <+: tr W R (k+1):=by
 rw [tr]
 split
 ·exact fol_pre _ _
 ·exact List.prefix_refl _
theorem tr_pre (W R:List Int) (k d:Nat):tr W R k <+: tr W R (k+d):=by
 induction d with
 | zero=>exact List.prefix_refl _
 | succ d ih=>exact ih.trans (tr_pre1 W R (k+d))
theorem tr_stay (W R:List Int) (k d:Nat) (h:(tr W R k).length<=k):tr W R (k+d)=tr W R k:=by
 induction d with
 | zero=>rfl
 | succ d ih =>
  show tr W R ((k+d)+1)=_
  rw [tr,if_neg (by rw [ih];omega),ih]
theorem tr_end {W R:List Int} {k:Nat} (hk:k<=3200) (h:(tr W R k).length<=k):ordF W R=tr W R k:=by
 have:=tr_stay W R k (3200 - k) h
 rwa [show k+(3200 - k)=3200 from by omega,← ord_tr] at this
theorem tr_ord {W R:List Int} {k:Nat} (hk:k<=3200):tr W R k <+: ordF W R:=by
 have:=tr_pre W R k (3200 - k)
 rwa [show k+(3200 - k)=3200 from by omega,← ord_tr] at this
theorem fol1_nodup {o:List Nat} (h:o.Nodup) (x:Int):(fol1 o x).Nodup:=by
 unfold fol1
 split
 ·split
  ·exact h
  ·rename_i hn
   rw [List.nodup_append]
   refine ⟨h,by simp,fun a ha b hb=>?_⟩
   rw [List.mem_singleton] at hb
   rintro rfl
   exact hn (hb ▸ ha)
 ·exact h
theorem fol_nodup (ws:List Int):∀ {o:List Nat},o.Nodup->(fol o ws).Nodup:=by
 induction ws with
 | nil=>intro o h;exact h
 | cons x ws ih=>intro o h;exact ih (fol1_nodup h x)
theorem tr_nodup (W R:List Int) (k:Nat):(tr W R k).Nodup:=by
 induction k with
 | zero=>exact fol_nodup R List.nodup_nil
 | succ k ih =>
  rw [tr]
  split
  ·exact fol_nodup _ ih
  ·exact ih
theorem fit_mem {l:List Nat} {x:Int} (h:fitB l x=true) (k:isK 2 x=true):(x / 2).toNat ∈ l/\((x / 2).toNat:Int)=x / 2:=by
 unfold isK at k
 have k':=of_decide_eq_true k
 unfold fitB at h
 rw [k'] at h
 simp at h
 unfold ints at h
 rw [List.mem_map] at h
 obtain ⟨a,ha,e⟩:=h
 rw [<- e]
 exact ⟨by simpa using ha,by simp⟩
theorem fol1_sub {l o:List Nat} {x:Int} (ho:o ⊆ l) (hx:isK 2 x=true->(x / 2).toNat ∈ l):fol1 o x ⊆ l:=by
 unfold fol1
 split
 ·rename_i hk
  split
  ·exact ho
  ·intro a ha
   rw [List.mem_append,List.mem_singleton] at ha
   rcases ha with ha|rfl
   ·exact ho ha
   ·exact hx hk
 ·exact ho
theorem fol_sub {l:List Nat} (ws:List Int):∀ {o:List Nat},o ⊆ l->(∀ x,x ∈ ws->fitB l x=true)->fol o ws ⊆ l:=by
 induction ws with
 | nil=>intro o h _;exact h
 | cons x ws ih=>intro o h k;exact ih (fol1_sub h (fun q=>(fit_mem (k x (by simp)) q).1)) (fun y hy=>k y (by simp [hy]))
theorem fol1_has {o:List Nat} {x:Int} (k:isK 2 x=true):(x / 2).toNat ∈ fol1 o x:=by
 unfold fol1
 rw [if_pos k]
 split
 ·assumption
 ·simp
theorem fol_has (ws:List Int):∀ {o:List Nat} {x:Int},x ∈ ws->isK 2 x=true->(x / 2).toNat ∈ fol o ws:=by
 induction ws with
 | nil=>intro o x h;simp at h
 | cons y ws ih =>
  intro o x h k
  rw [List.mem_cons] at h
  rcases h with rfl|h
  ·exact (fol_pre ws (fol1 o x)).subset (fol1_has k)
  ·exact ih h k
theorem right_fields {h:Hp} {l:List Nat} (k:RightAt h l) {a:Nat} (ha:a ∈ l):∀ x,x ∈ flds h.words a->fitB l x=true:=by
 obtain ⟨_,_,_,_,_,_,_,q,_⟩:=k
 exact fld_mem.2 (q a ha)
theorem right_roots {h:Hp} {l:List Nat} (k:RightAt h l):∀ x,x ∈ h.roots->fitB l x=true:=by
 obtain ⟨_,_,_,_,_,_,q,_,_⟩:=k
 exact q
theorem tr_sub {h:Hp} {l:List Nat} (r:RightAt h l) (k:Nat):tr h.words h.roots k ⊆ l:=by
 induction k with
 | zero=>exact fol_sub _ (by simp) (right_roots r)
 | succ k ih =>
  rw [tr]
  split
  ·rename_i hk
   exact fol_sub _ ih (right_fields r (ih (by simp [hk])))
  ·exact ih
theorem tr_len {h:Hp} {l:List Nat} (r:RightAt h l) (k:Nat):(tr h.words h.roots k).length<=3200 :=
 Nat.le_trans ((tr_nodup _ _ k).length_le_of_subset (tr_sub r k)) r.1.short
theorem tr_far {W R:List Int} {i:Nat} (hi:i<(ordF W R).length) (h3:(ordF W R).length<=3200):i<(tr W R i).length:=by
 rcases Nat.lt_or_ge i (tr W R i).length with q|q
 ·exact q
 ·rw [tr_end (by omega) q] at hi
  omega
theorem pre_get {a b:List Nat} (h:a <+: b) {i:Nat} (hi:i<a.length):a.getD i 0=b.getD i 0:=by
 obtain ⟨t,rfl⟩:=h
 simp [List.getD_eq_getElem?_getD,List.getElem?_append_left hi]
theorem ord_sub {h:Hp} {l:List Nat} (r:RightAt h l):ordF h.words h.roots ⊆ l:=tr_sub r _
theorem ord_len {h:Hp} {l:List Nat} (r:RightAt h l):(ordF h.words h.roots).length<=3200:=tr_len r _
theorem ord_roots {W R:List Int} {x:Int} (hx:x ∈ R) (k:isK 2 x=true):(x / 2).toNat ∈ ordF W R :=
 (tr_ord (k:=0) (by omega)).subset (fol_has R hx k)
theorem ord_fields {h:Hp} {l:List Nat} (r:RightAt h l) {a:Nat} (ha:a ∈ ordF h.words h.roots) {x:Int} (hx:x ∈ flds h.words a) (k:isK 2 x=true):(x / 2).toNat ∈ ordF h.words h.roots:=by
 obtain ⟨i,hi,e⟩:=List.getElem_of_mem ha
 have h3:=ord_len r
 have hf:=tr_far hi h3
 have hp:=tr_ord (W:=h.words) (R:=h.roots) (k:=i) (by omega)
 have e2:(tr h.words h.roots i).getD i 0=a:=by rw [pre_get hp hf];simp [hi,e]
 refine (tr_ord (k:=i+1) (by omega)).subset ?_
 rw [tr_next _ _ _ hf,e2]
 exact fol_has _ hx k
theorem ren_pre {o F:List Nat} {x:Int} (h:o <+: F) (k:isK 2 x=true->(x / 2).toNat ∈ o):ren o x=ren F x:=by
 obtain ⟨t,rfl⟩:=h
 unfold ren
 split
 ·rename_i hk
  rw [List.idxOf_append,if_pos (k hk)]
 ·rfl
def ndOf (W:List Int) (F:List Nat) (a:Nat):Nd:=⟨gw W (a+1),gw W (a+2),(flds W a).map (ren F)⟩
def shG (W R:List Int) (F:List Nat) (H:Int):Gr:=⟨R.map (ren F),F.map (ndOf W F),H⟩
def shP (h:Hp):Gr:=shG h.words h.roots (ordF h.words h.roots) h.hash
def gr0:Gr:=⟨[],[],0⟩
noncomputable def shC (h:Hp):Gr:=if okC h=true then shP h else gr0
def wordG (n:Nat) (x:Int):Bool:=if x % 2=0 then wokB x else decide (0<x/\x / 2<n)
theorem gd_in {l:List Int} {i:Nat} (h:i<l.length):l.getD i 0=l[i]:=by simp [List.getD_eq_getElem?_getD,h]
theorem ren_word {F l:List Nat} {x:Int} (hf:fitB l x=true) (hm:isK 2 x=true->(x / 2).toNat ∈ F):wordG F.length (ren F x)=true:=by
 unfold wordG ren
 by_cases k:isK 2 x=true
 ·rw [if_pos k]
  have:=List.idxOf_lt_length_of_mem (hm k)
  rw [if_neg (by omega)]
  exact decide_eq_true (by omega)
 ·rw [if_neg k]
  have k1:kindW x=1:=by
   unfold fitB at hf
   unfold isK at k
   simp only [Bool.or_eq_true,decide_eq_true_eq,Bool.and_eq_true] at hf k
   rcases hf with q|q
   ·exact q
   ·exact absurd q.1 k
  have e:x % 2=0:=by
   unfold kindW at k1
   split at k1
   ·split at k1 <;> omega
   ·omega
  rw [if_pos e]
  unfold wokB
  rw [k1]
  rfl
end Go.Proofs.YtgnbibinclepcaaGreatDoor
/- A text that is written byte by byte into a row that '[]byte(s)' made: rows told by their cells. And what is known of the numbers of a right heap's shape. -/
namespace Go.Proofs.YtgnbibinclepcaaGreatDoor
open Go.RowKit
def cellsB (l:List UInt8):List Value:=l.map fun x=>.int .u8 (x.toNat:Int)
theorem cellsB_len (l:List UInt8):(cellsB l).length=l.length:=by simp [cellsB]
theorem cellsB_app (l m:List UInt8):cellsB (l ++ m)=cellsB l ++ cellsB m:=by simp [cellsB]
theorem cellsB_one (l:List UInt8):∀ u ∈ cellsB l,u.oneCell' = true:=by
 intro u hu
 obtain ⟨b,_,rfl⟩:=List.mem_map.1 hu
 rfl
theorem cellsB_str (s:ByteArray):Lib.strCells s=cellsB s.data.toList:=rfl
structure TB (B:Nat) (w:World) (g cap:Nat) (l:List UInt8):Prop where
 lo:B<=g
 lt:g<w.heap.size
 le:l.length<=cap
 mx:cap<=maxLen
 ok:∀ i,i<cap->(w.cell? ⟨g,i,none⟩).isSome=true/\w.frozen? ⟨g,i,none⟩=false
 at_:∀ i u,(cellsB l)[i]?=some u->w.cell? ⟨g,i,none⟩=some u
theorem TB.of {B g cap:Nat} {w w' : World} {l:List UInt8} (h:TB B w g cap l) (hs:w.heap.size<=w'.heap.size) (q:w'.heap[g]?=w.heap[g]?):TB B w' g cap l:=by
 obtain ⟨h1,h2,h3,h4,h5,h6⟩:=h
 refine ⟨h1,by omega,h3,h4,fun i hi=>?_,fun i u hu=>?_⟩
 ·rw [World.cell?_of_block (w:=w) (a:=⟨g,i,none⟩) q,World.frozen?_of_block (w:=w) (a:=⟨g,i,none⟩) q]
  exact h5 i hi
 ·rw [World.cell?_of_block (w:=w) (a:=⟨g,i,none⟩) q]
  exact h6 i u hu
theorem TB.later {B g cap:Nat} {w w' : World} {l:List UInt8} (h:TB B w g cap l) (hb:Below w.heap.size w w'):TB B w' g cap l :=
 h.of hb.size (hb.block g h.lt)
theorem TB.of_own {B g cap n:Nat} {w:World} {l:List UInt8} (h:w.ownsRow B 5 1 (.slice (some ⟨g,0,none⟩) n cap) n (cellsB l)) (hn:n=l.length) (h0:0<n):TB B w g cap l:=by
 subst hn
 have hc:=h
 rcases h.2 with ⟨_,e⟩|⟨g',cap',cur,e,hB,hh,hle,hm,hz,ht⟩
 ·omega
 ·injection e with q1 q2 q3
  injection q1 with q1
  injection q1 with q1
  subst q1 q3
  have hlt:g<w.heap.size:=(Array.getElem?_eq_some_iff.1 hh).1
  refine ⟨hB,hlt,hle,hm,fun i hi=>⟨?_,hc.frozenAt i⟩,fun i u hu=>?_⟩
  ·rw [Nat.mul_one] at hz
   simp [World.cell?,hh,hz,hi]
  ·have hi:i<l.length:=by
    have:=(List.getElem?_eq_some_iff.1 hu).1
    rwa [cellsB_len] at this
   rw [hc.cellAt i (by omega)]
   exact hu
theorem setCells_os (b:Nat):∀ (vs:List Value) (o:Nat) (w:World),(w.setCells b o vs).os=w.os/\(w.setCells b o vs).tape=w.tape/\(w.setCells b o vs).output=w.output/\(w.setCells b o vs).heap.size=w.heap.size/\∀ k,k ≠ b->(w.setCells b o vs).heap[k]?=w.heap[k]?
 | [],_,_=>⟨rfl,rfl,rfl,rfl,fun _ _=>rfl⟩
 | v::r,o,w=>by
  obtain ⟨h1,h2,h3,h4,h5⟩:=setCells_os b r (o+1) (w.setCell ⟨b,o,none⟩ v)
  refine ⟨h1,h2,h3,h4.trans (by simp [World.setCell]),fun k hk=>(h5 k hk).trans (Below.heap_setCell _ _ _ _ hk)⟩
theorem infoTB:(Tryz.prog.info? 5).map (fun i=>(i.zero,i.size,i.bytes))=some (some (.int .u8 0),1,1):=by kernel_rfl
theorem underTB:Tryz.prog.underlying 22=some (.slice 5):=by kernel_rfl
theorem under9:Tryz.prog.underlying 9=some .string:=by kernel_rfl
theorem TB.room {B g cap:Nat} {w:World} {l m:List UInt8} (h:TB B w g cap l) (hr:l.length+m.length<=cap) :
  (∀ j,j<(cellsB m).length->(w.cell? ⟨g,l.length+j,none⟩).isSome=true)/\(∀ j,j<(cellsB m).length->w.frozen? ⟨g,l.length+j,none⟩=false) ∧
  TB B (w.setCells g l.length (cellsB m)) g cap (l ++ m)/\w.grownBy (w.setCells g l.length (cellsB m)) (some g):=by
 obtain ⟨h1,h2,h3,h4,h5,h6⟩:=h
 obtain ⟨s1,s2,s3,s4,s5⟩:=setCells_os g (cellsB m) l.length w
 have c1:∀ j,j<(cellsB m).length->(w.cell? ⟨g,l.length+j,none⟩).isSome=true:=fun j hj=>(h5 _ (by rw [cellsB_len] at hj;omega)).1
 refine ⟨c1,fun j hj=>(h5 _ (by rw [cellsB_len] at hj;omega)).2,⟨h1,by omega,by rw [List.length_append];omega,h4,fun i hi=>?_,fun i u hu=>?_⟩,⟨s1,s2,s3,by omega,fun k _ hk=>s5 k (fun e=>hk (by rw [e]))⟩⟩
 ·rw [World.frozen?_setCells]
  refine ⟨?_,(h5 i hi).2⟩
  rcases Nat.lt_or_ge i l.length with q|q
  ·rw [World.cell?_setCells_out g _ _ _ _ (fun _ _=>.inl q)]
   exact (h5 i hi).1
  ·rcases Nat.lt_or_ge i (l.length+(cellsB m).length) with k|k
   ·obtain ⟨j,rfl⟩:∃ j,i=l.length+j:=⟨i - l.length,by omega⟩
    rw [World.cell?_setCells_in g _ _ _ c1 j (by omega)]
    rfl
   ·rw [World.cell?_setCells_out g _ _ _ _ (fun _ _=>.inr k)]
    exact (h5 i hi).1
 ·rw [cellsB_app] at hu
  rcases Nat.lt_or_ge i l.length with q|q
  ·rw [World.cell?_setCells_out g _ _ _ _ (fun _ _=>.inl q)]
   rw [List.getElem?_append_left (by rw [cellsB_len];exact q)] at hu
   exact h6 i u hu
  ·obtain ⟨j,rfl⟩:∃ j,i=l.length+j:=⟨i - l.length,by omega⟩
   rw [List.getElem?_append_right (by rw [cellsB_len];omega),cellsB_len] at hu
   have e2:l.length+j - l.length=j:=by omega
   rw [e2] at hu
   obtain ⟨hj,rfl⟩:=List.getElem?_eq_some_iff.1 hu
   exact World.cell?_setCells_in g _ _ _ c1 j hj
theorem TB.str {B g cap:Nat} {w:World} {l:List UInt8} (h:TB B w g cap l) (hB:B<=w.heap.size) (s:ByteArray) (hl:l.length+s.size<=1000000000) (ty:TypeId) :
  ∃ g' cap' w',(Builtin.append_ #[22,9] ty #[.slice (some ⟨g,0,none⟩) l.length cap,.string s]).run Tryz.prog w=.ok (.slice (some ⟨g',0,none⟩) (l.length+s.size) cap') w' /\ TB B w' g' cap' (l ++ s.data.toList)/\w.grownBy w' (some g)/\(g' = g ∨ w.heap.size<=g'):=by
 obtain ⟨i,hi,hzz⟩:=Option.map_eq_some_iff.1 infoTB
 simp only [Prod.mk.injEq] at hzz
 obtain ⟨hz,hsz,hby⟩:=hzz
 obtain ⟨h1,h2,h3,h4,h5,h6⟩:=id h
 have hsl:s.data.toList.length=s.size:=by simp
 by_cases hr:l.length+s.size<=cap
 ·obtain ⟨c1,c2,c3,c4⟩:=h.room (m:=s.data.toList) (by omega)
  refine ⟨_,_,_,?_,c3,c4,.inl rfl⟩
  have hf:=Lib.run_firstCells_string (P:=Tryz.prog) w 1 s
  have hst:=run_storeCells_cells (P:=Tryz.prog) g l.length (cellsB s.data.toList) 0 w (by simpa using c1) (by simpa using c2) (cellsB_one _)
  rw [cellsB_str] at hf
  simp only [Nat.add_zero] at hst
  simp [Builtin.append_,run_underlying underTB,run_underlying under9,sizeOf,typeInfo,hi,hsz,Builtin.lenOf,hr,hf,Addr.add_lit,hst]
 ·have hrun:=Lib.run_append_grow_string (P:=Tryz.prog) w 22 9 ty 5 i (.int .u8 0) underTB under9 hi hz ⟨g,0,none⟩ l.length cap (cellsB l) (by rw [hsz,cellsB_len,Nat.mul_one]) (fun j u hu=>by rw [Addr.add_lit,Nat.zero_add];exact h6 j u hu) s (by omega) (by omega) (by rw [hby];exact growslice_fits (by omega) (by omega))
  have hge:=grownCap_ge w (l.length+s.size) cap 5
  have hcm:=grownCap_le_maxLen w (l.length+s.size) cap 5 (by unfold maxLen;omega)
  refine ⟨_,_,_,hrun,TB.of_own (n:=l.length+s.size) ⟨?_,.inr ⟨w.heap.size,_,_,rfl,hB,heap_alloc_new w.drew _,hge,hcm,?_,?_⟩⟩ (by rw [List.length_append,hsl]) (by omega),⟨rfl,rfl,rfl,by simp,fun k hk _=>heap_alloc_old w.drew _ hk⟩,.inr (Nat.le_refl _)⟩
  ·rw [cellsB_len,List.length_append,hsl,Nat.mul_one]
  ·have hz1:(Value.int IntKind.u8 0).cells.size=1:=rfl
   simp only [Array.size_append,List.size_toArray,size_zeroCells,hz1,cellsB_len,cellsB_str,hsl]
   omega
  ·simp only [Array.toList_append,cellsB_str]
   have e:(cellsB l ++ cellsB s.data.toList).length=(l.length+s.size) * 1:=by rw [List.length_append,cellsB_len,cellsB_len,hsl,Nat.mul_one]
   rw [<- e,cellsB_app]
   exact List.take_left
theorem TB.byte {B g cap:Nat} {w:World} {l:List UInt8} (h:TB B w g cap l) (_hB:B<=w.heap.size) (a:Nat) (c:Nat) (x:UInt8) (hx:w.cell? ⟨a,0,none⟩=some (.int .u8 (x.toNat:Int))) (hl:l.length<=1000000000) (ty:TypeId) :
  ∃ g' cap' w',(Builtin.append_ #[22,22] ty #[.slice (some ⟨g,0,none⟩) l.length cap,.slice (some ⟨a,0,none⟩) 1 c]).run Tryz.prog w=.ok (.slice (some ⟨g',0,none⟩) (l.length+1) cap') w' /\ TB B w' g' cap' (l ++ [x])/\w.grownBy w' (some g)/\(g' = g ∨ w.heap.size<=g'):=by
 obtain ⟨i,hi,hzz⟩:=Option.map_eq_some_iff.1 infoTB
 simp only [Prod.mk.injEq] at hzz
 obtain ⟨hz,hsz,hby⟩:=hzz
 obtain ⟨h1,h2,h3,h4,h5,h6⟩:=id h
 have hnews:∀ j u,(cellsB [x])[j]?=some u->w.cell? ((⟨a,0,none⟩:Addr).add j)=some u:=fun j u hu=>by
  match j,hu with
  | 0,hu=>simp [cellsB] at hu;subst hu;simpa [Addr.add] using hx
  | (j+1),hu=>simp [cellsB] at hu
 by_cases hr:l.length+1<=cap
 ·obtain ⟨c1,c2,c3,c4⟩:=h.room (m:=[x]) hr
  refine ⟨_,_,_,?_,c3,c4,.inl rfl⟩
  have:=run_append_room_cells (P:=Tryz.prog) w 22 ty 5 i underTB hi g 0 l.length cap ⟨a,0,none⟩ 1 c (cellsB [x]) (by rw [hsz];rfl) hnews (cellsB_one _) hr (by rw [hsz,Nat.mul_one,Nat.zero_add];exact c1) (by rw [hsz,Nat.mul_one,Nat.zero_add];exact c2)
  rw [hsz,Nat.mul_one,Nat.zero_add] at this
  exact this
 ·obtain ⟨v',w',hrun,ow,gr⟩:=run_append_arg_grows (P:=Tryz.prog) w 22 ty 5 i (.int .u8 0) 1 1 underTB hi hz hsz hby rfl (by omega) ⟨g,0,none⟩ l.length cap (cellsB l) (by rw [cellsB_len,Nat.mul_one]) (fun j u hu=>by rw [Addr.add_lit,Nat.zero_add];exact h6 j u hu) ⟨a,0,none⟩ 1 c (cellsB [x]) rfl hnews (by omega) (by unfold maxLen;omega) (by omega)
  have ow2:w'.ownsRow w.heap.size 5 1 v' (l.length+1) (cellsB (l ++ [x])):=by rw [cellsB_app];exact ow
  rcases ow2.2 with ⟨_,e⟩|⟨g',cap',cur,rfl,hB',rr⟩
  ·omega
  ·exact ⟨g',cap',w',hrun,TB.of_own ⟨ow2.1,.inr ⟨g',cap',cur,rfl,by omega,rr⟩⟩ (by simp) (by omega),⟨gr.os,gr.tape,gr.output,gr.size,fun k hk _=>gr.block k hk (by simp)⟩,.inr hB'⟩
theorem conv_TB (w:World) (s:ByteArray):(convert 9 22 (.string s)).run Tryz.prog w=.ok (.slice (some ⟨w.heap.size,0,none⟩) s.size (grownCap w s.size 0 5))
   (w.drew.alloc (.cells (bytesRow s (grownCap w s.size 0 5)) 5 ((bytesRow s (grownCap w s.size 0 5)).size,(bytesRow s (grownCap w s.size 0 5)).size+1))) :=
 run_bytes_of_string w 9 22 5 s (by kernel_rfl) (by kernel_rfl) (by kernel_rfl)
theorem TB.conv (w:World) (s:ByteArray) (C:Nat) (hC:s.size<=C) (hm:C<=maxLen):TB w.heap.size (w.drew.alloc (.cells (bytesRow s C) 5 ((bytesRow s C).size,(bytesRow s C).size+1))) w.heap.size C s.data.toList:=by
 have hz:s.data.toList.length=s.size:=by simp
 have hbr:(bytesRow s C).size=C:=by
  unfold bytesRow
  rw [Array.size_append,Array.size_map,Array.size_replicate]
  have:s.data.size=s.size:=rfl
  omega
 have hw:w.drew.heap.size=w.heap.size:=rfl
 refine ⟨Nat.le_refl _,by simp,by omega,hm,fun i hi=>⟨?_,?_⟩,fun i u hu=>?_⟩
 ·rw [<- hw,World.cell?_alloc_mark]
  simp [hbr,hi]
 ·rw [<- hw,World.frozen?_alloc_mark]
  simp [hbr]
  omega
 ·obtain ⟨hi,rfl⟩:=List.getElem?_eq_some_iff.1 hu
  rw [cellsB_len,hz] at hi
  have hi2:i<s.data.size:=hi
  rw [<- hw,World.cell?_alloc_mark,bytesRow_at s C i hi2]
  simp [cellsB]
theorem TB.text {B g cap:Nat} {w:World} {l:List UInt8} (h:TB B w g cap l):(convert 22 9 (.slice (some ⟨g,0,none⟩) l.length cap)).run Tryz.prog w=.ok (.string ⟨l.toArray⟩) w:=by
 refine run_convert_bytes_back w 22 9 5 ⟨g,0,none⟩ cap l (by kernel_rfl) (by kernel_rfl) (by kernel_rfl) fun j hj=>?_
 rw [Addr.add_lit,Nat.zero_add]
 exact h.at_ j _ (by simp [cellsB,hj])
theorem exec_appTB {o:Oper} {a:Act} {w w' : World} {u:Value} (t1 t2:TypeId) (s x:Operand) (ho:o.op=.call { callee:=.builtin .append,args:=#[s,x],argTypes:=#[t1,t2] }) (v y:Value) (hs:a.eval s=v) (hx:a.eval x=y)
  (hr:(Builtin.append_ #[t1,t2] o.type #[v,y]).run Tryz.prog w=.ok u w'):(execOp a.eval o).run Tryz.prog w=.ok (.value u) w':=by
 unfold execOp
 simp only [ho,resolve,invoke,builtin,Sem.run_bind,Sem.run_pure,Result.andThen_ok,List.map_toArray,List.map_cons,List.map_nil,hs,hx,hr]
theorem app_tbs {ops:Array Oper} {rest:List Oper} {o:Oper} {a:Act} {Q:Exit->Act->World->Prop} (w:World) (hgd:o.guard=none) (s x:Operand)
  (ho:o.op=.call { callee:=.builtin .append,args:=#[s,x],argTypes:=#[22,9] }) (B g cap n:Nat) (l:List UInt8) (hs:a.eval s=.slice (some ⟨g,0,none⟩) n cap) (hnl:n=l.length) (hown:TB B w g cap l)
  (z:ByteArray) (hx:a.eval x=.string z) (hn:l.length+z.size<=1000000000) (hB:B<=w.heap.size)
  (h:∀ g' cap' w',TB B w' g' cap' (l ++ z.data.toList)->w.grownBy w' (some g)->(g' = g ∨ w.heap.size<=g')->wpList Tryz.prog ops Q rest (a.put o.dst (.slice (some ⟨g',0,none⟩) (n+z.size) cap')) w'):wpList Tryz.prog ops Q (o::rest) a w:=by
 subst hnl
 obtain ⟨g',cap',w',hr,h1,h2,h3⟩:=hown.str hB z hn o.type
 refine wpList_plain hgd fun K hK=>?_
 have:=exec_appTB 22 9 s x ho _ _ hs hx hr
 unfold Oper.wp
 rw [this]
 exact hK _ _ (h g' cap' w' h1 h2 h3)
theorem app_tbb {ops:Array Oper} {rest:List Oper} {o:Oper} {a:Act} {Q:Exit->Act->World->Prop} (w:World) (hgd:o.guard=none) (s x:Operand)
  (ho:o.op=.call { callee:=.builtin .append,args:=#[s,x],argTypes:=#[22,22] }) (B g cap n:Nat) (l:List UInt8) (hs:a.eval s=.slice (some ⟨g,0,none⟩) n cap) (hnl:n=l.length) (hown:TB B w g cap l)
  (b c:Nat) (y:UInt8) (hx:a.eval x=.slice (some ⟨b,0,none⟩) 1 c) (hc:w.cell? ⟨b,0,none⟩=some (.int .u8 (y.toNat:Int))) (hn:l.length<=1000000000) (hB:B<=w.heap.size)
  (h:∀ g' cap' w',TB B w' g' cap' (l ++ [y])->w.grownBy w' (some g)->(g' = g ∨ w.heap.size<=g')->wpList Tryz.prog ops Q rest (a.put o.dst (.slice (some ⟨g',0,none⟩) (n+1) cap')) w'):wpList Tryz.prog ops Q (o::rest) a w:=by
 subst hnl
 obtain ⟨g',cap',w',hr,h1,h2,h3⟩:=hown.byte hB b c y hc hn o.type
 refine wpList_plain hgd fun K hK=>?_
 have:=exec_appTB 22 22 s x ho _ _ hs hx hr
 unfold Oper.wp
 rw [this]
 exact hK _ _ (h g' cap' w' h1 h2 h3)
/-! The numbers of a right heap's shape. -/
theorem wordG_64 {n:Nat} {x:Int} (h:wordG n x=true) (hn:n<=1000000):g64 x:=by
 unfold wordG at h
 unfold g64
 split at h
 ·next e =>
  unfold wokB kindW numB at h
  rw [if_neg (by omega)] at h
  split at h
  ·next k =>
   simp only [decide_eq_true_eq] at k
   omega
  ·simp at h
 ·simp only [decide_eq_true_eq] at h
  omega
theorem shape_nodes {h:Hp} {l:List Nat} (r:RightAt h l):(shP h).nodes.length<=3200/\∀ n,n ∈ (shP h).nodes->nd64 n/\n.fl.length<=60:=by
 have a0:=ord_len r
 have a1:=ord_sub r
 have a3:∀ a,a ∈ ordF h.words h.roots->∀ x,x ∈ flds h.words a->isK 2 x=true->(x / 2).toNat ∈ ordF h.words h.roots:=fun a ha x hx k=>ord_fields r ha hx k
 unfold shP
 generalize ordF h.words h.roots=F at *
 show (F.map (ndOf h.words F)).length<=3200/\∀ n,n ∈ F.map (ndOf h.words F)->_
 refine ⟨by rw [List.length_map];exact a0,fun n hnn=>?_⟩
 obtain ⟨q1,q2,q3,q4,q5,q6,q7,q8,q9⟩:=id r
 obtain ⟨a,ha,rfl⟩:=List.mem_map.1 hnn
 have hal:=a1 ha
 obtain ⟨_,_,hd⟩:=q1.obj hal
 have hz:=size_of hd
 unfold headB at hd
 simp only [Bool.and_eq_true,decide_eq_true_eq] at hd
 have hh1:=q4 a hal
 have hh2:=q5.1 a hal
 refine ⟨⟨?_,?_,?_⟩,?_⟩
 ·show g64 (gw h.words (a+1))
  unfold g64
  have:=hd.2.1
  omega
 ·show g64 (gw h.words (a+2))
  unfold g64
  omega
 ·intro x hx
  obtain ⟨y,hy,rfl⟩:=List.mem_map.1 (show x ∈ (flds h.words a).map (ren F) from hx)
  exact wordG_64 (ren_word (right_fields r hal y hy) (fun k=>a3 a ha y hy k)) (by omega)
 ·show ((flds h.words a).map (ren F)).length<=60
  rw [List.length_map,flds_length]
  omega
end Go.Proofs.YtgnbibinclepcaaGreatDoor
/- A region of a function, taken out of it. -/
namespace Go.Proofs.YtgnbibinclepcaaGreatDoor
open Go.RowKit
def regQ (n:Nat):Code->Option Code
 | .region i ops d=>if i=n then some (.region i ops d) else none
 | .seq a b=>match regQ n a with
  | some c=>some c
  | none=>regQ n b
 | .block _ c=>regQ n c
 | .scope c=>regQ n c
 | .loop c=>regQ n c
 | .cond _ a b=>match regQ n a with
  | some c=>some c
  | none=>regQ n b
 | _=>none
end Go.Proofs.YtgnbibinclepcaaGreatDoor
/- A region of imageText: the two first lines, in any order. -/
namespace Go.Proofs.YtgnbibinclepcaaGreatDoor
open Go.RowKit
theorem ir3 (w:World) (a b c:Int):IR (w.alloc (.cells #[.int .i64 a,.int .i64 b,.int .i64 c] 2)) (.slice (some ⟨w.heap.size,0,none⟩) 3 3) [a,b,c]:=⟨_,3,rfl,Nat.le_refl _,fun i hi=>by
 match i,hi with
 | 0,_=>exact ⟨_,0,rfl,cell_new _ _ 2 _ (by simp) 0 _ rfl⟩
 | 1,_=>exact ⟨_,0,rfl,cell_new _ _ 2 _ (by simp) 1 _ rfl⟩
 | 2,_=>exact ⟨_,0,rfl,cell_new _ _ 2 _ (by simp) 2 _ rfl⟩⟩
theorem ir1 (w:World) (a:Int):IR (w.alloc (.cells #[.int .i64 a] 2)) (.slice (some ⟨w.heap.size,0,none⟩) 1 1) [a]:=⟨_,1,rfl,Nat.le_refl _,fun i hi=>by
 match i,hi with
 | 0,_=>exact ⟨_,0,rfl,cell_new _ _ 2 _ (by simp) 0 _ rfl⟩⟩
noncomputable def rgT2:Code:=((Tryz.f36.body.bind (regQ 2)).getD .skip)
set_option maxRecDepth 1000000 in
set_option maxHeartbeats 12800000 in
theorem regT2 {w4:World} {vb gb oc:Nat} {oa:Option Addr} {m:Mp} {g:Gr} (CX:∀ W,Below w4.heap.size w4 W->W.cell? ⟨vb,9,none⟩=some (.int .i64 m.pc)/\W.cell? ⟨vb,11,none⟩=some (.int .i64 m.st)/\W.cell? ⟨vb,10,none⟩=some (.slice oa m.out.length oc)/\W.cell? ⟨gb,2,none⟩=some (.int .i64 g.hash))
  (io:IR w4 (.slice oa m.out.length oc) m.out) (ht:GTb w4) (hl:m.out.length<=300) (h3:∀ x,x ∈ [m.pc,m.st,g.hash]->g64 x) (hol2:∀ x,x ∈ [(m.out.length:Int)] ++ m.out->g64 x) {Q:Exit->Act->World->Prop} (u0 u2 u4 u5 u6 u7 u8 u9 Bd Bf Bb Bc Ba Be Ce Cf Cg Ch Ci Cj Ck Cl Cm Cn Co Cq Bi Bj Bl Bn Bo Bp Bq Br Bs Bt Bu Bw Bz Ca Cb Cc:Value)
  (hQ:∀ (W:World) (lb:Nat) (a10 a11 a12 a13 a14 a15 a16 a17 a18 a19 a20 a21 a22 a23 a24 a25 a26 a27:Value),Below w4.heap.size w4 W->W.ownsRow w4.heap.size 9 1 (.slice (some ⟨lb,0,none⟩) 2 2) 2 [.string (textB [m.pc,m.st,g.hash]),.string (textB ([(m.out.length:Int)] ++ m.out))]->Q .normal ⟨List.toArray (u0::.pointer (some ⟨vb,0,none⟩)::u2::.pointer (some ⟨gb,0,none⟩)::.slice (some ⟨lb,0,none⟩) 2 2::u5::u6::u7::u8::u9::a10::a11::a12::a13::a14::a15::a16::a17::a18::a19::a20::a21::a22::a23::a24::a25::a26::a27::Bi::Bj::Bl::Bn::Bo::Bp::Bq::Br::Bs::Bt::Bu::Bw::Bz::Ca::Cb::Cc::[]),[]⟩ W) :
  Code.wp Tryz.prog rgT2 Q ⟨List.toArray (u0::.pointer (some ⟨vb,0,none⟩)::u2::.pointer (some ⟨gb,0,none⟩)::u4::u5::u6::u7::u8::u9::Bd::Bf::Bb::Bc::Ba::Be::Ce::Cf::Cg::Ch::Ci::Cj::Ck::Cl::Cm::Cn::Co::Cq::Bi::Bj::Bl::Bn::Bo::Bp::Bq::Br::Bs::Bt::Bu::Bw::Bz::Ca::Cb::Cc::[]),[]⟩ w4:=by
 conv=>arg 2;whnf
 have hmx:Tryz.prog.follows .mixedOrders=true:=by kernel_rfl
 have hs0:Below w4.heap.size w4 w4.drew:=(Below.refl _ _).drew
 refine Disk.z_plain 99 (fun W'=>Below w4.heap.size w4 W') hmx hs0 (fun hs=>?_)
 clear hs0
 generalize w4.drew=wd at hs ⊢
 refine Disk.zt 0 10 (v:=.pointer (some ⟨vb,9,none⟩)) rfl rfl hs (fun W' hSw=>(by
  obtain ⟨q0,q1,q2,q3⟩:=CX _ hSw
  go_simp;first|done|with_reducible rfl)) ?_
 simp only [zA,zB,zC]
 refine Disk.zt 1 11 (v:=.int .i64 m.pc) rfl rfl hs (fun W' hSw=>(by
  obtain ⟨q0,q1,q2,q3⟩:=CX _ hSw
  go_simp;first|done|with_reducible rfl)) ?_
 simp only [zA,zB,zC]
 refine Disk.zt 2 12 (v:=.pointer (some ⟨vb,11,none⟩)) rfl rfl hs (fun W' hSw=>(by
  obtain ⟨q0,q1,q2,q3⟩:=CX _ hSw
  go_simp;first|done|with_reducible rfl)) ?_
 simp only [zA,zB,zC]
 refine Disk.zt 3 13 (v:=.int .i64 m.st) rfl rfl hs (fun W' hSw=>(by
  obtain ⟨q0,q1,q2,q3⟩:=CX _ hSw
  go_simp;first|done|with_reducible rfl)) ?_
 simp only [zA,zB,zC]
 refine Disk.zt 4 14 (v:=.pointer (some ⟨gb,2,none⟩)) rfl rfl hs (fun W' hSw=>(by
  obtain ⟨q0,q1,q2,q3⟩:=CX _ hSw
  go_simp;first|done|with_reducible rfl)) ?_
 simp only [zA,zB,zC]
 refine Disk.zt 5 15 (v:=.int .i64 g.hash) rfl rfl hs (fun W' hSw=>(by
  obtain ⟨q0,q1,q2,q3⟩:=CX _ hSw
  go_simp;first|done|with_reducible rfl)) ?_
 simp only [zA,zB,zC]
 refine Disk.zt 8 18 (v:=.pointer (some ⟨vb,10,none⟩)) rfl rfl hs (fun W' hSw=>(by
  obtain ⟨q0,q1,q2,q3⟩:=CX _ hSw
  go_simp;first|done|with_reducible rfl)) ?_
 simp only [zA,zB,zC]
 refine Disk.zt 9 19 (v:=.slice oa m.out.length oc) rfl rfl hs (fun W' hSw=>(by
  obtain ⟨q0,q1,q2,q3⟩:=CX _ hSw
  go_simp;first|done|with_reducible rfl)) ?_
 simp only [zA,zB,zC]
 refine Disk.zt 10 20 (v:=.int .i64 (m.out.length:Int)) rfl rfl hs (fun W' hSw=>(by
  obtain ⟨q0,q1,q2,q3⟩:=CX _ hSw
  go_simp;first|done|with_reducible rfl)) ?_
 simp only [zA,zB,zC]
 refine Disk.zt 12 22 (v:=.pointer (some ⟨vb,10,none⟩)) rfl rfl hs (fun W' hSw=>(by
  obtain ⟨q0,q1,q2,q3⟩:=CX _ hSw
  go_simp;first|done|with_reducible rfl)) ?_
 simp only [zA,zB,zC]
 refine Disk.zt 13 23 (v:=.slice oa m.out.length oc) rfl rfl hs (fun W' hSw=>(by
  obtain ⟨q0,q1,q2,q3⟩:=CX _ hSw
  go_simp;first|done|with_reducible rfl)) ?_
 simp only [zA,zB,zC]
 refine z_or (i:=6) (j:=11) (by kernel_rfl) ?_ ?_
 ·obtain ⟨wn1,b1,ew,eb,hbt,F1⟩:∃ wm b1,wm=wd.alloc (.cells #[.int .i64 m.pc,.int .i64 m.st,.int .i64 g.hash] 2)/\b1=wd.heap.size/\Below wd.heap.size wd wm/\IR wm (.slice (some ⟨b1,0,none⟩) 3 3) [m.pc,m.st,g.hash]:=⟨_,_,rfl,rfl,bel_one _ _,ir3 _ _ _ _⟩
  have hs1:=bel_after hs hbt
  refine o_run 6 16 (v:=.slice (some ⟨b1,0,none⟩) 3 3) rfl rfl (by rfl) (w':=wn1) (by subst ew;subst eb;go_simp;first|done|with_reducible rfl) (.inr hs1) ?_
  simp only [zA,zB,zC]
  clear ew eb hs hbt
  refine z_or (i:=7) (j:=11) (by kernel_rfl) ?_ ?_
  ·refine o_call 7 17 rfl rfl (by rfl) (f:=77) (args:=#[.slice (some ⟨b1,0,none⟩) 3 3]) (w0:=wn1) (by go_simp;first|done|with_reducible rfl) ?_
   refine (joinNumbers_any _ _ wn1 F1 (by simp) h3 (ht.later hs1)).mono ?_
   rintro e wn2 ⟨rfl,hbt⟩
   have hs2:=bel_after hs1 hbt
   refine ⟨_,rfl,.inr hs2,?_⟩
   simp only [zA,zB,zC]
   clear F1
   clear hs1 hbt
   obtain ⟨wn3,b2,ew,eb,hbt,F2⟩:∃ wm b2,wm=wn2.alloc (.cells #[.int .i64 (m.out.length:Int)] 2)/\b2=wn2.heap.size/\Below wn2.heap.size wn2 wm/\IR wm (.slice (some ⟨b2,0,none⟩) 1 1) [(m.out.length:Int)]:=⟨_,_,rfl,rfl,bel_one _ _,ir1 _ _⟩
   have hs3:=bel_after hs2 hbt
   refine Disk.z_run 11 21 (v:=.slice (some ⟨b2,0,none⟩) 1 1) rfl rfl (by kernel_rfl) (by rfl) (w':=wn3) (by subst ew;subst eb;go_simp;first|done|with_reducible rfl) (.inr hs3) ?_
   simp only [zA,zB,zC]
   clear ew eb hs2 hbt
   obtain ⟨wn4,b3,ew,eb,hbt,f30,f31⟩:∃ wm b3,wm=wn3.alloc (.cells #[.slice (some ⟨b2,0,none⟩) 1 1,.slice oa m.out.length oc] 24)/\b3=wn3.heap.size/\Below wn3.heap.size wn3 wm/\wm.cell? ⟨b3,0,none⟩=some (.slice (some ⟨b2,0,none⟩) 1 1)/\wm.cell? ⟨b3,1,none⟩=some (.slice oa m.out.length oc):=⟨_,_,rfl,rfl,bel_one _ _,cell_new _ _ 24 _ (by simp) 0 _ rfl,cell_new _ _ 24 _ (by simp) 1 _ rfl⟩
   have hs4:=bel_after hs3 hbt
   refine Disk.z_run 14 24 (v:=.slice (some ⟨b3,0,none⟩) 2 2) rfl rfl (by kernel_rfl) (by rfl) (w':=wn4) (by subst ew;subst eb;go_simp;first|done|with_reducible rfl) (.inr hs4) ?_
   simp only [zA,zB,zC]
   replace F2:=F2.later hbt
   clear ew eb hs3 hbt
   refine Disk.z_call 15 25 rfl rfl (by kernel_rfl) (by rfl) (f:=78) (args:=#[.slice (some ⟨b3,0,none⟩) 2 2]) (w0:=wn4) (by go_simp;first|done|with_reducible rfl) ?_
   refine (concat_any b3 _ _ [(m.out.length:Int)] m.out wn4 f30 f31 F2 (io.later hs4) (by simp) (by simp;omega)).mono ?_
   rintro e wc ⟨⟨vc,rfl,hoc⟩,hbc⟩
   have hsc:=bel_after hs4 hbc
   have LE:([(m.out.length:Int)] ++ m.out).length=[(m.out.length:Int)].length+m.out.length:=List.length_append
   rw [<- LE] at hoc
   have irc:=IR_of_owns hoc
   clear hoc LE F2 f30 f31
   refine ⟨_,rfl,.inr hsc,?_⟩
   simp only [zA,zB,zC]
   refine Disk.z_call 16 26 rfl rfl (by kernel_rfl) (by rfl) (f:=77) (args:=#[vc]) (w0:=wc) (by go_simp;first|done|with_reducible rfl) ?_
   refine (joinNumbers_any _ _ wc irc (by simp;omega) hol2 (ht.later hsc)).mono ?_
   rintro e wj ⟨rfl,hbj⟩
   have hsj:=bel_after hsc hbj
   refine ⟨_,rfl,.inr hsj,?_⟩
   simp only [zA,zB,zC]
   obtain ⟨wl,lb,ew,eb,hbl,FL⟩:∃ wl lb,wl=wj.alloc (.cells #[.string (textB [m.pc,m.st,g.hash]),.string (textB ([(m.out.length:Int)] ++ m.out))] 9)/\lb=wj.heap.size/\Below wj.heap.size wj wl/\wl.ownsRow w4.heap.size 9 1 (.slice (some ⟨lb,0,none⟩) 2 2) 2 [.string (textB [m.pc,m.st,g.hash]),.string (textB ([(m.out.length:Int)] ++ m.out))]:=⟨_,_,rfl,rfl,bel_one _ _,rfl,.inr ⟨wj.heap.size,2,_,rfl,hsj.size,heap_alloc_new _ _,Nat.le_refl _,by unfold maxLen;omega,rfl,rfl⟩⟩
   have hsl:=bel_after hsj hbl
   refine Disk.z_run 17 27 (v:=.slice (some ⟨lb,0,none⟩) 2 2) rfl rfl (by kernel_rfl) (by rfl) (w':=wl) (by subst ew;subst eb;go_simp;first|done|with_reducible rfl) (.inr hsl) ?_
   simp only [zA,zB,zC]
   clear ew eb
   refine Disk.zt 18 4 (v:=.slice (some ⟨lb,0,none⟩) 2 2) rfl rfl hsl (fun W' hSw=>(by
    clear hSw
    go_simp;first|done|with_reducible rfl)) ?_
   simp only [zA,zB,zC]
   refine Disk.z_done (by kernel_rfl) ?_ _
   exact hQ wl lb _ _ _ _ _ _ _ _ _ _ _ _ _ _ _ _ _ _ hsl FL
  ·obtain ⟨wn5,b2,ew,eb,hbt,F2⟩:∃ wm b2,wm=wn1.alloc (.cells #[.int .i64 (m.out.length:Int)] 2)/\b2=wn1.heap.size/\Below wn1.heap.size wn1 wm/\IR wm (.slice (some ⟨b2,0,none⟩) 1 1) [(m.out.length:Int)]:=⟨_,_,rfl,rfl,bel_one _ _,ir1 _ _⟩
   have hs5:=bel_after hs1 hbt
   refine o_run 11 21 (v:=.slice (some ⟨b2,0,none⟩) 1 1) rfl rfl (by rfl) (w':=wn5) (by subst ew;subst eb;go_simp;first|done|with_reducible rfl) (.inr hs5) ?_
   simp only [zA,zB,zC]
   replace F1:=F1.later hbt
   clear ew eb hs1 hbt
   refine z_or (i:=7) (j:=14) (by kernel_rfl) ?_ ?_
   ·refine o_call 7 17 rfl rfl (by rfl) (f:=77) (args:=#[.slice (some ⟨b1,0,none⟩) 3 3]) (w0:=wn5) (by go_simp;first|done|with_reducible rfl) ?_
    refine (joinNumbers_any _ _ wn5 F1 (by simp) h3 (ht.later hs5)).mono ?_
    rintro e wn6 ⟨rfl,hbt⟩
    have hs6:=bel_after hs5 hbt
    refine ⟨_,rfl,.inr hs6,?_⟩
    simp only [zA,zB,zC]
    clear F1
    replace F2:=F2.later hbt
    clear hs5 hbt
    obtain ⟨wn7,b3,ew,eb,hbt,f30,f31⟩:∃ wm b3,wm=wn6.alloc (.cells #[.slice (some ⟨b2,0,none⟩) 1 1,.slice oa m.out.length oc] 24)/\b3=wn6.heap.size/\Below wn6.heap.size wn6 wm/\wm.cell? ⟨b3,0,none⟩=some (.slice (some ⟨b2,0,none⟩) 1 1)/\wm.cell? ⟨b3,1,none⟩=some (.slice oa m.out.length oc):=⟨_,_,rfl,rfl,bel_one _ _,cell_new _ _ 24 _ (by simp) 0 _ rfl,cell_new _ _ 24 _ (by simp) 1 _ rfl⟩
    have hs7:=bel_after hs6 hbt
    refine Disk.z_run 14 24 (v:=.slice (some ⟨b3,0,none⟩) 2 2) rfl rfl (by kernel_rfl) (by rfl) (w':=wn7) (by subst ew;subst eb;go_simp;first|done|with_reducible rfl) (.inr hs7) ?_
    simp only [zA,zB,zC]
    replace F2:=F2.later hbt
    clear ew eb hs6 hbt
    refine Disk.z_call 15 25 rfl rfl (by kernel_rfl) (by rfl) (f:=78) (args:=#[.slice (some ⟨b3,0,none⟩) 2 2]) (w0:=wn7) (by go_simp;first|done|with_reducible rfl) ?_
    refine (concat_any b3 _ _ [(m.out.length:Int)] m.out wn7 f30 f31 F2 (io.later hs7) (by simp) (by simp;omega)).mono ?_
    rintro e wc ⟨⟨vc,rfl,hoc⟩,hbc⟩
    have hsc:=bel_after hs7 hbc
    have LE:([(m.out.length:Int)] ++ m.out).length=[(m.out.length:Int)].length+m.out.length:=List.length_append
    rw [<- LE] at hoc
    have irc:=IR_of_owns hoc
    clear hoc LE F2 f30 f31
    refine ⟨_,rfl,.inr hsc,?_⟩
    simp only [zA,zB,zC]
    refine Disk.z_call 16 26 rfl rfl (by kernel_rfl) (by rfl) (f:=77) (args:=#[vc]) (w0:=wc) (by go_simp;first|done|with_reducible rfl) ?_
    refine (joinNumbers_any _ _ wc irc (by simp;omega) hol2 (ht.later hsc)).mono ?_
    rintro e wj ⟨rfl,hbj⟩
    have hsj:=bel_after hsc hbj
    refine ⟨_,rfl,.inr hsj,?_⟩
    simp only [zA,zB,zC]
    obtain ⟨wl,lb,ew,eb,hbl,FL⟩:∃ wl lb,wl=wj.alloc (.cells #[.string (textB [m.pc,m.st,g.hash]),.string (textB ([(m.out.length:Int)] ++ m.out))] 9)/\lb=wj.heap.size/\Below wj.heap.size wj wl/\wl.ownsRow w4.heap.size 9 1 (.slice (some ⟨lb,0,none⟩) 2 2) 2 [.string (textB [m.pc,m.st,g.hash]),.string (textB ([(m.out.length:Int)] ++ m.out))]:=⟨_,_,rfl,rfl,bel_one _ _,rfl,.inr ⟨wj.heap.size,2,_,rfl,hsj.size,heap_alloc_new _ _,Nat.le_refl _,by unfold maxLen;omega,rfl,rfl⟩⟩
    have hsl:=bel_after hsj hbl
    refine Disk.z_run 17 27 (v:=.slice (some ⟨lb,0,none⟩) 2 2) rfl rfl (by kernel_rfl) (by rfl) (w':=wl) (by subst ew;subst eb;go_simp;first|done|with_reducible rfl) (.inr hsl) ?_
    simp only [zA,zB,zC]
    clear ew eb
    refine Disk.zt 18 4 (v:=.slice (some ⟨lb,0,none⟩) 2 2) rfl rfl hsl (fun W' hSw=>(by
     clear hSw
     go_simp;first|done|with_reducible rfl)) ?_
    simp only [zA,zB,zC]
    refine Disk.z_done (by kernel_rfl) ?_ _
    exact hQ wl lb _ _ _ _ _ _ _ _ _ _ _ _ _ _ _ _ _ _ hsl FL
   ·obtain ⟨wn8,b3,ew,eb,hbt,f30,f31⟩:∃ wm b3,wm=wn5.alloc (.cells #[.slice (some ⟨b2,0,none⟩) 1 1,.slice oa m.out.length oc] 24)/\b3=wn5.heap.size/\Below wn5.heap.size wn5 wm/\wm.cell? ⟨b3,0,none⟩=some (.slice (some ⟨b2,0,none⟩) 1 1)/\wm.cell? ⟨b3,1,none⟩=some (.slice oa m.out.length oc):=⟨_,_,rfl,rfl,bel_one _ _,cell_new _ _ 24 _ (by simp) 0 _ rfl,cell_new _ _ 24 _ (by simp) 1 _ rfl⟩
    have hs8:=bel_after hs5 hbt
    refine o_run 14 24 (v:=.slice (some ⟨b3,0,none⟩) 2 2) rfl rfl (by rfl) (w':=wn8) (by subst ew;subst eb;go_simp;first|done|with_reducible rfl) (.inr hs8) ?_
    simp only [zA,zB,zC]
    replace F1:=F1.later hbt
    replace F2:=F2.later hbt
    clear ew eb hs5 hbt
    refine Disk.z_call 7 17 rfl rfl (by kernel_rfl) (by rfl) (f:=77) (args:=#[.slice (some ⟨b1,0,none⟩) 3 3]) (w0:=wn8) (by go_simp;first|done|with_reducible rfl) ?_
    refine (joinNumbers_any _ _ wn8 F1 (by simp) h3 (ht.later hs8)).mono ?_
    rintro e wn9 ⟨rfl,hbt⟩
    have hs9:=bel_after hs8 hbt
    refine ⟨_,rfl,.inr hs9,?_⟩
    simp only [zA,zB,zC]
    clear F1
    replace F2:=F2.later hbt
    replace f30:=cell_later hbt f30
    replace f31:=cell_later hbt f31
    clear hs8 hbt
    refine Disk.z_call 15 25 rfl rfl (by kernel_rfl) (by rfl) (f:=78) (args:=#[.slice (some ⟨b3,0,none⟩) 2 2]) (w0:=wn9) (by go_simp;first|done|with_reducible rfl) ?_
    refine (concat_any b3 _ _ [(m.out.length:Int)] m.out wn9 f30 f31 F2 (io.later hs9) (by simp) (by simp;omega)).mono ?_
    rintro e wc ⟨⟨vc,rfl,hoc⟩,hbc⟩
    have hsc:=bel_after hs9 hbc
    have LE:([(m.out.length:Int)] ++ m.out).length=[(m.out.length:Int)].length+m.out.length:=List.length_append
    rw [<- LE] at hoc
    have irc:=IR_of_owns hoc
    clear hoc LE F2 f30 f31
    refine ⟨_,rfl,.inr hsc,?_⟩
    simp only [zA,zB,zC]
    refine Disk.z_call 16 26 rfl rfl (by kernel_rfl) (by rfl) (f:=77) (args:=#[vc]) (w0:=wc) (by go_simp;first|done|with_reducible rfl) ?_
    refine (joinNumbers_any _ _ wc irc (by simp;omega) hol2 (ht.later hsc)).mono ?_
    rintro e wj ⟨rfl,hbj⟩
    have hsj:=bel_after hsc hbj
    refine ⟨_,rfl,.inr hsj,?_⟩
    simp only [zA,zB,zC]
    obtain ⟨wl,lb,ew,eb,hbl,FL⟩:∃ wl lb,wl=wj.alloc (.cells #[.string (textB [m.pc,m.st,g.hash]),.string (textB ([(m.out.length:Int)] ++ m.out))] 9)/\lb=wj.heap.size/\Below wj.heap.size wj wl/\wl.ownsRow w4.heap.size 9 1 (.slice (some ⟨lb,0,none⟩) 2 2) 2 [.string (textB [m.pc,m.st,g.hash]),.string (textB ([(m.out.length:Int)] ++ m.out))]:=⟨_,_,rfl,rfl,bel_one _ _,rfl,.inr ⟨wj.heap.size,2,_,rfl,hsj.size,heap_alloc_new _ _,Nat.le_refl _,by unfold maxLen;omega,rfl,rfl⟩⟩
    have hsl:=bel_after hsj hbl
    refine Disk.z_run 17 27 (v:=.slice (some ⟨lb,0,none⟩) 2 2) rfl rfl (by kernel_rfl) (by rfl) (w':=wl) (by subst ew;subst eb;go_simp;first|done|with_reducible rfl) (.inr hsl) ?_
    simp only [zA,zB,zC]
    clear ew eb
    refine Disk.zt 18 4 (v:=.slice (some ⟨lb,0,none⟩) 2 2) rfl rfl hsl (fun W' hSw=>(by
     clear hSw
     go_simp;first|done|with_reducible rfl)) ?_
    simp only [zA,zB,zC]
    refine Disk.z_done (by kernel_rfl) ?_ _
    exact hQ wl lb _ _ _ _ _ _ _ _ _ _ _ _ _ _ _ _ _ _ hsl FL
 ·obtain ⟨wn10,b2,ew,eb,hbt,F2⟩:∃ wm b2,wm=wd.alloc (.cells #[.int .i64 (m.out.length:Int)] 2)/\b2=wd.heap.size/\Below wd.heap.size wd wm/\IR wm (.slice (some ⟨b2,0,none⟩) 1 1) [(m.out.length:Int)]:=⟨_,_,rfl,rfl,bel_one _ _,ir1 _ _⟩
  have hs10:=bel_after hs hbt
  refine o_run 11 21 (v:=.slice (some ⟨b2,0,none⟩) 1 1) rfl rfl (by rfl) (w':=wn10) (by subst ew;subst eb;go_simp;first|done|with_reducible rfl) (.inr hs10) ?_
  simp only [zA,zB,zC]
  clear ew eb hs hbt
  refine z_or (i:=6) (j:=14) (by kernel_rfl) ?_ ?_
  ·obtain ⟨wn11,b1,ew,eb,hbt,F1⟩:∃ wm b1,wm=wn10.alloc (.cells #[.int .i64 m.pc,.int .i64 m.st,.int .i64 g.hash] 2)/\b1=wn10.heap.size/\Below wn10.heap.size wn10 wm/\IR wm (.slice (some ⟨b1,0,none⟩) 3 3) [m.pc,m.st,g.hash]:=⟨_,_,rfl,rfl,bel_one _ _,ir3 _ _ _ _⟩
   have hs11:=bel_after hs10 hbt
   refine o_run 6 16 (v:=.slice (some ⟨b1,0,none⟩) 3 3) rfl rfl (by rfl) (w':=wn11) (by subst ew;subst eb;go_simp;first|done|with_reducible rfl) (.inr hs11) ?_
   simp only [zA,zB,zC]
   replace F2:=F2.later hbt
   clear ew eb hs10 hbt
   refine z_or (i:=7) (j:=14) (by kernel_rfl) ?_ ?_
   ·refine o_call 7 17 rfl rfl (by rfl) (f:=77) (args:=#[.slice (some ⟨b1,0,none⟩) 3 3]) (w0:=wn11) (by go_simp;first|done|with_reducible rfl) ?_
    refine (joinNumbers_any _ _ wn11 F1 (by simp) h3 (ht.later hs11)).mono ?_
    rintro e wn12 ⟨rfl,hbt⟩
    have hs12:=bel_after hs11 hbt
    refine ⟨_,rfl,.inr hs12,?_⟩
    simp only [zA,zB,zC]
    clear F1
    replace F2:=F2.later hbt
    clear hs11 hbt
    obtain ⟨wn13,b3,ew,eb,hbt,f30,f31⟩:∃ wm b3,wm=wn12.alloc (.cells #[.slice (some ⟨b2,0,none⟩) 1 1,.slice oa m.out.length oc] 24)/\b3=wn12.heap.size/\Below wn12.heap.size wn12 wm/\wm.cell? ⟨b3,0,none⟩=some (.slice (some ⟨b2,0,none⟩) 1 1)/\wm.cell? ⟨b3,1,none⟩=some (.slice oa m.out.length oc):=⟨_,_,rfl,rfl,bel_one _ _,cell_new _ _ 24 _ (by simp) 0 _ rfl,cell_new _ _ 24 _ (by simp) 1 _ rfl⟩
    have hs13:=bel_after hs12 hbt
    refine Disk.z_run 14 24 (v:=.slice (some ⟨b3,0,none⟩) 2 2) rfl rfl (by kernel_rfl) (by rfl) (w':=wn13) (by subst ew;subst eb;go_simp;first|done|with_reducible rfl) (.inr hs13) ?_
    simp only [zA,zB,zC]
    replace F2:=F2.later hbt
    clear ew eb hs12 hbt
    refine Disk.z_call 15 25 rfl rfl (by kernel_rfl) (by rfl) (f:=78) (args:=#[.slice (some ⟨b3,0,none⟩) 2 2]) (w0:=wn13) (by go_simp;first|done|with_reducible rfl) ?_
    refine (concat_any b3 _ _ [(m.out.length:Int)] m.out wn13 f30 f31 F2 (io.later hs13) (by simp) (by simp;omega)).mono ?_
    rintro e wc ⟨⟨vc,rfl,hoc⟩,hbc⟩
    have hsc:=bel_after hs13 hbc
    have LE:([(m.out.length:Int)] ++ m.out).length=[(m.out.length:Int)].length+m.out.length:=List.length_append
    rw [<- LE] at hoc
    have irc:=IR_of_owns hoc
    clear hoc LE F2 f30 f31
    refine ⟨_,rfl,.inr hsc,?_⟩
    simp only [zA,zB,zC]
    refine Disk.z_call 16 26 rfl rfl (by kernel_rfl) (by rfl) (f:=77) (args:=#[vc]) (w0:=wc) (by go_simp;first|done|with_reducible rfl) ?_
    refine (joinNumbers_any _ _ wc irc (by simp;omega) hol2 (ht.later hsc)).mono ?_
    rintro e wj ⟨rfl,hbj⟩
    have hsj:=bel_after hsc hbj
    refine ⟨_,rfl,.inr hsj,?_⟩
    simp only [zA,zB,zC]
    obtain ⟨wl,lb,ew,eb,hbl,FL⟩:∃ wl lb,wl=wj.alloc (.cells #[.string (textB [m.pc,m.st,g.hash]),.string (textB ([(m.out.length:Int)] ++ m.out))] 9)/\lb=wj.heap.size/\Below wj.heap.size wj wl/\wl.ownsRow w4.heap.size 9 1 (.slice (some ⟨lb,0,none⟩) 2 2) 2 [.string (textB [m.pc,m.st,g.hash]),.string (textB ([(m.out.length:Int)] ++ m.out))]:=⟨_,_,rfl,rfl,bel_one _ _,rfl,.inr ⟨wj.heap.size,2,_,rfl,hsj.size,heap_alloc_new _ _,Nat.le_refl _,by unfold maxLen;omega,rfl,rfl⟩⟩
    have hsl:=bel_after hsj hbl
    refine Disk.z_run 17 27 (v:=.slice (some ⟨lb,0,none⟩) 2 2) rfl rfl (by kernel_rfl) (by rfl) (w':=wl) (by subst ew;subst eb;go_simp;first|done|with_reducible rfl) (.inr hsl) ?_
    simp only [zA,zB,zC]
    clear ew eb
    refine Disk.zt 18 4 (v:=.slice (some ⟨lb,0,none⟩) 2 2) rfl rfl hsl (fun W' hSw=>(by
     clear hSw
     go_simp;first|done|with_reducible rfl)) ?_
    simp only [zA,zB,zC]
    refine Disk.z_done (by kernel_rfl) ?_ _
    exact hQ wl lb _ _ _ _ _ _ _ _ _ _ _ _ _ _ _ _ _ _ hsl FL
   ·obtain ⟨wn14,b3,ew,eb,hbt,f30,f31⟩:∃ wm b3,wm=wn11.alloc (.cells #[.slice (some ⟨b2,0,none⟩) 1 1,.slice oa m.out.length oc] 24)/\b3=wn11.heap.size/\Below wn11.heap.size wn11 wm/\wm.cell? ⟨b3,0,none⟩=some (.slice (some ⟨b2,0,none⟩) 1 1)/\wm.cell? ⟨b3,1,none⟩=some (.slice oa m.out.length oc):=⟨_,_,rfl,rfl,bel_one _ _,cell_new _ _ 24 _ (by simp) 0 _ rfl,cell_new _ _ 24 _ (by simp) 1 _ rfl⟩
    have hs14:=bel_after hs11 hbt
    refine o_run 14 24 (v:=.slice (some ⟨b3,0,none⟩) 2 2) rfl rfl (by rfl) (w':=wn14) (by subst ew;subst eb;go_simp;first|done|with_reducible rfl) (.inr hs14) ?_
    simp only [zA,zB,zC]
    replace F1:=F1.later hbt
    replace F2:=F2.later hbt
    clear ew eb hs11 hbt
    refine Disk.z_call 7 17 rfl rfl (by kernel_rfl) (by rfl) (f:=77) (args:=#[.slice (some ⟨b1,0,none⟩) 3 3]) (w0:=wn14) (by go_simp;first|done|with_reducible rfl) ?_
    refine (joinNumbers_any _ _ wn14 F1 (by simp) h3 (ht.later hs14)).mono ?_
    rintro e wn15 ⟨rfl,hbt⟩
    have hs15:=bel_after hs14 hbt
    refine ⟨_,rfl,.inr hs15,?_⟩
    simp only [zA,zB,zC]
    clear F1
    replace F2:=F2.later hbt
    replace f30:=cell_later hbt f30
    replace f31:=cell_later hbt f31
    clear hs14 hbt
    refine Disk.z_call 15 25 rfl rfl (by kernel_rfl) (by rfl) (f:=78) (args:=#[.slice (some ⟨b3,0,none⟩) 2 2]) (w0:=wn15) (by go_simp;first|done|with_reducible rfl) ?_
    refine (concat_any b3 _ _ [(m.out.length:Int)] m.out wn15 f30 f31 F2 (io.later hs15) (by simp) (by simp;omega)).mono ?_
    rintro e wc ⟨⟨vc,rfl,hoc⟩,hbc⟩
    have hsc:=bel_after hs15 hbc
    have LE:([(m.out.length:Int)] ++ m.out).length=[(m.out.length:Int)].length+m.out.length:=List.length_append
    rw [<- LE] at hoc
    have irc:=IR_of_owns hoc
    clear hoc LE F2 f30 f31
    refine ⟨_,rfl,.inr hsc,?_⟩
    simp only [zA,zB,zC]
    refine Disk.z_call 16 26 rfl rfl (by kernel_rfl) (by rfl) (f:=77) (args:=#[vc]) (w0:=wc) (by go_simp;first|done|with_reducible rfl) ?_
    refine (joinNumbers_any _ _ wc irc (by simp;omega) hol2 (ht.later hsc)).mono ?_
    rintro e wj ⟨rfl,hbj⟩
    have hsj:=bel_after hsc hbj
    refine ⟨_,rfl,.inr hsj,?_⟩
    simp only [zA,zB,zC]
    obtain ⟨wl,lb,ew,eb,hbl,FL⟩:∃ wl lb,wl=wj.alloc (.cells #[.string (textB [m.pc,m.st,g.hash]),.string (textB ([(m.out.length:Int)] ++ m.out))] 9)/\lb=wj.heap.size/\Below wj.heap.size wj wl/\wl.ownsRow w4.heap.size 9 1 (.slice (some ⟨lb,0,none⟩) 2 2) 2 [.string (textB [m.pc,m.st,g.hash]),.string (textB ([(m.out.length:Int)] ++ m.out))]:=⟨_,_,rfl,rfl,bel_one _ _,rfl,.inr ⟨wj.heap.size,2,_,rfl,hsj.size,heap_alloc_new _ _,Nat.le_refl _,by unfold maxLen;omega,rfl,rfl⟩⟩
    have hsl:=bel_after hsj hbl
    refine Disk.z_run 17 27 (v:=.slice (some ⟨lb,0,none⟩) 2 2) rfl rfl (by kernel_rfl) (by rfl) (w':=wl) (by subst ew;subst eb;go_simp;first|done|with_reducible rfl) (.inr hsl) ?_
    simp only [zA,zB,zC]
    clear ew eb
    refine Disk.zt 18 4 (v:=.slice (some ⟨lb,0,none⟩) 2 2) rfl rfl hsl (fun W' hSw=>(by
     clear hSw
     go_simp;first|done|with_reducible rfl)) ?_
    simp only [zA,zB,zC]
    refine Disk.z_done (by kernel_rfl) ?_ _
    exact hQ wl lb _ _ _ _ _ _ _ _ _ _ _ _ _ _ _ _ _ _ hsl FL
  ·obtain ⟨wn16,b3,ew,eb,hbt,f30,f31⟩:∃ wm b3,wm=wn10.alloc (.cells #[.slice (some ⟨b2,0,none⟩) 1 1,.slice oa m.out.length oc] 24)/\b3=wn10.heap.size/\Below wn10.heap.size wn10 wm/\wm.cell? ⟨b3,0,none⟩=some (.slice (some ⟨b2,0,none⟩) 1 1)/\wm.cell? ⟨b3,1,none⟩=some (.slice oa m.out.length oc):=⟨_,_,rfl,rfl,bel_one _ _,cell_new _ _ 24 _ (by simp) 0 _ rfl,cell_new _ _ 24 _ (by simp) 1 _ rfl⟩
   have hs16:=bel_after hs10 hbt
   refine o_run 14 24 (v:=.slice (some ⟨b3,0,none⟩) 2 2) rfl rfl (by rfl) (w':=wn16) (by subst ew;subst eb;go_simp;first|done|with_reducible rfl) (.inr hs16) ?_
   simp only [zA,zB,zC]
   replace F2:=F2.later hbt
   clear ew eb hs10 hbt
   obtain ⟨wn17,b1,ew,eb,hbt,F1⟩:∃ wm b1,wm=wn16.alloc (.cells #[.int .i64 m.pc,.int .i64 m.st,.int .i64 g.hash] 2)/\b1=wn16.heap.size/\Below wn16.heap.size wn16 wm/\IR wm (.slice (some ⟨b1,0,none⟩) 3 3) [m.pc,m.st,g.hash]:=⟨_,_,rfl,rfl,bel_one _ _,ir3 _ _ _ _⟩
   have hs17:=bel_after hs16 hbt
   refine Disk.z_run 6 16 (v:=.slice (some ⟨b1,0,none⟩) 3 3) rfl rfl (by kernel_rfl) (by rfl) (w':=wn17) (by subst ew;subst eb;go_simp;first|done|with_reducible rfl) (.inr hs17) ?_
   simp only [zA,zB,zC]
   replace F2:=F2.later hbt
   replace f30:=cell_later hbt f30
   replace f31:=cell_later hbt f31
   clear ew eb hs16 hbt
   refine Disk.z_call 7 17 rfl rfl (by kernel_rfl) (by rfl) (f:=77) (args:=#[.slice (some ⟨b1,0,none⟩) 3 3]) (w0:=wn17) (by go_simp;first|done|with_reducible rfl) ?_
   refine (joinNumbers_any _ _ wn17 F1 (by simp) h3 (ht.later hs17)).mono ?_
   rintro e wn18 ⟨rfl,hbt⟩
   have hs18:=bel_after hs17 hbt
   refine ⟨_,rfl,.inr hs18,?_⟩
   simp only [zA,zB,zC]
   clear F1
   replace F2:=F2.later hbt
   replace f30:=cell_later hbt f30
   replace f31:=cell_later hbt f31
   clear hs17 hbt
   refine Disk.z_call 15 25 rfl rfl (by kernel_rfl) (by rfl) (f:=78) (args:=#[.slice (some ⟨b3,0,none⟩) 2 2]) (w0:=wn18) (by go_simp;first|done|with_reducible rfl) ?_
   refine (concat_any b3 _ _ [(m.out.length:Int)] m.out wn18 f30 f31 F2 (io.later hs18) (by simp) (by simp;omega)).mono ?_
   rintro e wc ⟨⟨vc,rfl,hoc⟩,hbc⟩
   have hsc:=bel_after hs18 hbc
   have LE:([(m.out.length:Int)] ++ m.out).length=[(m.out.length:Int)].length+m.out.length:=List.length_append
   rw [<- LE] at hoc
   have irc:=IR_of_owns hoc
   clear hoc LE F2 f30 f31
   refine ⟨_,rfl,.inr hsc,?_⟩
   simp only [zA,zB,zC]
   refine Disk.z_call 16 26 rfl rfl (by kernel_rfl) (by rfl) (f:=77) (args:=#[vc]) (w0:=wc) (by go_simp;first|done|with_reducible rfl) ?_
   refine (joinNumbers_any _ _ wc irc (by simp;omega) hol2 (ht.later hsc)).mono ?_
   rintro e wj ⟨rfl,hbj⟩
   have hsj:=bel_after hsc hbj
   refine ⟨_,rfl,.inr hsj,?_⟩
   simp only [zA,zB,zC]
   obtain ⟨wl,lb,ew,eb,hbl,FL⟩:∃ wl lb,wl=wj.alloc (.cells #[.string (textB [m.pc,m.st,g.hash]),.string (textB ([(m.out.length:Int)] ++ m.out))] 9)/\lb=wj.heap.size/\Below wj.heap.size wj wl/\wl.ownsRow w4.heap.size 9 1 (.slice (some ⟨lb,0,none⟩) 2 2) 2 [.string (textB [m.pc,m.st,g.hash]),.string (textB ([(m.out.length:Int)] ++ m.out))]:=⟨_,_,rfl,rfl,bel_one _ _,rfl,.inr ⟨wj.heap.size,2,_,rfl,hsj.size,heap_alloc_new _ _,Nat.le_refl _,by unfold maxLen;omega,rfl,rfl⟩⟩
   have hsl:=bel_after hsj hbl
   refine Disk.z_run 17 27 (v:=.slice (some ⟨lb,0,none⟩) 2 2) rfl rfl (by kernel_rfl) (by rfl) (w':=wl) (by subst ew;subst eb;go_simp;first|done|with_reducible rfl) (.inr hsl) ?_
   simp only [zA,zB,zC]
   clear ew eb
   refine Disk.zt 18 4 (v:=.slice (some ⟨lb,0,none⟩) 2 2) rfl rfl hsl (fun W' hSw=>(by
    clear hSw
    go_simp;first|done|with_reducible rfl)) ?_
   simp only [zA,zB,zC]
   refine Disk.z_done (by kernel_rfl) ?_ _
   exact hQ wl lb _ _ _ _ _ _ _ _ _ _ _ _ _ _ _ _ _ _ hsl FL
end Go.Proofs.YtgnbibinclepcaaGreatDoor
