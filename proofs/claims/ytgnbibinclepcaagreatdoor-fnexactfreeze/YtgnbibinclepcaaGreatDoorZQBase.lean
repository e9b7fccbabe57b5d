import Derived.Test.YtgnbibinclepcaaGreatDoorRows
import Derived.WalkKit
import Derived.WalkSpells
import Derived.WalkLawsBesides
import Derived.BigQuiet
namespace Go.Proofs.YtgnbibinclepcaaGreatDoor
open Go.RowKit
def bndL (op:Int):Int:=if op=1 then -1000000000 else 0
def bndH (op:Int):Int:=if op=1 then 1000000000 else if op=2 ∨ op=3 then 9 else if op=4 then 60 else if op=5 ∨ op=6 then 59 else if op=10 ∨ op=11 ∨ op=19 then 100 else 0
def hasN (op:Int):Bool:=decide (op=1 ∨ op=2 ∨ op=3 ∨ op=4 ∨ op=5 ∨ op=6 ∨ op=10 ∨ op=11 ∨ op=19)
def opB (op:Int):Bool:=decide (1<=op/\op<=20)
def cokB (op n:Int):Bool:=opB op && (decide (bndL op<=n) && decide (n<=bndH op))
def codeV (op n:Int):Value:=.agg #[.int .i64 op,.int .i64 n]
def ruleV (op:Int):Value:=.agg #[.bool (hasN op),.int .i64 (bndL op),.int .i64 (bndH op)]
theorem qIn_any (x lo hi:Int) (w:World) :
  Calls Tryz.prog 80 #[.int .i64 x,.int .i64 lo,.int .i64 hi] w fun e w'=>e=.returned (.bool (decide (lo<=x) && decide (x<=hi)))/\w' = w:=by
 by_cases h1:lo<=x
 ·by_cases h2:x<=hi
  ·have d1:decide (lo<=x)=true:=decide_eq_true h1
   have d2:decide (x<=hi)=true:=decide_eq_true h2
   go_enter Tryz.func80,Tryz.ntmps80
   go_wp2
   go_ret
   exact ⟨by first|rfl|(simp;omega),rfl⟩
  ·have d1:decide (lo<=x)=true:=decide_eq_true h1
   have d2:decide (x<=hi)=false:=decide_eq_false h2
   go_enter Tryz.func80,Tryz.ntmps80
   go_wp2
   go_ret
   exact ⟨by first|rfl|(simp;omega)|simp,rfl⟩
 ·have d1:decide (lo<=x)=false:=decide_eq_false h1
  go_enter Tryz.func80,Tryz.ntmps80
  go_wp2
  go_ret
  exact ⟨by first|rfl|(simp;omega)|simp,rfl⟩
set_option maxHeartbeats 1000000 in
theorem l12Bounds_any (op:Int) (w:World) :
  Calls Tryz.prog 142 #[.int .i64 op] w fun e w'=>e=.returned (.tuple #[.int .i64 (bndL op),.int .i64 (bndH op),.bool (hasN op)])/\w' = w:=by
 by_cases h1:op=1
 ·subst h1
  go_enter Tryz.func142,Tryz.ntmps142
  go_wp2
  exact bodyPost_ret (v:=.tuple #[.int .i64 (bndL 1),.int .i64 (bndH 1),.bool (hasN 1)]) (by simp [results,Tryz.results142,go_sem,bndL,bndH,hasN]) rfl ⟨rfl,rfl⟩
 by_cases h2:op=2
 ·subst h2
  go_enter Tryz.func142,Tryz.ntmps142
  go_wp2
  exact bodyPost_ret (v:=.tuple #[.int .i64 (bndL 2),.int .i64 (bndH 2),.bool (hasN 2)]) (by simp [results,Tryz.results142,go_sem,bndL,bndH,hasN]) rfl ⟨rfl,rfl⟩
 by_cases h3:op=3
 ·subst h3
  go_enter Tryz.func142,Tryz.ntmps142
  go_wp2
  exact bodyPost_ret (v:=.tuple #[.int .i64 (bndL 3),.int .i64 (bndH 3),.bool (hasN 3)]) (by simp [results,Tryz.results142,go_sem,bndL,bndH,hasN]) rfl ⟨rfl,rfl⟩
 by_cases h4:op=4
 ·subst h4
  go_enter Tryz.func142,Tryz.ntmps142
  go_wp2
  exact bodyPost_ret (v:=.tuple #[.int .i64 (bndL 4),.int .i64 (bndH 4),.bool (hasN 4)]) (by simp [results,Tryz.results142,go_sem,bndL,bndH,hasN]) rfl ⟨rfl,rfl⟩
 by_cases h5:op=5
 ·subst h5
  go_enter Tryz.func142,Tryz.ntmps142
  go_wp2
  exact bodyPost_ret (v:=.tuple #[.int .i64 (bndL 5),.int .i64 (bndH 5),.bool (hasN 5)]) (by simp [results,Tryz.results142,go_sem,bndL,bndH,hasN]) rfl ⟨rfl,rfl⟩
 by_cases h6:op=6
 ·subst h6
  go_enter Tryz.func142,Tryz.ntmps142
  go_wp2
  exact bodyPost_ret (v:=.tuple #[.int .i64 (bndL 6),.int .i64 (bndH 6),.bool (hasN 6)]) (by simp [results,Tryz.results142,go_sem,bndL,bndH,hasN]) rfl ⟨rfl,rfl⟩
 by_cases h10:op=10
 ·subst h10
  go_enter Tryz.func142,Tryz.ntmps142
  go_wp2
  exact bodyPost_ret (v:=.tuple #[.int .i64 (bndL 10),.int .i64 (bndH 10),.bool (hasN 10)]) (by simp [results,Tryz.results142,go_sem,bndL,bndH,hasN]) rfl ⟨rfl,rfl⟩
 by_cases h11:op=11
 ·subst h11
  go_enter Tryz.func142,Tryz.ntmps142
  go_wp2
  exact bodyPost_ret (v:=.tuple #[.int .i64 (bndL 11),.int .i64 (bndH 11),.bool (hasN 11)]) (by simp [results,Tryz.results142,go_sem,bndL,bndH,hasN]) rfl ⟨rfl,rfl⟩
 by_cases h19:op=19
 ·subst h19
  go_enter Tryz.func142,Tryz.ntmps142
  go_wp2
  exact bodyPost_ret (v:=.tuple #[.int .i64 (bndL 19),.int .i64 (bndH 19),.bool (hasN 19)]) (by simp [results,Tryz.results142,go_sem,bndL,bndH,hasN]) rfl ⟨rfl,rfl⟩
 have b1:(op == 1)=false:=beq_eq_false_iff_ne.2 h1
 have b2:(op == 2)=false:=beq_eq_false_iff_ne.2 h2
 have b3:(op == 3)=false:=beq_eq_false_iff_ne.2 h3
 have b4:(op == 4)=false:=beq_eq_false_iff_ne.2 h4
 have b5:(op == 5)=false:=beq_eq_false_iff_ne.2 h5
 have b6:(op == 6)=false:=beq_eq_false_iff_ne.2 h6
 have b10:(op == 10)=false:=beq_eq_false_iff_ne.2 h10
 have b11:(op == 11)=false:=beq_eq_false_iff_ne.2 h11
 have b19:(op == 19)=false:=beq_eq_false_iff_ne.2 h19
 have G:Hid (bndL op=0/\bndH op=0/\hasN op=false):=⟨by unfold bndL;rw [if_neg h1],by unfold bndH;rw [if_neg h1,if_neg (by omega),if_neg h4,if_neg (by omega),if_neg (by omega)],by unfold hasN;exact decide_eq_false (by omega)⟩
 clear h1 h2 h3 h4 h5 h6 h10 h11 h19
 rw [G.out.1,G.out.2.1,G.out.2.2]
 go_enter Tryz.func142,Tryz.ntmps142
 go_wp2
 exact bodyPost_ret (v:=.tuple #[.int .i64 0,.int .i64 0,.bool false]) (by simp [results,Tryz.results142,go_sem]) rfl ⟨rfl,rfl⟩
theorem qbel (w:World) (o:Obj):Below w.heap.size w (w.alloc o):=(Below.refl _ w).alloc (Nat.le_refl _) o
theorem bel_afterQ {w v w' : World} (h:Below w.heap.size w v) (k:Below v.heap.size v w'):Below w.heap.size w w':=h.trans (k.mono h.size)
def Bk (w:World) (b:Nat) (C:Array Value) (t:TypeId):Prop:=w.heap[b]?=some (.cells C t (0,0))
theorem Bk.new (w:World) (C:Array Value) (t:TypeId):Bk (w.alloc (.cells C t)) w.heap.size C t:=by
 unfold Bk
 show (w.heap.push _)[w.heap.size]?=_
 simp
theorem Bk.lt {w:World} {b:Nat} {C:Array Value} {t:TypeId} (h:Bk w b C t):b<w.heap.size:=by
 unfold Bk at h
 rcases Nat.lt_or_ge b w.heap.size with h' | h'
 ·exact h'
 ·rw [Array.getElem?_eq_none h'] at h
  cases h
theorem Bk.later {w w' : World} {b:Nat} {C:Array Value} {t:TypeId} (h:Bk w b C t) (hb:Below w.heap.size w w'):Bk w' b C t:=by
 have:=h.lt
 unfold Bk at *
 rw [hb.block b this]
 exact h
theorem Bk.alloc {w:World} {b:Nat} {C:Array Value} {t:TypeId} (h:Bk w b C t) (o:Obj):Bk (w.alloc o) b C t:=h.later (qbel w o)
theorem Bk.cell {w:World} {b:Nat} {C:Array Value} {t:TypeId} (h:Bk w b C t) (j:Nat) (v:Value) (hv:C[j]?=some v):w.cell? ⟨b,j,none⟩=some v:=by
 unfold Bk at h
 unfold World.cell?
 rw [h]
 exact hv
theorem Bk.frozen {w:World} {b:Nat} {C:Array Value} {t:TypeId} (h:Bk w b C t) (j:Nat):w.frozen? ⟨b,j,none⟩=false:=by
 unfold Bk at h
 unfold World.frozen?
 simp [h]
set_option maxHeartbeats 4000000 in
theorem ruleOf_any (op:Int) (w:World) :
  Calls Tryz.prog 216 #[.int .i64 op] w fun e w'=>e=.returned (.tuple #[ruleV op,.bool (opB op)])/\Below w.heap.size w w':=by
 by_cases h1:op=1
 ·subst h1
  go_enter Tryz.func216,Tryz.ntmps216
  go_wp2
  exact bodyPost_ret (v:=.tuple #[ruleV 1,.bool (opB 1)]) (by simp [results,Tryz.results216,go_sem,ruleV,bndL,bndH,hasN,opB]) rfl ⟨rfl,qbel _ _⟩
 by_cases h2:op=2
 ·subst h2
  go_enter Tryz.func216,Tryz.ntmps216
  go_wp2
  exact bodyPost_ret (v:=.tuple #[ruleV 2,.bool (opB 2)]) (by simp [results,Tryz.results216,go_sem,ruleV,bndL,bndH,hasN,opB]) rfl ⟨rfl,qbel _ _⟩
 by_cases h3:op=3
 ·subst h3
  go_enter Tryz.func216,Tryz.ntmps216
  go_wp2
  exact bodyPost_ret (v:=.tuple #[ruleV 3,.bool (opB 3)]) (by simp [results,Tryz.results216,go_sem,ruleV,bndL,bndH,hasN,opB]) rfl ⟨rfl,qbel _ _⟩
 by_cases h4:op=4
 ·subst h4
  go_enter Tryz.func216,Tryz.ntmps216
  go_wp2
  exact bodyPost_ret (v:=.tuple #[ruleV 4,.bool (opB 4)]) (by simp [results,Tryz.results216,go_sem,ruleV,bndL,bndH,hasN,opB]) rfl ⟨rfl,qbel _ _⟩
 by_cases h5:op=5
 ·subst h5
  go_enter Tryz.func216,Tryz.ntmps216
  go_wp2
  exact bodyPost_ret (v:=.tuple #[ruleV 5,.bool (opB 5)]) (by simp [results,Tryz.results216,go_sem,ruleV,bndL,bndH,hasN,opB]) rfl ⟨rfl,qbel _ _⟩
 by_cases h6:op=6
 ·subst h6
  go_enter Tryz.func216,Tryz.ntmps216
  go_wp2
  exact bodyPost_ret (v:=.tuple #[ruleV 6,.bool (opB 6)]) (by simp [results,Tryz.results216,go_sem,ruleV,bndL,bndH,hasN,opB]) rfl ⟨rfl,qbel _ _⟩
 by_cases h7:op=7
 ·subst h7
  go_enter Tryz.func216,Tryz.ntmps216
  go_wp2
  exact bodyPost_ret (v:=.tuple #[ruleV 7,.bool (opB 7)]) (by simp [results,Tryz.results216,go_sem,ruleV,bndL,bndH,hasN,opB]) rfl ⟨rfl,qbel _ _⟩
 by_cases h8:op=8
 ·subst h8
  go_enter Tryz.func216,Tryz.ntmps216
  go_wp2
  exact bodyPost_ret (v:=.tuple #[ruleV 8,.bool (opB 8)]) (by simp [results,Tryz.results216,go_sem,ruleV,bndL,bndH,hasN,opB]) rfl ⟨rfl,qbel _ _⟩
 by_cases h9:op=9
 ·subst h9
  go_enter Tryz.func216,Tryz.ntmps216
  go_wp2
  exact bodyPost_ret (v:=.tuple #[ruleV 9,.bool (opB 9)]) (by simp [results,Tryz.results216,go_sem,ruleV,bndL,bndH,hasN,opB]) rfl ⟨rfl,qbel _ _⟩
 by_cases h10:op=10
 ·subst h10
  go_enter Tryz.func216,Tryz.ntmps216
  go_wp2
  exact bodyPost_ret (v:=.tuple #[ruleV 10,.bool (opB 10)]) (by simp [results,Tryz.results216,go_sem,ruleV,bndL,bndH,hasN,opB]) rfl ⟨rfl,qbel _ _⟩
 by_cases h11:op=11
 ·subst h11
  go_enter Tryz.func216,Tryz.ntmps216
  go_wp2
  exact bodyPost_ret (v:=.tuple #[ruleV 11,.bool (opB 11)]) (by simp [results,Tryz.results216,go_sem,ruleV,bndL,bndH,hasN,opB]) rfl ⟨rfl,qbel _ _⟩
 by_cases h12:op=12
 ·subst h12
  go_enter Tryz.func216,Tryz.ntmps216
  go_wp2
  exact bodyPost_ret (v:=.tuple #[ruleV 12,.bool (opB 12)]) (by simp [results,Tryz.results216,go_sem,ruleV,bndL,bndH,hasN,opB]) rfl ⟨rfl,qbel _ _⟩
 by_cases h13:op=13
 ·subst h13
  go_enter Tryz.func216,Tryz.ntmps216
  go_wp2
  exact bodyPost_ret (v:=.tuple #[ruleV 13,.bool (opB 13)]) (by simp [results,Tryz.results216,go_sem,ruleV,bndL,bndH,hasN,opB]) rfl ⟨rfl,qbel _ _⟩
 by_cases h14:op=14
 ·subst h14
  go_enter Tryz.func216,Tryz.ntmps216
  go_wp2
  exact bodyPost_ret (v:=.tuple #[ruleV 14,.bool (opB 14)]) (by simp [results,Tryz.results216,go_sem,ruleV,bndL,bndH,hasN,opB]) rfl ⟨rfl,qbel _ _⟩
 by_cases h15:op=15
 ·subst h15
  go_enter Tryz.func216,Tryz.ntmps216
  go_wp2
  exact bodyPost_ret (v:=.tuple #[ruleV 15,.bool (opB 15)]) (by simp [results,Tryz.results216,go_sem,ruleV,bndL,bndH,hasN,opB]) rfl ⟨rfl,qbel _ _⟩
 by_cases h16:op=16
 ·subst h16
  go_enter Tryz.func216,Tryz.ntmps216
  go_wp2
  exact bodyPost_ret (v:=.tuple #[ruleV 16,.bool (opB 16)]) (by simp [results,Tryz.results216,go_sem,ruleV,bndL,bndH,hasN,opB]) rfl ⟨rfl,qbel _ _⟩
 by_cases h17:op=17
 ·subst h17
  go_enter Tryz.func216,Tryz.ntmps216
  go_wp2
  exact bodyPost_ret (v:=.tuple #[ruleV 17,.bool (opB 17)]) (by simp [results,Tryz.results216,go_sem,ruleV,bndL,bndH,hasN,opB]) rfl ⟨rfl,qbel _ _⟩
 by_cases h18:op=18
 ·subst h18
  go_enter Tryz.func216,Tryz.ntmps216
  go_wp2
  exact bodyPost_ret (v:=.tuple #[ruleV 18,.bool (opB 18)]) (by simp [results,Tryz.results216,go_sem,ruleV,bndL,bndH,hasN,opB]) rfl ⟨rfl,qbel _ _⟩
 by_cases h19:op=19
 ·subst h19
  go_enter Tryz.func216,Tryz.ntmps216
  go_wp2
  exact bodyPost_ret (v:=.tuple #[ruleV 19,.bool (opB 19)]) (by simp [results,Tryz.results216,go_sem,ruleV,bndL,bndH,hasN,opB]) rfl ⟨rfl,qbel _ _⟩
 by_cases h20:op=20
 ·subst h20
  go_enter Tryz.func216,Tryz.ntmps216
  go_wp2
  exact bodyPost_ret (v:=.tuple #[ruleV 20,.bool (opB 20)]) (by simp [results,Tryz.results216,go_sem,ruleV,bndL,bndH,hasN,opB]) rfl ⟨rfl,qbel _ _⟩
 have b1:(op == 1)=false:=beq_eq_false_iff_ne.2 h1
 have b2:(op == 2)=false:=beq_eq_false_iff_ne.2 h2
 have b3:(op == 3)=false:=beq_eq_false_iff_ne.2 h3
 have b4:(op == 4)=false:=beq_eq_false_iff_ne.2 h4
 have b5:(op == 5)=false:=beq_eq_false_iff_ne.2 h5
 have b6:(op == 6)=false:=beq_eq_false_iff_ne.2 h6
 have b7:(op == 7)=false:=beq_eq_false_iff_ne.2 h7
 have b8:(op == 8)=false:=beq_eq_false_iff_ne.2 h8
 have b9:(op == 9)=false:=beq_eq_false_iff_ne.2 h9
 have b10:(op == 10)=false:=beq_eq_false_iff_ne.2 h10
 have b11:(op == 11)=false:=beq_eq_false_iff_ne.2 h11
 have b12:(op == 12)=false:=beq_eq_false_iff_ne.2 h12
 have b13:(op == 13)=false:=beq_eq_false_iff_ne.2 h13
 have b14:(op == 14)=false:=beq_eq_false_iff_ne.2 h14
 have b15:(op == 15)=false:=beq_eq_false_iff_ne.2 h15
 have b16:(op == 16)=false:=beq_eq_false_iff_ne.2 h16
 have b17:(op == 17)=false:=beq_eq_false_iff_ne.2 h17
 have b18:(op == 18)=false:=beq_eq_false_iff_ne.2 h18
 have b19:(op == 19)=false:=beq_eq_false_iff_ne.2 h19
 have b20:(op == 20)=false:=beq_eq_false_iff_ne.2 h20
 have G:Hid (ruleV op=.agg #[.bool false,.int .i64 0,.int .i64 0]/\opB op=false):=⟨by unfold ruleV;rw [show bndL op=0 from by unfold bndL;rw [if_neg h1],show bndH op=0 from by unfold bndH;rw [if_neg h1,if_neg (by omega),if_neg h4,if_neg (by omega),if_neg (by omega)],show hasN op=false from by unfold hasN;exact decide_eq_false (by omega)],by unfold opB;exact decide_eq_false (by omega)⟩
 clear h1 h2 h3 h4 h5 h6 h7 h8 h9 h10 h11 h12 h13 h14 h15 h16 h17 h18 h19 h20
 rw [G.out.1,G.out.2]
 go_enter Tryz.func216,Tryz.ntmps216
 go_wp2
 exact bodyPost_ret (v:=.tuple #[.agg #[.bool false,.int .i64 0,.int .i64 0],.bool false]) (by simp [results,Tryz.results216,go_sem]) rfl ⟨rfl,qbel _ _⟩
end Go.Proofs.YtgnbibinclepcaaGreatDoor
