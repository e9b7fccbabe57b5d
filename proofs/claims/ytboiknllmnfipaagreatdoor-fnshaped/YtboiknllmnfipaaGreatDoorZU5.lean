
import Derived.Test.YtboiknllmnfipaaGreatDoorZU4
import Derived.Test.YtboiknllmnfipaaGreatDoorZHSpecO
import Derived.Test.YtboiknllmnfipaaGreatDoorZU0
import Derived.Maps.OwnSet
import Derived.Maps.OwnOps
import Derived.Maps.AppendAt
/- HeapOk, Objects, Young and Header of the model and of the program, in one plain word each. -/
namespace Go.Proofs.YtboiknllmnfipaaGreatDoor
open Go.RowKit
noncomputable def okC (h:Hp):Bool:=@decide (∃ l,RightAt h l) (Classical.propDecidable _)
noncomputable def obC (h:Hp):List Nat:=@dite _ (∃ l,RightAt h l) (Classical.propDecidable _) (fun k=>Classical.choose k) (fun _=>[])
noncomputable def isC (h:Hp) (x:Int):Bool:=(ints (obC h)).contains x
theorem Vy {h:Hp} {l:List Nat} (k:RightAt h l):okC h=true/\obC h=l:=by
 have hk:∃ l,RightAt h l:=⟨l,k⟩
 refine ⟨@decide_eq_true _ (Classical.propDecidable _) hk,?_⟩
 unfold obC
 rw [dif_pos hk]
 exact (Classical.choose_spec hk).eq k
theorem Jly {h:Hp} (k:∀ l,¬ RightAt h l):okC h=false/\obC h=[]:=by
 have hk:¬ ∃ l,RightAt h l:=fun ⟨l,q⟩=>k l q
 refine ⟨@decide_eq_false _ (Classical.propDecidable _) hk,?_⟩
 unfold obC
 rw [dif_neg hk]
theorem Oa {h:Hp} (k:okC h=true):RightAt h (obC h):=by
 have hk:∃ l,RightAt h l:=@of_decide_eq_true _ (Classical.propDecidable _) k
 obtain ⟨l,q⟩:=hk
 rw [(Vy q).2]
 exact q
theorem Jko {h:Hp} (k:okC h=false):obC h=[]:=(Jly (fun l q=>by rw [(Vy q).1] at k;cases k)).2
theorem Jaj (h:Hp):(obC h).length<=3200:=by
 cases k:okC h
 ·rw [Jko k];simp
 ·exact (Oa k).1.short
theorem Jgu {h:Hp} {x:Ending} (k:Tf h x):x=.returned (.bool (okC h)):=by
 obtain ⟨ok,rfl,hk⟩:=k
 cases ok
 ·rw [(Jly (fun l q=>by have:=hk.2 ⟨l,q⟩;cases this)).1]
 ·obtain ⟨l,q⟩:=hk.1 rfl
  rw [(Vy q).1]
theorem N4 (v:Value) (h:Hp) (w:World) (hv:HR w v h) (hro:h.roots.length<=1000000000000) (hke:h.kept.length<=1000000000000) :
  Calls Tryz.prog 16 #[v] w fun x w'=>x=.returned (.bool (okC h))/\Below w.heap.size w w' :=
 (Yo v h w hv hro hke).mono fun _ _ ⟨a,b⟩=>⟨Jgu a,b⟩
theorem Jjl (v:Value) (h:Hp) (w:World) (hv:HR w v h) (hro:h.roots.length<=1000000000000) (hke:h.kept.length<=1000000000000) :
  Calls Tryz.prog 41 #[v] w fun x w'=>(∃ v',x=.returned (.tuple #[v',.bool (okC h)])/\w'.ownsRow w.heap.size 2 1 v' (obC h).length (icells (ints (obC h))))/\Below w.heap.size w w' :=
 (Vd v h w hv hro hke).mono fun x w' ⟨a,b⟩=>by
  refine ⟨?_,b⟩
  rcases a with ⟨l,v',rfl,ho,hr,_⟩|⟨rfl,hn⟩
  ·obtain ⟨e1,e2⟩:=Vy hr
   rw [e1,e2]
   exact ⟨v',rfl,ho⟩
  ·obtain ⟨e1,e2⟩:=Jly hn
   rw [e1,e2]
   exact ⟨_,rfl,⟨by simp [icells,ints],.inl ⟨rfl,rfl⟩⟩⟩
theorem Jlj (v:Value) (h:Hp) (w:World) (hv:HR w v h) (hk:okC h=true) :
  Calls Tryz.prog 67 #[v] w fun x w'=>(∃ v',x=.returned v' /\ IR w' v' (ints (obC h)))/\Below w.heap.size w w' :=
 (Ru v h w hv).mono fun x w' ⟨⟨l,v',_,e,ho,hp⟩,b⟩=>by
  have q:=(Oa hk).1
  have:l=obC h:=(hp _ q).eq q
  subst this
  exact ⟨⟨v',e,J2 ho⟩,b⟩
theorem Rz (v:Value) (h:Hp) (w:World) (hv:HR w v h) (hro:h.roots.length<=1000000000000) (hke:h.kept.length<=1000000000000) :
  Calls Tryz.prog 19 #[v] w fun x w'=>x=.returned (.bool (okC h))/\Below w.heap.size w w':=by
 obtain ⟨v1,v2,v3,rfl,i1,i2,i3⟩:=id hv
 have hb0:=C5 w (.cells #[v1,v2,.int .i64 h.old,.int .i64 h.eden,.int .i64 h.surv,.bool h.flip,.int .i64 h.hash,v3] 30)
 have C:=Jjl _ h _ (hv.later hb0) hro hke
 go_enter Tryz.func19,Tryz.ntmps19
 go_wp2_with fail
 refine C.mono ?_
 rintro x w1 ⟨⟨v',rfl,ho⟩,hb1⟩
 go_wp2
 go_ret
 exact ⟨rfl,C3 hb0 hb1⟩
end Go.Proofs.YtboiknllmnfipaaGreatDoor
/- Graphs as they are read, and held against each other by the laws. -/
namespace Go.Proofs.YtboiknllmnfipaaGreatDoor
open Go.RowKit
structure Nd where
 cls:Int
 hash:Int
 fl:List Int
structure Gr where
 roots:List Int
 nodes:List Nd
 hash:Int
def nd0:Nd:=⟨0,0,[]⟩
def NR (w:World) (v:Value) (ns:List Nd):Prop :=
 ∃ ao cap,v=.slice ao ns.length cap/\ns.length<=cap/\∀ i,i<ns.length->∃ b o fa fn fc,ao=some ⟨b,o,none⟩/\w.cell? ⟨b,o+i * 3,none⟩=some (.int .i64 (ns.getD i nd0).cls) ∧
  w.cell? ⟨b,o+i * 3+1,none⟩=some (.int .i64 (ns.getD i nd0).hash)/\w.cell? ⟨b,o+i * 3+2,none⟩=some (.slice fa fn fc)/\IR w (.slice fa fn fc) (ns.getD i nd0).fl
def GR (w:World) (v:Value) (g:Gr):Prop:=∃ vr vn,v=.agg #[vr,vn,.int .i64 g.hash]/\IR w vr g.roots/\NR w vn g.nodes
theorem NR.later {w w' : World} {v:Value} {ns:List Nd} (h:NR w v ns) (hb:Below w.heap.size w w'):NR w' v ns:=by
 obtain ⟨ao,cap,rfl,hle,h⟩:=h
 refine ⟨ao,cap,rfl,hle,fun i hi=>?_⟩
 obtain ⟨b,o,fa,fn,fc,e,c0,c1,c2,r⟩:=h i hi
 exact ⟨b,o,fa,fn,fc,e,C2 hb c0,C2 hb c1,C2 hb c2,r.later hb⟩
theorem GR.later {w w' : World} {v:Value} {g:Gr} (h:GR w v g) (hb:Below w.heap.size w w'):GR w' v g:=by
 obtain ⟨vr,vn,e,a,b⟩:=h
 exact ⟨vr,vn,e,a.later hb,b.later hb⟩
theorem NR.shape {w:World} {v:Value} {ns:List Nd} (h:NR w v ns):∃ ao cap,v=.slice ao ns.length cap:=by
 obtain ⟨ao,cap,e,_⟩:=h
 exact ⟨ao,cap,e⟩
theorem GR.out {w:World} {v:Value} {g:Gr} (h:GR w v g):∃ ra rc na nc,v=.agg #[.slice ra g.roots.length rc,.slice na g.nodes.length nc,.int .i64 g.hash]/\IR w (.slice ra g.roots.length rc) g.roots/\NR w (.slice na g.nodes.length nc) g.nodes:=by
 obtain ⟨vr,vn,rfl,hr,hn⟩:=h
 obtain ⟨ra,rc,rfl,_⟩:=id hr
 obtain ⟨na,nc,rfl⟩:=NR.shape hn
 exact ⟨ra,rc,na,nc,rfl,hr,hn⟩
def grF (rv nv:Value) (hh:Int) (i:Nat):Value:=if i=0 then rv else if i=1 then nv else .int .i64 hh
theorem Qw (w:World) (rv nv:Value) (hh:Int) (t:TypeId):(w.alloc (.cells #[rv,nv,.int .i64 hh] t)).rowIs w.heap.size t 3 (grF rv nv hh) :=
 World.rowIs_alloc w #[rv,nv,.int .i64 hh] t _ (fun i hi=>by
  match i,hi with
  | 0,_=>rfl
  | 1,_=>rfl
  | 2,_=>rfl)
theorem Uw {w:World} {b t:Nat} {rv nv:Value} {hh:Int} (h:w.rowIs b t 3 (grF rv nv hh)):w.cell? ⟨b,0,none⟩=some rv/\w.cell? ⟨b,1,none⟩=some nv/\w.cell? ⟨b,2,none⟩=some (.int .i64 hh) :=
 ⟨h.cell (i:=0) (by omega),h.cell (i:=1) (by omega),h.cell (i:=2) (by omega)⟩
end Go.Proofs.YtboiknllmnfipaaGreatDoor
/- Graphs in plain words: the objects in the order in which they are come to, the graph of a right heap, the heap of a graph, and that both ways to ask whether there is one say the same. -/
namespace Go.Proofs.YtboiknllmnfipaaGreatDoor
open Go.RowKit
def On (o:List Nat) (x:Int):List Nat:=if isK 2 x=true then (if (x / 2).toNat ∈ o then o else o ++ [(x / 2).toNat]) else o
def fol (o:List Nat) (ws:List Int):List Nat:=ws.foldl On o
def tr (W R:List Int):Nat->List Nat
 | 0=>fol [] R
 | k+1=>if k<(tr W R k).length then fol (tr W R k) (flds W ((tr W R k).getD k 0)) else tr W R k
def lim (R:List Int):Nat:=3200+0 * R.length
theorem Jlx (R:List Int):lim R=3200:=by simp [lim]
def C8 (W R:List Int):List Nat:=tr W R (lim R)
theorem Zu (W R:List Int):C8 W R=tr W R 3200:=by unfold C8;rw [Jlx]
def ren (F:List Nat) (x:Int):Int:=if isK 2 x=true then 2 * ((F.idxOf (x / 2).toNat:Nat):Int)+1 else x
theorem Jiz (o:List Nat) (x:Int):o <+: On o x:=by
 unfold On
 split
 ·split
  ·exact List.prefix_refl _
  ·exact List.prefix_append _ _
 ·exact List.prefix_refl _
theorem Jac (ws:List Int):∀ o,o <+: fol o ws:=by
 induction ws with
 | nil=>intro o;exact List.prefix_refl _
 | cons x ws ih=>intro o;exact (Jiz o x).trans (ih (On o x))
theorem W5 (o:List Nat) (a b:List Int):fol o (a ++ b)=fol (fol o a) b:=List.foldl_append
theorem Qu (o:List Nat) (ws:List Int) (j:Nat):fol o (ws.take j) <+: fol o ws:=by
 have:=Jac (ws.drop j) (fol o (ws.take j))
 rwa [<- W5,List.take_append_drop] at this
theorem Rc (l:List Int) (k:Nat) (h:k<l.length):l.take (k+1)=l.take k ++ [l.getD k 0]:=by
 rw [List.take_succ_eq_append_getElem h]
 simp [h]
theorem Qv (o:List Nat) (ws:List Int) (j:Nat) (h:j<ws.length):fol o (ws.take (j+1))=On (fol o (ws.take j)) (ws.getD j 0):=by
 rw [Rc ws j h,W5]
 rfl
theorem U7 (W R:List Int) (k:Nat) (h:k<(tr W R k).length):tr W R (k+1)=fol (tr W R k) (flds W ((tr W R k).getD k 0)):=by
 rw [tr,if_pos h]
theorem Z9 (W R:List Int) (k:Nat):tr W R k <+: tr W R (k+1):=by
 rw [tr]
 split
 ·exact Jac _ _
 ·exact List.prefix_refl _
theorem Jms (W R:List Int) (k d:Nat):tr W R k <+: tr W R (k+d):=by
 induction d with
 | zero=>exact List.prefix_refl _
 | succ d ih=>exact ih.trans (Z9 W R (k+d))
theorem Jks (W R:List Int) (k d:Nat) (h:(tr W R k).length<=k):tr W R (k+d)=tr W R k:=by
 induction d with
 | zero=>rfl
 | succ d ih =>
  show tr W R ((k+d)+1)=_
  rw [tr,if_neg (by rw [ih];omega),ih]
theorem Jcm {W R:List Int} {k:Nat} (hk:k<=3200) (h:(tr W R k).length<=k):C8 W R=tr W R k:=by
 have:=Jks W R k (3200 - k) h
 rwa [show k+(3200 - k)=3200 from by omega,← Zu] at this
theorem Sc {W R:List Int} {k:Nat} (hk:k<=3200):tr W R k <+: C8 W R:=by
 have:=Jms W R k (3200 - k)
 rwa [show k+(3200 - k)=3200 from by omega,← Zu] at this
theorem Jcp {o:List Nat} (h:o.Nodup) (x:Int):(On o x).Nodup:=by
 unfold On
 split
 ·split
  ·exact h
  ·rename_i hn
   rw [List.nodup_append]
   refine ⟨h,by simp,fun a ha b hb=>?_⟩
   rw [List.mem_singleton] at hb
   rintro rfl
   exact hn (hb ▸ ha)
 ·exact h
theorem Zo (ws:List Int):∀ {o:List Nat},o.Nodup->(fol o ws).Nodup:=by
 induction ws with
 | nil=>intro o h;exact h
 | cons x ws ih=>intro o h;exact ih (Jcp h x)
theorem Jch (W R:List Int) (k:Nat):(tr W R k).Nodup:=by
 induction k with
 | zero=>exact Zo R List.nodup_nil
 | succ k ih =>
  rw [tr]
  split
  ·exact Zo _ ih
  ·exact ih
theorem Jkb {l:List Nat} {x:Int} (h:I8 l x=true) (k:isK 2 x=true):(x / 2).toNat ∈ l/\((x / 2).toNat:Int)=x / 2:=by
 unfold isK at k
 have k':=of_decide_eq_true k
 unfold I8 at h
 rw [k'] at h
 simp at h
 unfold ints at h
 rw [List.mem_map] at h
 obtain ⟨a,ha,e⟩:=h
 rw [<- e]
 exact ⟨by simpa using ha,by simp⟩
theorem Jin {l o:List Nat} {x:Int} (ho:o ⊆ l) (hx:isK 2 x=true->(x / 2).toNat ∈ l):On o x ⊆ l:=by
 unfold On
 split
 ·rename_i hk
  split
  ·exact ho
  ·intro a ha
   rw [List.mem_append,List.mem_singleton] at ha
   rcases ha with ha|rfl
   ·exact ho ha
   ·exact hx hk
 ·exact ho
theorem Jen {l:List Nat} (ws:List Int):∀ {o:List Nat},o ⊆ l->(∀ x,x ∈ ws->I8 l x=true)->fol o ws ⊆ l:=by
 induction ws with
 | nil=>intro o h _;exact h
 | cons x ws ih=>intro o h k;exact ih (Jin h (fun q=>(Jkb (k x (by simp)) q).1)) (fun y hy=>k y (by simp [hy]))
theorem Xv {o:List Nat} {x:Int} (k:isK 2 x=true):(x / 2).toNat ∈ On o x:=by
 unfold On
 rw [if_pos k]
 split
 ·assumption
 ·simp
theorem Jek (ws:List Int):∀ {o:List Nat} {x:Int},x ∈ ws->isK 2 x=true->(x / 2).toNat ∈ fol o ws:=by
 induction ws with
 | nil=>intro o x h;simp at h
 | cons y ws ih =>
  intro o x h k
  rw [List.mem_cons] at h
  rcases h with rfl|h
  ·exact (Jac ws (On o x)).subset (Xv k)
  ·exact ih h k
theorem Qt {h:Hp} {l:List Nat} (k:RightAt h l) {a:Nat} (ha:a ∈ l):∀ x,x ∈ flds h.words a->I8 l x=true:=by
 obtain ⟨_,_,_,_,_,_,_,q,_⟩:=k
 exact fld_mem.2 (q a ha)
theorem Ss {h:Hp} {l:List Nat} (k:RightAt h l):∀ x,x ∈ h.roots->I8 l x=true:=by
 obtain ⟨_,_,_,_,_,_,q,_,_⟩:=k
 exact q
theorem Xn {h:Hp} {l:List Nat} (r:RightAt h l) (k:Nat):tr h.words h.roots k ⊆ l:=by
 induction k with
 | zero=>exact Jen _ (by simp) (Ss r)
 | succ k ih =>
  rw [tr]
  split
  ·rename_i hk
   exact Jen _ ih (Qt r (ih (by simp [hk])))
  ·exact ih
theorem Jdg {h:Hp} {l:List Nat} (r:RightAt h l) (k:Nat):(tr h.words h.roots k).length<=3200 :=
 Nat.le_trans ((Jch _ _ k).length_le_of_subset (Xn r k)) r.1.short
theorem Jmr {W R:List Int} {i:Nat} (hi:i<(C8 W R).length) (h3:(C8 W R).length<=3200):i<(tr W R i).length:=by
 rcases Nat.lt_or_ge i (tr W R i).length with q|q
 ·exact q
 ·rw [Jcm (by omega) q] at hi
  omega
theorem Jee {a b:List Nat} (h:a <+: b) {i:Nat} (hi:i<a.length):a.getD i 0=b.getD i 0:=by
 obtain ⟨t,rfl⟩:=h
 simp [List.getD_eq_getElem?_getD,List.getElem?_append_left hi]
theorem Sb {h:Hp} {l:List Nat} (r:RightAt h l):C8 h.words h.roots ⊆ l:=Xn r _
theorem O7 {h:Hp} {l:List Nat} (r:RightAt h l):(C8 h.words h.roots).length<=3200:=Jdg r _
theorem Jfl (W R:List Int):(C8 W R).Nodup:=Jch W R _
theorem Vq {W R:List Int} {x:Int} (hx:x ∈ R) (k:isK 2 x=true):(x / 2).toNat ∈ C8 W R :=
 (Sc (k:=0) (by omega)).subset (Jek R hx k)
theorem Uh {h:Hp} {l:List Nat} (r:RightAt h l) {a:Nat} (ha:a ∈ C8 h.words h.roots) {x:Int} (hx:x ∈ flds h.words a) (k:isK 2 x=true):(x / 2).toNat ∈ C8 h.words h.roots:=by
 obtain ⟨i,hi,e⟩:=List.getElem_of_mem ha
 have h3:=O7 r
 have hf:=Jmr hi h3
 have hp:=Sc (W:=h.words) (R:=h.roots) (k:=i) (by omega)
 have e2:(tr h.words h.roots i).getD i 0=a:=by rw [Jee hp hf];simp [hi,e]
 refine (Sc (k:=i+1) (by omega)).subset ?_
 rw [U7 _ _ _ hf,e2]
 exact Jek _ hx k
theorem Jdz {o F:List Nat} {x:Int} (h:o <+: F) (k:isK 2 x=true->(x / 2).toNat ∈ o):ren o x=ren F x:=by
 obtain ⟨t,rfl⟩:=h
 unfold ren
 split
 ·rename_i hk
  rw [List.idxOf_append,if_pos (k hk)]
 ·rfl
def J3 (W:List Int) (F:List Nat) (a:Nat):Nd:=⟨gw W (a+1),gw W (a+2),(flds W a).map (ren F)⟩
def shG (W R:List Int) (F:List Nat) (H:Int):Gr:=⟨R.map (ren F),F.map (J3 W F),H⟩
def shP (h:Hp):Gr:=shG h.words h.roots (C8 h.words h.roots) h.hash
def gr0:Gr:=⟨[],[],0⟩
noncomputable def shC (h:Hp):Gr:=if okC h=true then shP h else gr0
def reP (h:Hp):Int:=((C8 h.words h.roots).map fun a=>(nx h.words a:Int) - a).sum
noncomputable def reC (h:Hp):Int:=if okC h=true then reP h else -1
/-! Building -/
def plc (ns:List Nd) (i:Nat):Nat:=((ns.take i).map fun n=>4+n.fl.length).sum
def rnI (ns:List Nd) (x:Int):Int:=if isK 2 x=true then 2 * ((if (x / 2).toNat<ns.length then plc ns (x / 2).toNat else 0:Nat):Int)+1 else x
def P9 (ns:List Nd) (n:Nd):List Int:=[(n.fl.length:Int),n.cls,n.hash,0] ++ n.fl.map (rnI ns)
def Jdv (ns:List Nd):List Int:=ns.flatMap (P9 ns)
def M0 (ns:List Nd):List Int:=Jdv ns ++ List.replicate (3200 - (Jdv ns).length) 0
def C4 (g:Gr):Hp:=⟨M0 g.nodes,g.roots.map (rnI g.nodes),(plc g.nodes g.nodes.length:Nat),2000,2600,false,g.hash,[]⟩
def M9 (n:Nat) (x:Int):Bool:=if x % 2=0 then Pn x else decide (0<x/\x / 2<n)
def T9 (g:Gr):Prop :=
 g.nodes.length<=500/\g.roots.length<=20/\(1<=g.hash/\g.hash<=1000000000) ∧
 (∀ n,n ∈ g.nodes->(0<=n.cls/\n.cls<=99)/\1<=n.hash/\n.hash<g.hash/\n.fl.length<=60/\∀ x,x ∈ n.fl->M9 g.nodes.length x=true) ∧
 (g.nodes.map Nd.hash).Nodup/\(∀ x,x ∈ g.roots->M9 g.nodes.length x=true)/\plc g.nodes g.nodes.length<=2000
theorem Jeu {l m:List Int} {i:Nat} (h:i<l.length):(l ++ m).getD i 0=l.getD i 0:=by
 simp [List.getD_eq_getElem?_getD,List.getElem?_append_left h]
theorem Up {l m:List Int} {i:Nat} (h:l.length<=i):(l ++ m).getD i 0=m.getD (i - l.length) 0:=by
 simp [List.getD_eq_getElem?_getD,List.getElem?_append_right h]
theorem Jej {l:List Int} {i:Nat} (h:i<l.length):l.getD i 0=l[i]:=by simp [List.getD_eq_getElem?_getD,h]
theorem Ox (ns:List Nd) (i:Nat) (h:i<ns.length):plc ns (i+1)=plc ns i+(4+(ns.getD i nd0).fl.length):=by
 unfold plc
 rw [List.take_succ_eq_append_getElem h,List.map_append,List.sum_append]
 simp only [List.map_cons,List.map_nil,List.sum_cons,List.sum_nil]
 rw [show ns.getD i nd0=ns[i] from by simp [List.getD_eq_getElem?_getD,h]]
 rfl
theorem Rx (ns:List Nd) (i d:Nat) (h:i+d<=ns.length):plc ns i+4 * d<=plc ns (i+d):=by
 induction d with
 | zero=>simp
 | succ d ih =>
  have:=ih (by omega)
  have:=Ox ns (i+d) (by omega)
  rw [show i+(d+1)=(i+d)+1 from rfl]
  omega
theorem Z7 {ns:List Nd} {i:Nat} (h:i<ns.length):plc ns i+4<=plc ns ns.length:=by
 have:=Rx ns i (ns.length - i) (by omega)
 rw [show i+(ns.length - i)=ns.length from by omega] at this
 omega
theorem Zi (ns:List Nd):4 * ns.length<=plc ns ns.length:=by
 have:=Rx ns 0 ns.length (by omega)
 rw [Nat.zero_add] at this
 unfold plc at *
 simp at *
 omega
theorem Qq (ns:List Nd) (n:Nd):(P9 ns n).length=4+n.fl.length:=by simp [P9];omega
theorem Qr (ns:List Nd):(Jdv ns).length=plc ns ns.length:=by
 unfold Jdv plc
 rw [List.length_flatMap,List.take_length]
 congr 1
 exact List.map_congr_left fun n _=>Qq ns n
theorem Jgy (ms ns:List Nd) {i j:Nat} (hi:i<ns.length) (hj:j<4+(ns.getD i nd0).fl.length):(ns.flatMap (P9 ms)).getD (plc ns i+j) 0=(P9 ms (ns.getD i nd0)).getD j 0:=by
 induction ns generalizing i with
 | nil=>simp at hi
 | cons n ns ih =>
  rw [List.flatMap_cons]
  cases i with
  | zero =>
   have e:plc (n::ns) 0=0:=rfl
   simp only [List.getD_cons_zero] at hj ⊢
   rw [e,Nat.zero_add,Jeu (by rw [Qq];exact hj)]
  | succ i =>
   simp only [List.getD_cons_succ] at hj ⊢
   have e:plc (n::ns) (i+1)=(4+n.fl.length)+plc ns i:=by simp [plc]
   rw [e,Up (by rw [Qq];omega),Qq]
   rw [show 4+n.fl.length+plc ns i+j - (4+n.fl.length)=plc ns i+j from by omega]
   exact ih (by simpa using hi) hj
theorem Qs {ns:List Nd} (h:plc ns ns.length<=3200):(M0 ns).length=3200:=by
 unfold M0
 rw [List.length_append,List.length_replicate,Qr]
 omega
theorem So {ns:List Nd} {i j:Nat} (hi:i<ns.length) (hj:j<4+(ns.getD i nd0).fl.length):gw (M0 ns) (plc ns i+j)=(P9 ns (ns.getD i nd0)).getD j 0:=by
 unfold gw M0
 have h1:=Ox ns i hi
 have h2:=Rx ns (i+1) (ns.length - (i+1)) (by omega)
 rw [show i+1+(ns.length - (i+1))=ns.length from by omega] at h2
 rw [Jeu (by rw [Qr];omega)]
 exact Jgy ns ns hi hj
theorem Jdi {ns:List Nd} {i:Nat} (h:plc ns ns.length<=i):gw (M0 ns) i=0:=by
 unfold gw M0
 rw [Up (by rw [Qr];exact h)]
 rw [List.getD_eq_getElem?_getD,List.getElem?_replicate]
 split <;> rfl
theorem Vo {ns:List Nd} {i:Nat} (hi:i<ns.length):gw (M0 ns) (plc ns i)=((ns.getD i nd0).fl.length:Int):=by
 have:=So (j:=0) hi (by omega)
 simpa [P9] using this
theorem Jap {ns:List Nd} {i:Nat} (hi:i<ns.length):gw (M0 ns) (plc ns i+1)=(ns.getD i nd0).cls:=by
 have:=So (j:=1) hi (by omega)
 simpa [P9] using this
theorem To {ns:List Nd} {i:Nat} (hi:i<ns.length):gw (M0 ns) (plc ns i+2)=(ns.getD i nd0).hash:=by
 have:=So (j:=2) hi (by omega)
 simpa [P9] using this
theorem Jhf {ns:List Nd} {i:Nat} (hi:i<ns.length):gw (M0 ns) (plc ns i+3)=0:=by
 have:=So (j:=3) hi (by omega)
 simpa [P9] using this
theorem Jdh {ns:List Nd} {i j:Nat} (hi:i<ns.length) (hj:j<(ns.getD i nd0).fl.length):gw (M0 ns) (plc ns i+4+j)=rnI ns ((ns.getD i nd0).fl.getD j 0):=by
 have:=So (j:=4+j) hi (by omega)
 rw [<- Nat.add_assoc] at this
 rw [this]
 unfold P9
 rw [Up (by simp)]
 rw [show 4+j - [((ns.getD i nd0).fl.length:Int),(ns.getD i nd0).cls,(ns.getD i nd0).hash,0].length=j from by simp,Jej (by rw [List.length_map];exact hj),List.getElem_map,Jej hj]
theorem Ve {ns:List Nd} {i:Nat} (hi:i<ns.length):flds (M0 ns) (plc ns i)=(ns.getD i nd0).fl.map (rnI ns):=by
 unfold flds
 rw [Vo hi,Int.toNat_natCast]
 refine List.ext_getElem (by simp) fun j h1 h2=>?_
 have hj:j<(ns.getD i nd0).fl.length:=by simpa using h1
 rw [List.getElem_map,List.getElem_map,List.getElem_range,Jdh hi hj]
 rw [Jej hj]
theorem Ws {ns:List Nd}:∀ i,i<=ns.length->it (M0 ns) 0 i=plc ns i
 | 0,_=>rfl
 | i+1,h=>by
  show nx (M0 ns) (it (M0 ns) 0 i)=_
  rw [Ws i (by omega)]
  unfold nx
  rw [Vo (by omega),Int.toNat_natCast,Ox ns i (by omega)]
  omega
def plcs (ns:List Nd):List Nat:=(List.range ns.length).map (plc ns)
theorem Jiy (ns:List Nd):its (M0 ns) 0 ns.length=plcs ns:=by
 unfold its plcs
 exact List.map_congr_left fun i hi=>Ws i (by rw [List.mem_range] at hi;omega)
theorem mem_plcs {ns:List Nd} {a:Nat}:a ∈ plcs ns ↔ ∃ i,i<ns.length/\plc ns i=a:=by simp [plcs]
theorem Yi {ns:List Nd} {x:Int} (hn:ns.length<=500) (hp:plc ns ns.length<=2000) (h:M9 ns.length x=true):I8 (plcs ns) (rnI ns x)=true/\Ou (rnI ns x)=false:=by
 unfold M9 at h
 by_cases e:x % 2=0
 ·rw [if_pos e] at h
  have e1:¬ x % 2=1:=by omega
  unfold Pn H8 at h
  rw [if_neg e1] at h
  have hk:H8 x=1:=by
   unfold H8
   rw [if_neg e1]
   split
   ·rfl
   ·rename_i q
    rw [if_neg q] at h
    simp at h
  have hr:rnI ns x=x:=by
   unfold rnI isK
   rw [hk]
   rfl
  rw [hr]
  unfold I8 Ou
  rw [hk]
  simp
 ·rw [if_neg e] at h
  have h':=of_decide_eq_true h
  have e1:x % 2=1:=by omega
  have hk:H8 x=2:=by
   unfold H8 Rq
   rw [if_pos e1,if_pos (decide_eq_true (by omega))]
  have hi:(x / 2).toNat<ns.length:=by omega
  have hr:rnI ns x=2 * (plc ns (x / 2).toNat:Int)+1:=by
   unfold rnI isK
   rw [hk,if_pos hi]
   rfl
  have h4:=Z7 hi
  have hk2:H8 (2 * (plc ns (x / 2).toNat:Int)+1)=2:=by
   unfold H8 Rq
   rw [if_pos (by omega),if_pos (decide_eq_true (by omega))]
  have hd:(2 * (plc ns (x / 2).toNat:Int)+1) / 2=(plc ns (x / 2).toNat:Int):=by omega
  rw [hr]
  unfold I8 Ou
  rw [hk2,hd]
  have hm:((plc ns (x / 2).toNat:Nat):Int) ∈ ints (plcs ns):=List.mem_map.2 ⟨_,mem_plcs.2 ⟨_,hi,rfl⟩,rfl⟩
  refine ⟨by simpa using hm,?_⟩
  rw [decide_eq_false (show ¬ (2000:Int)<=((plc ns (x / 2).toNat:Nat):Int) from by omega)]
  simp
theorem Yg {g:Gr} (h:T9 g):RightAt (C4 g) (plcs g.nodes):=by
 obtain ⟨hn,hr,hh,hnd,hu,hro,hp⟩:=h
 have hw:(M0 g.nodes).length=3200:=Qs (by omega)
 have nth:∀ i,i<g.nodes.length->g.nodes.getD i nd0 ∈ g.nodes:=fun i hi=>by simp [hi]
 refine ⟨⟨hw,?_,?_,?_,g.nodes.length,0,0,?_,?_,?_,?_⟩,?_,hh,?_,⟨?_,?_⟩,?_,?_,?_,?_⟩
 ·show (0:Int)<=(plc g.nodes g.nodes.length:Nat)/\_
  exact ⟨by omega,by show ((plc g.nodes g.nodes.length:Nat):Int)<=2000;omega⟩
 ·exact ⟨by show (2000:Int)<=2000;omega,by show (2000:Int)<=2600;omega⟩
 ·exact ⟨by show (2600:Int)<=2600;omega,by show (2600:Int)<=2600+300;omega⟩
 ·refine ⟨?_,fun i hi=>?_⟩
  ·show it (M0 g.nodes) 0 g.nodes.length=(((plc g.nodes g.nodes.length:Nat):Int)).toNat
   rw [Ws _ (Nat.le_refl _),Int.toNat_natCast]
  ·show M7 (M0 g.nodes) (it (M0 g.nodes) 0 i)=true
   rw [Ws i (by omega)]
   obtain ⟨q1,q2,q3,q4,q5⟩:=hnd _ (nth i hi)
   unfold M7
   rw [Vo hi,Jap hi,Jhf hi]
   rw [decide_eq_true (show (0:Int)<=((g.nodes.getD i nd0).fl.length:Int)/\((g.nodes.getD i nd0).fl.length:Int)<=60 from by omega),decide_eq_true q1]
   rfl
 ·exact ⟨rfl,fun i hi=>by omega⟩
 ·exact ⟨rfl,fun i hi=>by omega⟩
 ·show plcs g.nodes=its (M0 g.nodes) 0 g.nodes.length ++ _ ++ _
  rw [Jiy,Ow,Ow]
  simp
 ·intro i hi hnu
  refine Jdi ?_
  unfold Pg at hnu
  have:¬ (i:Int)<((plc g.nodes g.nodes.length:Nat):Int):=fun q=>hnu (.inl q)
  omega
 ·intro a ha
  obtain ⟨i,hi,rfl⟩:=mem_plcs.1 ha
  show 1<=gw (M0 g.nodes) (plc g.nodes i+2)
  rw [To hi]
  exact (hnd _ (nth i hi)).2.1
 ·intro a ha
  obtain ⟨i,hi,rfl⟩:=mem_plcs.1 ha
  show gw (M0 g.nodes) (plc g.nodes i+2)<g.hash
  rw [To hi]
  exact (hnd _ (nth i hi)).2.2.1
 ·show (I4 (M0 g.nodes) (plcs g.nodes)).Nodup
  have:I4 (M0 g.nodes) (plcs g.nodes)=g.nodes.map Nd.hash:=by
   unfold I4 plcs
   rw [List.map_map]
   refine List.ext_getElem (by simp) fun j h1 h2=>?_
   have hj:j<g.nodes.length:=by simpa using h1
   rw [List.getElem_map,List.getElem_map,List.getElem_range]
   show gw (M0 g.nodes) (plc g.nodes j+2)=_
   rw [To hj]
   simp [hj]
  rw [this]
  exact hu
 ·show (g.roots.map (rnI g.nodes)).length<=20
  rw [List.length_map]
  exact hr
 ·intro x hx
  obtain ⟨y,hy,rfl⟩:=List.mem_map.1 hx
  exact (Yi hn hp (hro y hy)).1
 ·intro a ha
  obtain ⟨i,hi,rfl⟩:=mem_plcs.1 ha
  refine fld_mem.1 fun x hx=>?_
  have hx' : x ∈ flds (M0 g.nodes) (plc g.nodes i):=hx
  rw [Ve hi] at hx'
  obtain ⟨y,hy,rfl⟩:=List.mem_map.1 hx'
  exact (Yi hn hp ((hnd _ (nth i hi)).2.2.2.2 y hy)).1
 ·show N9 (M0 g.nodes) (plcs g.nodes)=[]
  unfold N9 ints
  rw [List.map_eq_nil_iff,List.filter_eq_nil_iff]
  intro a ha
  obtain ⟨i,hi,rfl⟩:=mem_plcs.1 ha
  have:Tg (M0 g.nodes) (plc g.nodes i)=false:=by
   unfold Tg
   rw [Ve hi,List.any_eq_false]
   intro x hx
   obtain ⟨y,hy,rfl⟩:=List.mem_map.1 hx
   rw [(Yi hn hp ((hnd _ (nth i hi)).2.2.2.2 y hy)).2]
   simp
  rw [this]
  simp
theorem Jbj {F l:List Nat} {x:Int} (hf:I8 l x=true) (hm:isK 2 x=true->(x / 2).toNat ∈ F):M9 F.length (ren F x)=true:=by
 unfold M9 ren
 by_cases k:isK 2 x=true
 ·rw [if_pos k]
  have:=List.idxOf_lt_length_of_mem (hm k)
  rw [if_neg (by omega)]
  exact decide_eq_true (by omega)
 ·rw [if_neg k]
  have k1:H8 x=1:=by
   unfold I8 at hf
   unfold isK at k
   simp only [Bool.or_eq_true,decide_eq_true_eq,Bool.and_eq_true] at hf k
   rcases hf with q|q
   ·exact q
   ·exact absurd q.1 k
  have e:x % 2=0:=by
   unfold H8 at k1
   split at k1
   ·split at k1 <;> omega
   ·omega
  rw [if_pos e]
  unfold Pn
  rw [k1]
  rfl
theorem Jfu {W:List Int} {l F:List Nat} (n1:(I4 W l).Nodup) (nF:F.Nodup) (hs:F ⊆ l):((F.map (J3 W F)).map Nd.hash).Nodup:=by
 have e:(F.map (J3 W F)).map Nd.hash=F.map fun a=>gw W (a+2):=by
  rw [List.map_map]
  rfl
 rw [e]
 unfold I4 at n1
 unfold List.Nodup at n1 ⊢
 rw [List.pairwise_map] at n1 ⊢
 refine List.Pairwise.imp_of_mem ?_ nF
 intro a b ha hb hab
 obtain ⟨i,hi,rfl⟩:=List.getElem_of_mem (hs ha)
 obtain ⟨j,hj,rfl⟩:=List.getElem_of_mem (hs hb)
 have ne:i ≠ j:=fun e=>hab (by subst e;rfl)
 rw [List.pairwise_iff_getElem] at n1
 rcases Nat.lt_or_gt_of_ne ne with q|q
 ·exact n1 i j hi hj q
 ·exact fun e=>n1 j i hj hi q e.symm
theorem Jdb {h:Hp} {l F:List Nat} (r:RightAt h l) (hs:F ⊆ l) (hn:F.Nodup) (hr:∀ x,x ∈ h.roots->isK 2 x=true->(x / 2).toNat ∈ F) (hf:∀ a,a ∈ F->∀ x,x ∈ flds h.words a->isK 2 x=true->(x / 2).toNat ∈ F)
  (hp:plc (F.map (J3 h.words F)) (F.map (J3 h.words F)).length<=2000):T9 (shG h.words h.roots F h.hash):=by
 have hc:=Zi (F.map (J3 h.words F))
 have hl:(F.map (J3 h.words F)).length=F.length:=List.length_map _
 obtain ⟨q1,q2,q3,q4,q5,q6,q7,q8,q9⟩:=id r
 refine ⟨by show (F.map (J3 h.words F)).length<=500;omega,by show (h.roots.map (ren F)).length<=20;rw [List.length_map];exact q6,q3,?_,Jfu q5.2 hn hs,?_,hp⟩
 ·intro n hnn
  obtain ⟨a,ha,rfl⟩:=List.mem_map.1 (show n ∈ F.map (J3 h.words F) from hnn)
  have hal:=hs ha
  obtain ⟨_,_,hd⟩:=q1.obj hal
  have hz:=L6 hd
  unfold M7 at hd
  simp only [Bool.and_eq_true,decide_eq_true_eq] at hd
  refine ⟨hd.2.1,q4 a hal,q5.1 a hal,?_,?_⟩
  ·show ((flds h.words a).map (ren F)).length<=60
   rw [List.length_map,N5]
   omega
  ·intro x hx
   obtain ⟨y,hy,rfl⟩:=List.mem_map.1 (show x ∈ (flds h.words a).map (ren F) from hx)
   show M9 (F.map (J3 h.words F)).length _=true
   rw [hl]
   exact Jbj (Qt r hal y hy) (fun k=>hf a ha y hy k)
 ·intro x hx
  obtain ⟨y,hy,rfl⟩:=List.mem_map.1 (show x ∈ h.roots.map (ren F) from hx)
  show M9 (F.map (J3 h.words F)).length _=true
  rw [hl]
  exact Jbj (q7 y hy) (fun k=>hr y hy k)
theorem Zs {h:Hp} {l:List Nat} (r:RightAt h l) (hp:plc (shP h).nodes (shP h).nodes.length<=2000):T9 (shP h):=by
 have a1:=Sb r
 have a2:=Jfl h.words h.roots
 have a3:∀ x,x ∈ h.roots->isK 2 x=true->(x / 2).toNat ∈ C8 h.words h.roots:=fun x hx k=>Vq hx k
 have a4:∀ a,a ∈ C8 h.words h.roots->∀ x,x ∈ flds h.words a->isK 2 x=true->(x / 2).toNat ∈ C8 h.words h.roots:=fun a ha x hx k=>Uh r ha hx k
 unfold shP at hp ⊢
 generalize C8 h.words h.roots=F at *
 exact Jdb r a1 a2 a3 a4 hp
def Jae (g:Gr):Prop:=T9 g/\shP (C4 g)=g
noncomputable def Ob (g:Gr):Bool:=@decide (Jae g) (Classical.propDecidable _)
theorem Zt {g:Gr} (h:Jae g):Ob g=true:=@decide_eq_true _ (Classical.propDecidable _) h
theorem Ub {g:Gr} (h:¬ Jae g):Ob g=false:=@decide_eq_false _ (Classical.propDecidable _) h
theorem Rk {g:Gr} (h:Ob g=true):Jae g:=@of_decide_eq_true _ (Classical.propDecidable _) h
theorem Jha {g:Gr} (hp:plc g.nodes g.nodes.length<=2000) (hk:okC (C4 g)=true) (hs:shP (C4 g)=g):Jae g:=by
 refine ⟨?_,hs⟩
 have:=Zs (Oa hk) (by rw [hs];exact hp)
 rwa [hs] at this
theorem Ym {g:Gr} (h:Jae g):okC (C4 g)=true:=(Vy (Yg h.1)).1
end Go.Proofs.YtboiknllmnfipaaGreatDoor
/- Worlds that have grown outside of some blocks. -/
namespace Go.Proofs.YtboiknllmnfipaaGreatDoor
open Go.RowKit
structure Grew (w w' : World) (S:Nat->Prop):Prop where
 os:w'.os=w.os
 tape:w'.tape=w.tape
 output:w'.output=w.output
 size:w.heap.size<=w'.heap.size
 block:∀ k,k<w.heap.size->¬ S k->w'.heap[k]?=w.heap[k]?
theorem Grew.refl (w:World) (S:Nat->Prop):Grew w w S:=⟨rfl,rfl,rfl,Nat.le_refl _,fun _ _ _=>rfl⟩
theorem Grew.mono {w w' : World} {S T:Nat->Prop} (h:Grew w w' S) (k:∀ b,b<w.heap.size->S b->T b):Grew w w' T :=
 ⟨h.os,h.tape,h.output,h.size,fun b hb hn=>h.block b hb (fun s=>hn (k b hb s))⟩
theorem Grew.trans {a b c:World} {S:Nat->Prop} (h:Grew a b S) (k:Grew b c S):Grew a c S :=
 ⟨k.os.trans h.os,k.tape.trans h.tape,k.output.trans h.output,Nat.le_trans h.size k.size,fun i hi hn=>(k.block i (Nat.lt_of_lt_of_le hi h.size) hn).trans (h.block i hi hn)⟩
theorem Grew.trans' {a b c:World} {S T:Nat->Prop} (h:Grew a b S) (k:Grew b c T) (hT:∀ x,T x->S x ∨ a.heap.size<=x):Grew a c S :=
 ⟨k.os.trans h.os,k.tape.trans h.tape,k.output.trans h.output,Nat.le_trans h.size k.size,fun i hi hn=>(k.block i (Nat.lt_of_lt_of_le hi h.size) (fun q=>(hT i q).elim hn (fun z=>by omega))).trans (h.block i hi hn)⟩
theorem Grew.new {w w' : World} (h:Below w.heap.size w w') (S:Nat->Prop):Grew w w' S:=⟨h.os,h.tape,h.output,h.size,fun k hk _=>h.block k hk⟩
theorem Grew.grown {w w' : World} {row:Option Nat} (h:w.grownBy w' row):Grew w w' (fun k=>row=some k):=⟨h.os,h.tape,h.output,h.size,fun k hk hn=>h.block k hk (fun e=>hn e.symm)⟩
theorem Grew.set (w:World) (b i:Nat) (v:Value):Grew w (w.setCell ⟨b,i,none⟩ v) (fun k=>k=b) :=
 ⟨rfl,rfl,rfl,by simp [World.setCell],fun k _ hn=>Below.heap_setCell _ _ _ _ hn⟩
theorem Grew.below {w w' : World} {S:Nat->Prop} {B:Nat} (h:Grew w w' S) (hB:B<=w.heap.size) (k:∀ b,b<w.heap.size->S b->B<=b):Below B w w' :=
 ⟨h.os,h.tape,h.output,h.size,fun b hb=>h.block b (by omega) (fun s=>by have:=k b (by omega) s;omega)⟩
theorem Grew.drew {w w' : World} {S:Nat->Prop} (h:Grew w w' S):Grew w w'.drew S:=⟨h.os,h.tape,h.output,h.size,h.block⟩
theorem Grew.cell {w w' : World} {S:Nat->Prop} {b o:Nat} {v:Value} (h:Grew w w' S) (hc:w.cell? ⟨b,o,none⟩=some v) (hn:¬ S b):w'.cell? ⟨b,o,none⟩=some v :=
 (World.cell?_of_block (w:=w) (h.block b (World.block_lt_of_cell? _ _ hc) hn)).trans hc
theorem Grew.row {w w' : World} {S:Nat->Prop} {b t n:Nat} {f:Nat->Value} (h:Grew w w' S) (hr:w.rowIs b t n f) (hn:¬ S b):w'.rowIs b t n f:=hr.of_block (h.block b hr.lt hn)
theorem Grew.own {w w' : World} {S:Nat->Prop} {B e size n:Nat} {v:Value} {xs:List Value} (h:Grew w w' S) (ho:w.ownsRow B e size v n xs) (hn:∀ b,v.ownBlock=some b->¬ S b):w'.ownsRow B e size v n xs:=by
 have hlt:=ho.lt
 obtain ⟨hl,ho⟩:=ho
 refine ⟨hl,?_⟩
 rcases ho with ho|⟨g,cap,cur,rfl,hB,hh,h1⟩
 ·exact .inl ho
 ·exact .inr ⟨g,cap,cur,rfl,hB,(h.block g (hlt g rfl).2 (hn g rfl)).trans hh,h1⟩
def inB (v:Value) (b:Nat):Prop:=∃ o n c,v=.slice (some ⟨b,o,none⟩) n c/\0<n
theorem IR.inlt {w:World} {v:Value} {l:List Int} (h:IR w v l) {b:Nat} (k:inB v b):b<w.heap.size:=by
 obtain ⟨o,n,c,e,hn⟩:=k
 exact h.lt _ _ _ e hn
theorem Grew.ir {w w' : World} {S:Nat->Prop} {v:Value} {l:List Int} (h:Grew w w' S) (hv:IR w v l) (hn:∀ b,inB v b->¬ S b):IR w' v l:=by
 obtain ⟨ao,cap,rfl,hle,hc⟩:=hv
 refine ⟨ao,cap,rfl,hle,fun i hi=>?_⟩
 obtain ⟨b,o,rfl,q⟩:=hc i hi
 exact ⟨b,o,rfl,h.cell q (hn b ⟨o,_,_,rfl,by omega⟩)⟩
theorem Oh {w:World} {B e size n b:Nat} {v:Value} {xs:List Value} (h:w.ownsRow B e size v n xs) (k:inB v b):v.ownBlock=some b:=by
 obtain ⟨o,m,c,rfl,hm⟩:=k
 rcases h.2 with ⟨e0,_⟩|⟨g,cap,cur,e0,_⟩
 ·cases e0
 ·injection e0 with e1
  injection e1 with e1
  injection e1 with e1
  subst e1
  rfl
theorem H7 {w:World} {B e size n:Nat} {v:Value} {xs:List Value} (h:w.ownsRow B e size v n xs):∃ ao cap,v=.slice ao n cap:=by
 rcases h.2 with ⟨rfl,rfl⟩|⟨g,cap,cur,rfl,_⟩
 ·exact ⟨none,0,rfl⟩
 ·exact ⟨_,cap,rfl⟩
/-! Maps -/
theorem Pr {w:World} {B B' e size n:Nat} {v:Value} {xs:List Value} (h:w.ownsRow B e size v n xs) (hB:B' <= B):w.ownsRow B' e size v n xs:=by
 obtain ⟨hl,h⟩:=h
 refine ⟨hl,?_⟩
 rcases h with h|⟨g,cap,cur,hv,hb,hh⟩
 ·exact .inl h
 ·exact .inr ⟨g,cap,cur,hv,Nat.le_trans hB hb,hh⟩
end Go.Proofs.YtboiknllmnfipaaGreatDoor
/- Worlds that have grown outside of some blocks; maps from numbers to numbers; appending, with where the new row lies. -/
namespace Go.Proofs.YtboiknllmnfipaaGreatDoor
open Go.RowKit Go.Maps
theorem Jlu:Keyed Tryz.prog 2:=int_keyed Tryz.underlying2
theorem Jln (w:World):(zeroValue 2).run Tryz.prog w=.ok (.int .i64 0) w:=by kernel_rfl
theorem Jky {k:Int} (h:N8 k):(Lit.int .i64 k).wf=true:=WalkArith.wf_i64 (by unfold N8 at h;omega)
def MP (w:World) (b n:Nat) (f:Int->Option Int):Prop :=
 ∃ D:DataW Unit,w.ownsMap Tryz.prog 2 (plainElem Tryz.prog 2) b n D/\∀ k,N8 k->Maps.has D (.int .i64 k)=(f k).isSome/\D.atKey (.int .i64 k) (.lit (.int .i64 0))=.lit (.int .i64 ((f k).getD 0))
theorem MP.lt {w:World} {b n:Nat} {f:Int->Option Int} (h:MP w b n f):b<w.heap.size:=by
 obtain ⟨D,h,_⟩:=h
 exact h.lt
theorem MP.made (w:World):MP (w.alloc (.map #[] 0)) w.heap.size 0 (fun _=>none) :=
 ⟨.map [],World.ownsMap_made _ _ _ _,fun _ _=>⟨rfl,rfl⟩⟩
theorem Grew.mp {w w' : World} {S:Nat->Prop} {b n:Nat} {f:Int->Option Int} (h:Grew w w' S) (hm:MP w b n f) (hn:¬ S b):MP w' b n f:=by
 have hlt:=hm.lt
 obtain ⟨D,⟨es,clock,hb,r⟩,q⟩:=hm
 exact ⟨D,⟨es,clock,(h.block b hlt hn).trans hb,r⟩,q⟩
theorem MP.later {w w' : World} {b n:Nat} {f:Int->Option Int} (hm:MP w b n f) (h:Below w.heap.size w w'):MP w' b n f:=(Grew.new h (fun _=>False)).mp hm (fun x=>x)
def Jdr (f:Int->Option Int) (k v:Int):Int->Option Int:=fun j=>if j=k then some v else f j
section
variable {ops : Array Oper} {rest : List Oper} {o : Oper} {a : Act} {Q : Exit -> Act -> World -> Prop}
theorem Jdt (w:World) (hg:o.guard=none) (m x:Operand) (hop:o.op=Op.lookup 44 m x true) (b n:Nat) (f:Int->Option Int) (hm:a.eval m=.map (some b)) (hM:MP w b n f)
  (k:Int) (hx:a.eval x=.int .i64 k) (hk:N8 k) (h:wpList Tryz.prog ops Q rest (a.put o.dst (.tuple #[.int .i64 ((f k).getD 0),.bool (f k).isSome])) w):wpList Tryz.prog ops Q (o::rest) a w:=by
 obtain ⟨D,hown,hD⟩:=hM
 refine wpList_lookup_own_ok_int w hg m x 44 hop 2 2 .i64 Jlu Tryz.underlying44 Tryz.underlying2 (Jln _) b n D hm hown _ _ hx (keyOf_int_mk Tryz.underlying2 (Jky hk)) (fun c hc _=>?_)
 obtain ⟨h1,h2⟩:=hD k hk
 rw [h2] at hc
 simp only [DataW.lit.injEq,Lit.int.injEq,true_and] at hc
 rw [h1,← hc]
 exact h
theorem Jdu (w:World) (hg:o.guard=none) (m x:Operand) (hop:o.op=Op.lookup 44 m x false) (b n:Nat) (f:Int->Option Int) (hm:a.eval m=.map (some b)) (hM:MP w b n f)
  (k:Int) (hx:a.eval x=.int .i64 k) (hk:N8 k) (h:wpList Tryz.prog ops Q rest (a.put o.dst (.int .i64 ((f k).getD 0))) w):wpList Tryz.prog ops Q (o::rest) a w:=by
 obtain ⟨D,hown,hD⟩:=hM
 refine wpList_lookup_own_int w hg m x 44 hop 2 2 .i64 Jlu Tryz.underlying44 Tryz.underlying2 (Jln _) b n D hm hown _ _ hx (keyOf_int_mk Tryz.underlying2 (Jky hk)) (fun c hc _=>?_)
 obtain ⟨h1,h2⟩:=hD k hk
 rw [h2] at hc
 simp only [DataW.lit.injEq,Lit.int.injEq,true_and] at hc
 rw [<- hc]
 exact h
end
theorem MP.update {w:World} {b n:Nat} {f:Int->Option Int} (hM:MP w b n f) (hn:n<=1000000000000) (k v:Int) (hk:N8 k) (hv:N8 v) :
  ∃ w',(Instr.mapUpdate 44 (.map (some b)) (.int .i64 k) (.int .i64 v)).run Tryz.prog w=.ok () w' /\ MP w' b (n+1) (Jdr f k v)/\w.grownBy w' (some b):=by
 obtain ⟨D,hown,hD⟩:=hM
 have hI:IsMap D:=hown.isMap
 obtain ⟨w',hr,ho,hg⟩:=hown.update Jlu Tryz.underlying44 (by unfold maxLen;omega) (keyOf_int_mk Tryz.underlying2 (Jky hk)) (plainElem_int Tryz.underlying2 (Jky hv))
 refine ⟨w',hr,⟨_,ho,fun j hj=>?_⟩,hg⟩
 unfold Jdr
 by_cases e:j=k
 ·subst e
  rw [if_pos rfl,has_put_same (k:=.int .i64 j) hI trivial,atKey_put_same (k:=.int .i64 j) hI trivial]
  exact ⟨rfl,rfl⟩
 ·have ne:(Lit.int .i64 j) ≠ .int .i64 k:=fun q=>e (by simpa using q)
  rw [if_neg e,has_put_other ne,atKey_put_other ne]
  exact hD j hj
/-! Appending one number, and where the new row lies. -/
theorem St {ops:Array Oper} {rest:List Oper} {o:Oper} {a:Act} {Q:Exit->Act->World->Prop} (w:World) (hgd:o.guard=none) (s x:Operand)
  (ho:o.op=.call { callee:=.builtin .append,args:=#[s,x],argTypes:=#[24,24] }) (B:Nat) (v:Value) (n:Nat) (xs:List Value) (hs:a.eval s=v) (hown:w.ownsRow B 2 1 v n xs)
  (g c:Nat) (z:Int) (hx:a.eval x=.slice (some ⟨g,0,none⟩) 1 c) (hc:w.cell? ⟨g,0,none⟩=some (.int .i64 z)) (hn:n<=1000000000000) (hB:B<=w.heap.size)
  (h:∀ v' w',w'.ownsRow B 2 1 v' (n+1) (xs ++ [.int .i64 z])->w.grownBy w' v.ownBlock->(v'.ownBlock=v.ownBlock ∨ v'.ownBlock=some w.heap.size)->wpList Tryz.prog ops Q rest (a.put o.dst v') w'):wpList Tryz.prog ops Q (o::rest) a w:=by
 obtain ⟨i,hi,hzz⟩:=Option.map_eq_some_iff.1 Tryz.infoI
 simp only [Prod.mk.injEq] at hzz
 obtain ⟨hz,hsz,hby⟩:=hzz
 refine wpList_append_own_at w hgd s x 24 ho B 2 i _ 1 8 Tryz.underlying24 hi hz hsz hby rfl (by omega) v n xs hs hown ⟨g,0,none⟩ 1 c [.int .i64 z] hx rfl (fun j u hj=>?_) (fun u hu=>?_) (by unfold maxLen;omega) (by omega) hB (fun v' w' h1 h2 _ h4=>h v' w' h1 h2 h4)
 ·match j,hj with
  | 0,hj=>simp at hj;subst hj;simpa [Addr.add] using hc
 ·simp at hu;subst hu;rfl
theorem Tryz.infoN:(Tryz.prog.info? 41).map (fun i=>(i.zero,i.size,i.bytes))=some (some (.agg #[.int .i64 0,.int .i64 0,.slice none 0 0]),3,40):=by kernel_rfl
theorem Xy {ops:Array Oper} {rest:List Oper} {o:Oper} {a:Act} {Q:Exit->Act->World->Prop} (w:World) (hgd:o.guard=none) (s x:Operand)
  (ho:o.op=.call { callee:=.builtin .append,args:=#[s,x],argTypes:=#[25,25] }) (B:Nat) (v:Value) (n:Nat) (xs:List Value) (hs:a.eval s=v) (hown:w.ownsRow B 41 3 v n xs)
  (g c:Nat) (z y:Int) (fa:Option Addr) (fn fc:Nat) (hx:a.eval x=.slice (some ⟨g,0,none⟩) 1 c) (hc:w.cell? ⟨g,0,none⟩=some (.int .i64 z)/\w.cell? ⟨g,1,none⟩=some (.int .i64 y)/\w.cell? ⟨g,2,none⟩=some (.slice fa fn fc)) (hn:n<=1000000000) (hB:B<=w.heap.size)
  (h:∀ v' w',w'.ownsRow B 41 3 v' (n+1) (xs ++ [.int .i64 z,.int .i64 y,.slice fa fn fc])->w.grownBy w' v.ownBlock->(v'.ownBlock=v.ownBlock ∨ v'.ownBlock=some w.heap.size)->wpList Tryz.prog ops Q rest (a.put o.dst v') w'):wpList Tryz.prog ops Q (o::rest) a w:=by
 obtain ⟨i,hi,hzz⟩:=Option.map_eq_some_iff.1 Tryz.infoN
 simp only [Prod.mk.injEq] at hzz
 obtain ⟨hz,hsz,hby⟩:=hzz
 refine wpList_append_own_at w hgd s x 25 ho B 41 i _ 3 40 Tryz.underlying25 hi hz hsz hby rfl (by omega) v n xs hs hown ⟨g,0,none⟩ 1 c [.int .i64 z,.int .i64 y,.slice fa fn fc] hx rfl (fun j u hj=>?_) (fun u hu=>?_) (by unfold maxLen;omega) (by omega) hB (fun v' w' h1 h2 _ h4=>h v' w' h1 h2 h4)
 ·match j,hj with
  | 0,hj=>simp at hj;subst hj;simpa [Addr.add] using hc.1
  | 1,hj=>simp at hj;subst hj;simpa [Addr.add] using hc.2.1
  | 2,hj=>simp at hj;subst hj;simpa [Addr.add] using hc.2.2
 ·simp at hu;rcases hu with rfl|rfl|rfl <;> rfl
end Go.Proofs.YtboiknllmnfipaaGreatDoor
/- l6Told of the model: a word with its object's number. -/
namespace Go.Proofs.YtboiknllmnfipaaGreatDoor
open Go.RowKit
def nmF (o:List Nat) (i:Nat):Value:=.int .i64 (if i ∈ o then ((o.idxOf i:Nat):Int)+1 else 0)
def Wo (b3 B:Nat) (ov:Value) (o:List Nat) (x:Int) (w:World) (e:Ending) (w' : World):Prop :=
 ∃ ov',e=.returned (.tuple #[.int .i64 (ren (On o x) x),ov'])/\w'.rowIs b3 2 3200 (nmF (On o x))/\w'.ownsRow B 2 1 ov' (On o x).length (icells (ints (On o x)))/\ov'.ownBlock ≠ some b3 ∧
  (ov'.ownBlock=ov.ownBlock ∨ ∃ b,ov'.ownBlock=some b/\w.heap.size<=b)/\Grew w w' (fun k=>k=b3 ∨ ov.ownBlock=some k)
theorem Jgi {x:Int} (h:isK 2 x=true):∃ a:Nat,a<3200/\(x / 2).toNat=a/\(x.tmod 2 == 0)=false/\x.tdiv 2=(a:Int):=by
 unfold isK H8 at h
 have h':=of_decide_eq_true h
 split at h'
 ·rename_i h1
  split at h'
  ·rename_i h2
   unfold Rq at h2
   have h3:=of_decide_eq_true h2
   refine ⟨(x / 2).toNat,by omega,rfl,by rw [L9];exact decide_eq_false (by omega),?_⟩
   rw [Int.tdiv_eq_ediv_of_nonneg (by omega)]
   omega
  ·omega
 ·split at h' <;> omega
theorem Jat {x:Int} (h:x % 2=0):isK 2 x=false:=by
 unfold isK H8
 rw [if_neg (by omega)]
 split <;> rfl
theorem Jme {w:World} {b:Nat} {o:List Nat} {a:Nat} (h:w.rowIs b 2 3200 (nmF o)) (ha:a ∉ o):(w.setCell ⟨b,a,none⟩ (.int .i64 ((o.length:Int)+1))).rowIs b 2 3200 (nmF (o ++ [a])):=by
 refine (h.set a _).congr fun i _=>?_
 unfold nmF
 by_cases e:i=a
 ·subst e
  rw [if_pos rfl,if_pos (by simp),List.idxOf_append,if_neg ha]
  simp
 ·rw [if_neg e]
  by_cases m:i ∈ o
  ·rw [if_pos m,if_pos (by simp [m]),List.idxOf_append,if_pos m]
  ·rw [if_neg m,if_neg (by simp [m,e])]
set_option maxHeartbeats 1600000 in
theorem W4 (b3 c3 B:Nat) (ov:Value) (o:List Nat) (x:Int) (w:World) (hrow:w.rowIs b3 2 3200 (nmF o)) (hov:w.ownsRow B 2 1 ov o.length (icells (ints o))) (hap:ov.ownBlock ≠ some b3) (hB:B<=w.heap.size) (hx:x % 2=0 ∨ isK 2 x=true) (hl:o.length<=3200) :
  Calls Tryz.prog 53 #[.slice (some ⟨b3,0,none⟩) 3200 c3,ov,.int .i64 x] w fun e w'=>Wo b3 B ov o x w e w':=by
 rcases hx with hx|hx
 ·have t:(x.tmod 2 == 0)=true:=by rw [L9];exact decide_eq_true hx
  have f:On o x=o:=by unfold On;rw [Jat hx];rfl
  have r:ren o x=x:=by unfold ren;rw [Jat hx];rfl
  have G:Hid (Wo b3 B ov o x w (.returned (.tuple #[.int .i64 x,ov])) w):=⟨ov,by rw [f,r],by rw [f];exact hrow,by rw [f];exact hov,hap,.inl rfl,Grew.refl _ _⟩
  clear f r hx hrow hov
  go_enter Tryz.func53,Tryz.ntmps53
  go_wp2
  exact bodyPost_ret (v:=.tuple #[.int .i64 x,ov]) (by simp [results,Tryz.results53,go_sem]) rfl G.out
 ·obtain ⟨a,ha,hat,t,hd⟩:=Jgi hx
  have hai:(a:Int)<3200:=by omega
  have c0:=hrow.cell (i:=a) ha
  by_cases hm:a ∈ o
  ·have f:On o x=o:=by unfold On;rw [if_pos hx,hat,if_pos hm]
   have r:ren o x=2 * ((o.idxOf a:Nat):Int)+1:=by unfold ren;rw [if_pos hx,hat]
   have G:Hid (Wo b3 B ov o x w (.returned (.tuple #[.int .i64 (2 * ((o.idxOf a:Nat):Int)+1),ov])) w):=⟨ov,by rw [f,r],by rw [f];exact hrow,by rw [f];exact hov,hap,.inl rfl,Grew.refl _ _⟩
   have hi:o.idxOf a<3200:=Nat.lt_of_lt_of_le (List.idxOf_lt_length_of_mem hm) hl
   unfold nmF at c0
   rw [if_pos hm] at c0
   clear f r hx hrow hov hat hm
   generalize o.idxOf a=m at *
   have ne:((m:Int)+1 == 0)=false:=by simp;omega
   go_enter Tryz.func53,Tryz.ntmps53
   go_wp2
   exact bodyPost_ret (v:=.tuple #[.int .i64 (2 * (m:Int)+1),ov]) (by simp [results,Tryz.results53,go_sem]) rfl G.out
  ·have f:On o x=o ++ [a]:=by unfold On;rw [if_pos hx,hat,if_neg hm]
   have r:ren (o ++ [a]) x=2 * ((o.length:Nat):Int)+1:=by
    unfold ren
    rw [if_pos hx,hat,List.idxOf_append,if_neg hm]
    simp
   unfold nmF at c0
   rw [if_neg hm] at c0
   have FR:Hid (On o x=o ++ [a]/\ren (On o x) x=2 * ((o.length:Nat):Int)+1):=⟨f,by rw [f,r]⟩
   have NM:Hid (∀ W:World,W.rowIs b3 2 3200 (nmF o)->(W.setCell ⟨b3,a,none⟩ (.int .i64 ((o.length:Int)+1))).rowIs b3 2 3200 (nmF (o ++ [a]))):=fun W hW=>Jme hW hm
   have hs3:=hrow.lt
   have N0:Hid (nmF o a=.int .i64 0/\nmF (o ++ [a]) a=.int .i64 ((o.length:Int)+1)):=⟨by unfold nmF;rw [if_neg hm],by unfold nmF;rw [if_pos (by simp),List.idxOf_append,if_neg hm];simp⟩
   clear f r hx hat hm
   have al:=C5 w (.cells #[.int .i64 a] 2)
   have hov2:=E8 hov al
   have hrow2:(w.alloc (.cells #[.int .i64 a] 2)).rowIs b3 2 3200 (nmF o):=(Grew.new al (fun _=>False)).row hrow (fun q=>q)
   have hc:∀ W:World,(W.alloc (.cells #[.int .i64 a] 2)).cell? ⟨W.heap.size,0,none⟩=some (.int .i64 (a:Int)):=fun W=>by simp
   have HR:Hid ((w.alloc (.cells #[.int .i64 a] 2)).rowIs b3 2 3200 (nmF o)):=hrow2
   clear hrow hrow2
   go_enter Tryz.func53,Tryz.ntmps53
   go_wp2_with (at_builtin;refine St _ rfl _ _ rfl B _ o.length (icells (ints o)) rfl hov2 _ 1 a rfl (hc _) (by omega) (Nat.le_trans hB (by simp)) ?_;intro v4 w4 hown4 hg4 hloc;(obtain ⟨fo,fc,hv4⟩:∃ fo fc,v4=.slice fo (o.length+1) fc:=H7 hown4);subst hv4;have R4:=(Grew.grown hg4).row HR.out (fun q=>hap q);have R5:=NM.out _ R4;have hf4:=R4.frozen a;have c4:=R4.cell (i:=a) ha;have c5:=R5.cell (i:=a) ha;rw [N0.out.1] at c4;rw [N0.out.2] at c5)
   have hloc2:Value.ownBlock (.slice fo (o.length+1) fc)=ov.ownBlock ∨ Value.ownBlock (.slice fo (o.length+1) fc)=some (w.heap.size+1):=by
    rcases hloc with e|e
    ·exact .inl e
    ·exact .inr (by rw [e];simp)
   have hg5:(w.alloc (.cells #[.int .i64 a] 2)).grownBy w4 ov.ownBlock:=hg4
   have lv:Value.ownBlock (.slice fo (o.length+1) fc) ≠ some b3:=by
    rcases hloc2 with e|e
    ·rw [e];exact hap
    ·rw [e];simp;omega
   have P:Wo b3 B ov o x w (.returned (.tuple #[.int .i64 (2 * (o.length:Int)+1),.slice fo (o.length+1) fc])) (w4.setCell ⟨b3,a,none⟩ (.int .i64 ((o.length:Int)+1))):=by
    refine ⟨_,by rw [FR.out.2],by rw [FR.out.1];exact R5,?_,lv,?_,?_⟩
    ·rw [FR.out.1]
     have o5:=(Grew.set w4 b3 a (.int .i64 ((o.length:Int)+1))).own hown4 (fun b e q=>lv (by rw [e,q]))
     simpa [icells,ints] using o5
    ·rcases hloc2 with e|e
     ·exact .inl e
     ·exact .inr ⟨_,e,by omega⟩
    ·exact ((Grew.new al _).trans ((Grew.grown hg5).mono fun k _ e=>.inr e)).trans ((Grew.set w4 b3 a (.int .i64 ((o.length:Int)+1))).mono fun k _ e=>.inl e)
   exact bodyPost_ret (v:=.tuple #[.int .i64 (2 * (o.length:Int)+1),.slice fo (o.length+1) fc]) (by simp [results,Tryz.results53,go_sem]) rfl P
end Go.Proofs.YtboiknllmnfipaaGreatDoor
/- Rows of nodes, and graphs that were made since. -/
namespace Go.Proofs.YtboiknllmnfipaaGreatDoor
open Go.RowKit
def Trip (xs:List Value) (ns:List Nd) (fv:Nat->Value):Prop :=
 xs.length=ns.length * 3/\∀ i,i<ns.length->xs[i * 3]?=some (.int .i64 (ns.getD i nd0).cls)/\xs[i * 3+1]?=some (.int .i64 (ns.getD i nd0).hash)/\xs[i * 3+2]?=some (fv i)
theorem Trip.nil (fv:Nat->Value):Trip [] [] fv:=⟨rfl,fun i hi=>by simp at hi⟩
theorem Trip.snoc {xs:List Value} {ns:List Nd} {fv:Nat->Value} (h:Trip xs ns fv) (c z:Int) (fl:List Int) (f:Value) :
  Trip (xs ++ [.int .i64 c,.int .i64 z,f]) (ns ++ [⟨c,z,fl⟩]) (fun i=>if i=ns.length then f else fv i):=by
 obtain ⟨hl,h⟩:=h
 refine ⟨by simp [hl];omega,fun i hi=>?_⟩
 have hi' : i<ns.length+1:=by simpa using hi
 by_cases e:i=ns.length
 ·subst e
  rw [<- hl,List.getElem?_append_right (by omega),List.getElem?_append_right (by omega),List.getElem?_append_right (by omega)]
  simp
 ·have hlt:i<ns.length:=by omega
  obtain ⟨h0,h1,h2⟩:=h i hlt
  rw [List.getElem?_append_left (by omega),List.getElem?_append_left (by omega),List.getElem?_append_left (by omega)]
  have ef:(fun i=>if i=ns.length then f else fv i) i=fv i:=if_neg e
  rw [ef]
  have eg:(ns ++ [(⟨c,z,fl⟩:Nd)]).getD i nd0=ns.getD i nd0:=by simp [List.getD_eq_getElem?_getD,List.getElem?_append_left hlt]
  rw [eg]
  exact ⟨h0,h1,h2⟩
theorem Jft {w:World} {B e:Nat} {v:Value} {n:Nat} {xs:List Value} (h:w.ownsRow B e 3 v n xs):∃ ao cap,v=.slice ao n cap/\n<=cap/\∀ j,j<n * 3->∃ b,ao=some ⟨b,0,none⟩/\w.cell? ⟨b,j,none⟩=xs[j]?:=by
 obtain ⟨hl,h⟩:=h
 rcases h with ⟨rfl,rfl⟩|⟨g,cap,cur,rfl,hB,hh,h1,h2,h3,h4⟩
 ·exact ⟨none,0,rfl,Nat.le_refl _,fun i hi=>by omega⟩
 ·refine ⟨_,cap,rfl,h1,fun i hi=>⟨g,rfl,?_⟩⟩
  rw [<- h4,List.getElem?_take_of_lt (by omega)]
  simp [World.cell?,hh]
def NK (B:Nat) (w:World) (nv:Value) (ns:List Nd) (K:Nat->Prop):Prop :=
 ∃ xs fv,w.ownsRow B 41 3 nv ns.length xs/\Trip xs ns fv/\∀ i,i<ns.length->IR w (fv i) (ns.getD i nd0).fl/\∀ b,inB (fv i) b->K b
theorem NK.nr {B:Nat} {w:World} {nv:Value} {ns:List Nd} {K:Nat->Prop} (h:NK B w nv ns K):NR w nv ns:=by
 obtain ⟨xs,fv,ho,ht,hf⟩:=h
 obtain ⟨ao,cap,rfl,hle,hc⟩:=Jft ho
 refine ⟨ao,cap,rfl,hle,fun i hi=>?_⟩
 obtain ⟨b,rfl,c0⟩:=hc (i * 3) (by omega)
 obtain ⟨_,e1,c1⟩:=hc (i * 3+1) (by omega)
 obtain ⟨_,e2,c2⟩:=hc (i * 3+2) (by omega)
 cases e1
 cases e2
 obtain ⟨t0,t1,t2⟩:=ht.2 i hi
 obtain ⟨fa,fc,hfv,_⟩:=id (hf i hi).1
 refine ⟨b,0,fa,(ns.getD i nd0).fl.length,fc,rfl,?_,?_,?_,?_⟩
 ·rw [Nat.zero_add,c0,t0]
 ·rw [Nat.zero_add,c1,t1]
 ·rw [Nat.zero_add,c2,t2,hfv]
 ·rw [<- hfv]
  exact (hf i hi).1
theorem Grew.nk {w w' : World} {S K:Nat->Prop} {B:Nat} {nv:Value} {ns:List Nd} (h:Grew w w' S) (k:NK B w nv ns K) (h1:∀ b,nv.ownBlock=some b->¬ S b) (h2:∀ b,K b->¬ S b):NK B w' nv ns K:=by
 obtain ⟨xs,fv,ho,ht,hf⟩:=k
 exact ⟨xs,fv,h.own ho h1,ht,fun i hi=>⟨h.ir (hf i hi).1 (fun b q=>h2 b ((hf i hi).2 b q)),(hf i hi).2⟩⟩
theorem NK.base {w:World} {K:Nat->Prop} {B B' : Nat} {nv:Value} {ns:List Nd} (k:NK B w nv ns K) (h:B' <= B):NK B' w nv ns K:=by
 obtain ⟨xs,fv,ho,ht,hf⟩:=k
 exact ⟨xs,fv,Pr ho h,ht,hf⟩
def GRn (B:Nat) (w:World) (v:Value) (g:Gr):Prop:=∃ vr vn K,v=.agg #[vr,vn,.int .i64 g.hash]/\(IR w vr g.roots/\∀ b,inB vr b->K b)/\NK B w vn g.nodes K/\∀ b,K b->B<=b
theorem GRn.gr {B:Nat} {w:World} {v:Value} {g:Gr} (h:GRn B w v g):GR w v g:=by
 obtain ⟨vr,vn,K,e,hr,hn,_⟩:=h
 exact ⟨vr,vn,e,hr.1,hn.nr⟩
end Go.Proofs.YtboiknllmnfipaaGreatDoor
/- Graphs as they are read, and the parts of one that is being made. -/
namespace Go.Proofs.YtboiknllmnfipaaGreatDoor
open Go.RowKit
theorem Jad {w:World} {b t:Nat} {rv nv:Value} {hh:Int} (h:w.rowIs b t 3 (grF rv nv hh)) (u:Value):(w.setCell ⟨b,0,none⟩ u).rowIs b t 3 (grF u nv hh) :=
 (h.set 0 u).congr fun i _=>by unfold grF;by_cases e:i=0 <;> simp [e]
theorem Jab {w:World} {b t:Nat} {rv nv:Value} {hh:Int} (h:w.rowIs b t 3 (grF rv nv hh)) (u:Value):(w.setCell ⟨b,1,none⟩ u).rowIs b t 3 (grF rv u hh) :=
 (h.set 1 u).congr fun i _=>by
  unfold grF
  by_cases e:i=1
  ·simp [e]
  ·by_cases e0:i=0
   ·simp [e0]
   ·simp [e,e0]
def ndF (c z:Int) (f:Value) (i:Nat):Value:=if i=0 then .int .i64 c else if i=1 then .int .i64 z else f
theorem Jlb {w:World} {b t:Nat} {c z:Int} {f:Value} (h:w.rowIs b t 3 (ndF c z f)) (u:Value):(w.setCell ⟨b,2,none⟩ u).rowIs b t 3 (ndF c z u) :=
 (h.set 2 u).congr fun i hi=>by
  unfold ndF
  by_cases e:i=2
  ·simp [e]
  ·rw [if_neg e]
   by_cases e0:i=0
   ·simp [e0]
   ·by_cases e1:i=1
    ·simp [e1]
    ·omega
structure Sh1 (N:Nat) (W0 wr:World) (hh:Int) (o:List Nat) (rl:List Int) (ov rv:Value):Prop where
 bel:Below (N+2) W0 wr
 sz:N+5<=wr.heap.size
 num:wr.rowIs (N+2) 2 3200 (nmF o)
 ord:wr.ownsRow (N+3) 2 1 ov o.length (icells (ints o))
 ordg:ov.ownBlock ≠ some (N+4)
 g:wr.rowIs (N+4) 27 3 (grF rv (.slice none 0 0) hh)
 rt:wr.ownsRow (N+5) 2 1 rv rl.length (icells rl)
 ap:∀ b,rv.ownBlock=some b->ov.ownBlock ≠ some b
theorem Sh1.told {N:Nat} {W0 wr w1:World} {hh:Int} {o o1:List Nat} {rl:List Int} {ov rv ov1:Value} (s:Sh1 N W0 wr hh o rl ov rv)
  (r:w1.rowIs (N+2) 2 3200 (nmF o1)) (ho:w1.ownsRow (N+3) 2 1 ov1 o1.length (icells (ints o1))) (hl:ov1.ownBlock=ov.ownBlock ∨ ∃ b,ov1.ownBlock=some b/\wr.heap.size<=b)
  (g:Grew wr w1 (fun k=>k=N+2 ∨ ov.ownBlock=some k)):Sh1 N W0 w1 hh o1 rl ov1 rv:=by
 have hsz:=s.sz
 have ob:=s.ord.lt
 have rb:=s.rt.lt
 refine ⟨s.bel.trans (g.below (by omega) fun b _ q=>?_),Nat.le_trans s.sz g.size,r,ho,?_,g.row s.g ?_,g.own s.rt ?_,?_⟩
 ·rcases q with q|q
  ·omega
  ·have:=(ob b q).1;omega
 ·rcases hl with e|⟨b,e,hb⟩
  ·rw [e];exact s.ordg
  ·rw [e];simp;omega
 ·rintro (q|q)
  ·omega
  ·exact s.ordg q
 ·rintro b e (q|q)
  ·have:=(rb b e).1;omega
  ·exact s.ap b e q
 ·intro b e
  have:=(rb b e).2
  rcases hl with q|⟨b',q,hb⟩
  ·rw [q];exact s.ap b e
  ·rw [q];simp;omega
theorem Sh1.root {N:Nat} {W0 wr w2 w3:World} {hh:Int} {o:List Nat} {rl:List Int} {ov rv rv1:Value} {x:Int} (s:Sh1 N W0 wr hh o rl ov rv) (a:Below wr.heap.size wr w2)
  (ho:w3.ownsRow (N+5) 2 1 rv1 (rl.length+1) (icells rl ++ [.int .i64 x])) (g:w2.grownBy w3 rv.ownBlock) (hl:rv1.ownBlock=rv.ownBlock ∨ rv1.ownBlock=some w2.heap.size) :
  Sh1 N W0 (w3.setCell ⟨N+4,0,none⟩ rv1) hh o (rl ++ [x]) ov rv1:=by
 have hsz:=s.sz
 have ob:=s.ord.lt
 have rb:=s.rt.lt
 have az:=a.size
 have G1:Grew wr w3 (fun k=>rv.ownBlock=some k):=(Grew.new a _).trans (Grew.grown g)
 have gg:=G1.row s.g (fun q=>by have:=(rb _ q).1;omega)
 have G2:=Grew.set w3 (N+4) 0 rv1
 have ne4:∀ b,rv1.ownBlock=some b->b ≠ N+4:=fun b e=>by have:=(ho.lt b e).1;omega
 refine ⟨(s.bel.trans (G1.below (by omega) fun b _ q=>by have:=(rb b q).1;omega)).trans (G2.below (by have:=G1.size;omega) fun b _ q=>by omega),?_,?_,?_,s.ordg,Jad gg rv1,?_,?_⟩
 ·have:=G1.size;have:=G2.size;omega
 ·exact G2.row (G1.row s.num (fun q=>by have:=(rb _ q).1;omega)) (by omega)
 ·exact G2.own (G1.own s.ord (fun b e q=>s.ap b q e)) (fun b e q=>s.ordg (by rw [e,q]))
 ·have:=G2.own ho ne4
  simpa [icells] using this
 ·intro b e q
  have:=(ob b q).2
  rcases hl with k|k
  ·exact s.ap b (by rw [<- k];exact e) q
  ·rw [k] at e;simp at e;omega
structure Sh2 (N:Nat) (W0 wr:World) (hh:Int) (o:List Nat) (rl:List Int) (ns:List Nd) (ov rv nv:Value) (K:Nat->Prop):Prop where
 bel:Below (N+2) W0 wr
 sz:N+5<=wr.heap.size
 num:wr.rowIs (N+2) 2 3200 (nmF o)
 ord:wr.ownsRow (N+3) 2 1 ov o.length (icells (ints o))
 ordg:ov.ownBlock ≠ some (N+4)
 g:wr.rowIs (N+4) 27 3 (grF rv nv hh)
 nd:NK (N+5) wr nv ns K
 ndb:∀ b,nv.ownBlock=some b->N+5<=b/\b<wr.heap.size/\ov.ownBlock ≠ some b
 rt:IR wr rv rl/\∀ b,inB rv b->K b
 kk:∀ b,K b->N+5<=b/\b<wr.heap.size/\ov.ownBlock ≠ some b/\nv.ownBlock ≠ some b
theorem Sh1.two {N:Nat} {W0 wr:World} {hh:Int} {o:List Nat} {rl:List Int} {ov rv:Value} (s:Sh1 N W0 wr hh o rl ov rv):Sh2 N W0 wr hh o rl [] ov rv (.slice none 0 0) (fun b=>rv.ownBlock=some b) :=
 ⟨s.bel,s.sz,s.num,s.ord,s.ordg,s.g,⟨[],fun _=>.slice none 0 0,World.ownsRow_nil _ _ _ _,Trip.nil _,fun i hi=>by simp at hi⟩,fun b e=>by simp [Value.ownBlock] at e,
  ⟨E9 s.rt,fun b k=>Oh s.rt k⟩,fun b e=>⟨(s.rt.lt b e).1,(s.rt.lt b e).2,s.ap b e,by simp [Value.ownBlock]⟩⟩
theorem Sh2.told {N:Nat} {W0 wr w1:World} {hh:Int} {o o1:List Nat} {rl:List Int} {ns:List Nd} {ov rv nv ov1:Value} {K:Nat->Prop} (s:Sh2 N W0 wr hh o rl ns ov rv nv K)
  (r:w1.rowIs (N+2) 2 3200 (nmF o1)) (ho:w1.ownsRow (N+3) 2 1 ov1 o1.length (icells (ints o1))) (hl:ov1.ownBlock=ov.ownBlock ∨ ∃ b,ov1.ownBlock=some b/\wr.heap.size<=b)
  (g:Grew wr w1 (fun k=>k=N+2 ∨ ov.ownBlock=some k)):Sh2 N W0 w1 hh o1 rl ns ov1 rv nv K:=by
 have hsz:=s.sz
 have gsz:=g.size
 have ob:=s.ord.lt
 have nn:∀ b,b<wr.heap.size->ov.ownBlock ≠ some b->ov1.ownBlock ≠ some b:=fun b h1 h2=>by
  rcases hl with e|⟨b',e,hb⟩
  ·rw [e];exact h2
  ·rw [e];simp;omega
 have kS:∀ b,K b->¬ (b=N+2 ∨ ov.ownBlock=some b):=fun b k q=>by
  obtain ⟨k1,k2,k3,k4⟩:=s.kk b k
  rcases q with q|q
  ·omega
  ·exact k3 q
 refine ⟨s.bel.trans (g.below (by omega) fun b _ q=>?_),by omega,r,ho,nn _ (by omega) s.ordg,g.row s.g ?_,g.nk s.nd ?_ kS,?_,⟨g.ir s.rt.1 (fun b q=>kS b (s.rt.2 b q)),s.rt.2⟩,?_⟩
 ·rcases q with q|q
  ·omega
  ·have:=(ob b q).1;omega
 ·rintro (q|q)
  ·omega
  ·exact s.ordg q
 ·rintro b e (q|q)
  ·have:=(s.ndb b e).1;omega
  ·exact (s.ndb b e).2.2 q
 ·intro b e
  obtain ⟨h1,h2,h3⟩:=s.ndb b e
  exact ⟨h1,by omega,nn b h2 h3⟩
 ·intro b k
  obtain ⟨h1,h2,h3,h4⟩:=s.kk b k
  exact ⟨h1,by omega,nn b h2 h3,h4⟩
theorem Sh2.new {N:Nat} {W0 wr w1:World} {hh:Int} {o:List Nat} {rl:List Int} {ns:List Nd} {ov rv nv:Value} {K:Nat->Prop} (s:Sh2 N W0 wr hh o rl ns ov rv nv K) {S:Nat->Prop} (g:Grew wr w1 S)
  (h1:∀ b,S b->N+5<=b/\ov.ownBlock ≠ some b/\nv.ownBlock ≠ some b/\¬ K b):Sh2 N W0 w1 hh o rl ns ov rv nv K:=by
 have hsz:=s.sz
 have gsz:=g.size
 refine ⟨s.bel.trans (g.below (by omega) fun b _ q=>by have:=(h1 b q).1;omega),by omega,g.row s.num (fun q=>by have:=(h1 _ q).1;omega),g.own s.ord (fun b e q=>(h1 b q).2.1 e),s.ordg,g.row s.g (fun q=>by have:=(h1 _ q).1;omega),
  g.nk s.nd (fun b e q=>(h1 b q).2.2.1 e) (fun b k q=>(h1 b q).2.2.2 k),fun b e=>?_,⟨g.ir s.rt.1 (fun b q k=>(h1 b k).2.2.2 (s.rt.2 b q)),s.rt.2⟩,fun b k=>?_⟩
 ·obtain ⟨q1,q2,q3⟩:=s.ndb b e
  exact ⟨q1,by omega,q3⟩
 ·obtain ⟨q1,q2,q3,q4⟩:=s.kk b k
  exact ⟨q1,by omega,q3,q4⟩
structure Sh3 (N:Nat) (W0 wr:World) (hh:Int) (o:List Nat) (rl:List Int) (ns:List Nd) (ov rv nv:Value) (K:Nat->Prop) (bn:Nat) (c z:Int) (fl:List Int) (fv:Value):Prop where
 s:Sh2 N W0 wr hh o rl ns ov rv nv K
 bnl:N+5<=bn
 bnk:¬ K bn/\ov.ownBlock ≠ some bn/\nv.ownBlock ≠ some bn/\fv.ownBlock ≠ some bn
 nb:wr.rowIs bn 41 3 (ndF c z fv)
 fo:wr.ownsRow (N+5) 2 1 fv fl.length (icells fl)
 fap:∀ b,fv.ownBlock=some b->ov.ownBlock ≠ some b/\nv.ownBlock ≠ some b/\¬ K b
theorem Sh3.told {N:Nat} {W0 wr w1:World} {hh:Int} {o o1:List Nat} {rl:List Int} {ns:List Nd} {ov rv nv ov1:Value} {K:Nat->Prop} {bn:Nat} {c z:Int} {fl:List Int} {fv:Value} (s:Sh3 N W0 wr hh o rl ns ov rv nv K bn c z fl fv)
  (r:w1.rowIs (N+2) 2 3200 (nmF o1)) (ho:w1.ownsRow (N+3) 2 1 ov1 o1.length (icells (ints o1))) (hl:ov1.ownBlock=ov.ownBlock ∨ ∃ b,ov1.ownBlock=some b/\wr.heap.size<=b)
  (g:Grew wr w1 (fun k=>k=N+2 ∨ ov.ownBlock=some k)):Sh3 N W0 w1 hh o1 rl ns ov1 rv nv K bn c z fl fv:=by
 have hb:=s.bnl
 have hlt:=s.nb.lt
 have nn:∀ b,b<wr.heap.size->ov.ownBlock ≠ some b->ov1.ownBlock ≠ some b:=fun b h1 h2=>by
  rcases hl with e|⟨b',e,hb⟩
  ·rw [e];exact h2
  ·rw [e];simp;omega
 refine ⟨s.s.told r ho hl g,hb,⟨s.bnk.1,nn _ hlt s.bnk.2.1,s.bnk.2.2⟩,g.row s.nb ?_,g.own s.fo ?_,fun b e=>⟨nn _ (s.fo.lt b e).2 (s.fap b e).1,(s.fap b e).2⟩⟩
 ·rintro (q|q)
  ·omega
  ·exact s.bnk.2.1 q
 ·rintro b e (q|q)
  ·have:=(s.fo.lt b e).1;omega
  ·exact (s.fap b e).1 q
theorem Sh3.field {N:Nat} {W0 wr w2 w3:World} {hh:Int} {o:List Nat} {rl:List Int} {ns:List Nd} {ov rv nv:Value} {K:Nat->Prop} {bn:Nat} {c z x:Int} {fl:List Int} {fv fv1:Value} (s:Sh3 N W0 wr hh o rl ns ov rv nv K bn c z fl fv)
  (a:Below wr.heap.size wr w2) (ho:w3.ownsRow (N+5) 2 1 fv1 (fl.length+1) (icells fl ++ [.int .i64 x])) (g:w2.grownBy w3 fv.ownBlock) (hl:fv1.ownBlock=fv.ownBlock ∨ fv1.ownBlock=some w2.heap.size) :
  Sh3 N W0 (w3.setCell ⟨bn,2,none⟩ fv1) hh o rl ns ov rv nv K bn c z (fl ++ [x]) fv1:=by
 have hb:=s.bnl
 have hlt:=s.nb.lt
 have az:=a.size
 have G1:Grew wr w3 (fun k=>fv.ownBlock=some k):=(Grew.new a _).trans (Grew.grown g)
 have G2:=Grew.set w3 bn 2 fv1
 have f1:∀ b,fv1.ownBlock=some b->fv.ownBlock=some b ∨ wr.heap.size<=b:=fun b e=>by
  rcases hl with k|k
  ·exact .inl (by rw [<- k];exact e)
  ·rw [k] at e;simp at e;exact .inr (by omega)
 have nbn:fv1.ownBlock ≠ some bn:=fun e=>by
  rcases f1 bn e with k|k
  ·exact s.bnk.2.2.2 k
  ·omega
 refine ⟨(s.s.new G1 fun b e=>⟨(s.fo.lt b e).1,s.fap b e⟩).new G2 fun b e=>?_,hb,⟨s.bnk.1,s.bnk.2.1,s.bnk.2.2.1,nbn⟩,Jlb (G1.row s.nb s.bnk.2.2.2) fv1,?_,fun b e=>?_⟩
 ·subst e
  exact ⟨hb,s.bnk.2.1,s.bnk.2.2.1,s.bnk.1⟩
 ·have:=G2.own ho (fun b e q=>nbn (by rw [e,q]))
  simpa [icells] using this
 ·rcases f1 b e with k|k
  ·exact s.fap b k
  ·refine ⟨fun q=>?_,fun q=>?_,fun q=>?_⟩
   ·have:=(s.s.ord.lt b q).2;omega
   ·have:=(s.s.ndb b q).2.1;omega
   ·have:=(s.s.kk b q).2.1;omega
theorem Sh3.done {N:Nat} {W0 wr w2 w3:World} {hh:Int} {o:List Nat} {rl:List Int} {ns:List Nd} {ov rv nv nv1:Value} {K:Nat->Prop} {bn:Nat} {c z:Int} {fl:List Int} {fv:Value} (s:Sh3 N W0 wr hh o rl ns ov rv nv K bn c z fl fv)
  (a:Below wr.heap.size wr w2) {xs:List Value} {fw:Nat->Value} (ht:Trip xs ns fw) (hf:∀ i,i<ns.length->IR wr (fw i) (ns.getD i nd0).fl/\∀ b,inB (fw i) b->K b)
  (ho:w3.ownsRow (N+5) 41 3 nv1 (ns.length+1) (xs ++ [.int .i64 c,.int .i64 z,fv])) (g:w2.grownBy w3 nv.ownBlock) (hl:nv1.ownBlock=nv.ownBlock ∨ nv1.ownBlock=some w2.heap.size) :
  Sh2 N W0 (w3.setCell ⟨N+4,1,none⟩ nv1) hh o rl (ns ++ [⟨c,z,fl⟩]) ov rv nv1 (fun b=>K b ∨ fv.ownBlock=some b):=by
 have hsz:=s.s.sz
 have az:=a.size
 have G1:Grew wr w3 (fun k=>nv.ownBlock=some k):=(Grew.new a _).trans (Grew.grown g)
 have G2:=Grew.set w3 (N+4) 1 nv1
 have g1z:=G1.size
 have g2z:=G2.size
 have n1:∀ b,nv1.ownBlock=some b->nv.ownBlock=some b ∨ wr.heap.size<=b:=fun b e=>by
  rcases hl with k|k
  ·exact .inl (by rw [<- k];exact e)
  ·rw [k] at e;simp at e;exact .inr (by omega)
 have n5:∀ b,nv1.ownBlock=some b->N+5<=b:=fun b e=>(ho.lt b e).1
 refine ⟨(s.s.bel.trans (G1.below (by omega) fun b _ q=>by have:=(s.s.ndb b q).1;omega)).trans (G2.below (by omega) fun b _ q=>by omega),by omega,?_,?_,s.s.ordg,Jab (G1.row s.s.g fun q=>by have:=(s.s.ndb _ q).1;omega) nv1,?_,fun b e=>⟨n5 b e,?_,fun q=>?_⟩,⟨?_,fun b q=>.inl (s.s.rt.2 b q)⟩,?_⟩
 ·exact G2.row (G1.row s.s.num fun q=>by have:=(s.s.ndb _ q).1;omega) (by omega)
 ·exact G2.own (G1.own s.s.ord fun b e q=>(s.s.ndb b q).2.2 e) (fun b e q=>s.s.ordg (by rw [e,q]))
 ·refine ⟨_,_,(show (w3.setCell ⟨N+4,1,none⟩ nv1).ownsRow (N+5) _ 3 nv1 (ns ++ [(⟨c,z,fl⟩:Nd)]).length _ from ?_),ht.snoc c z fl fv,fun i hi=>?_⟩
  ·have:=G2.own ho (fun b e q=>by have:=n5 b e;omega)
   simpa using this
  ·have hi' : i<ns.length+1:=by simpa using hi
   by_cases e:i=ns.length
   ·subst e
    have e2:(ns ++ [(⟨c,z,fl⟩:Nd)]).getD ns.length nd0=⟨c,z,fl⟩:=by simp
    rw [if_pos rfl,e2]
    refine ⟨G2.ir (G1.ir (E9 s.fo) fun b q k=>?_) fun b q k=>?_,fun b q=>.inr (Oh s.fo q)⟩
    ·exact (s.fap b (Oh s.fo q)).2.1 k
    ·have:=(s.fo.lt b (Oh s.fo q)).1;omega
   ·have hlt:i<ns.length:=by omega
    have eg:(ns ++ [(⟨c,z,fl⟩:Nd)]).getD i nd0=ns.getD i nd0:=by simp [List.getD_eq_getElem?_getD,List.getElem?_append_left hlt]
    rw [if_neg e,eg]
    obtain ⟨f1,f2⟩:=hf i hlt
    refine ⟨G2.ir (G1.ir f1 fun b q k=>(s.s.kk b (f2 b q)).2.2.2 k) fun b q k=>?_,fun b q=>.inl (f2 b q)⟩
    have:=(s.s.kk b (f2 b q)).1;omega
 ·have:=(ho.lt b e).2;omega
 ·rcases n1 b e with k|k
  ·exact (s.s.ndb b k).2.2 q
  ·have:=(s.s.ord.lt b q).2;omega
 ·refine G2.ir (G1.ir s.s.rt.1 fun b q k=>(s.s.kk b (s.s.rt.2 b q)).2.2.2 k) fun b q k=>?_
  have:=(s.s.kk b (s.s.rt.2 b q)).1;omega
 ·rintro b (k|k)
  ·obtain ⟨k1,k2,k3,k4⟩:=s.s.kk b k
   exact ⟨k1,by omega,k3,fun q=>by
    rcases n1 b q with e|e
    ·exact k4 e
    ·omega⟩
  ·obtain ⟨k1,k2⟩:=s.fo.lt b k
   obtain ⟨k3,k4,k5⟩:=s.fap b k
   exact ⟨k1,by omega,k3,fun q=>by
    rcases n1 b q with e|e
    ·exact k4 e
    ·omega⟩
end Go.Proofs.YtboiknllmnfipaaGreatDoor
