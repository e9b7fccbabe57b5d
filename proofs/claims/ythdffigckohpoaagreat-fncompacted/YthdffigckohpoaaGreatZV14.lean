
import Derived.Test.YthdffigckohpoaaGreatZV13
import Derived.Laws.MakeOwn
/- follow, tourOf and renamed of the program: the objects in the order in which they are come to, their numbers in a map. -/
namespace Go.Proofs.YthdffigckohpoaaGreat
open Go.RowKit Go.Maps
/-- The number of an object among those that were found. -/
def numF (o : List Nat) (k : Int) : Option Int := if 0 <= k /\ k.toNat ∈ o then some ((o.idxOf k.toNat : Nat) : Int) else none
theorem numF_new {o : List Nat} {a : Nat} (h : a ∉ o) : putF (numF o) (a : Int) (o.length : Int) = numF (o ++ [a]) := by
 funext j
 unfold putF numF
 by_cases e : j = (a : Int)
 ·subst e
  rw [if_pos rfl, if_pos ⟨by omega, by simp⟩, Int.toNat_natCast, List.idxOf_append, if_neg h]
  simp
 ·rw [if_neg e]
  by_cases hj : 0 <= j
  ·by_cases m : j.toNat ∈ o
   ·rw [if_pos ⟨hj, m⟩, if_pos ⟨hj, by simp [m]⟩, List.idxOf_append, if_pos m]
   ·rw [if_neg (fun q => m q.2), if_neg (fun q => m (by
     have := q.2
     rw [List.mem_append, List.mem_singleton] at this
     rcases this with k | k
     ·exact k
     ·exact absurd (show j = (a : Int) by omega) e))]
  ·rw [if_neg (fun q => hj q.1), if_neg (fun q => hj q.1)]
theorem numF_nil : numF [] = fun _ => none := by
 funext j
 unfold numF
 rw [if_neg (by simp)]
theorem numF_at {o : List Nat} {a : Nat} : numF o (a : Int) = if a ∈ o then some ((o.idxOf a : Nat) : Int) else none := by
 unfold numF
 by_cases m : a ∈ o
 ·rw [if_pos ⟨by omega, by simpa using m⟩, if_pos m, Int.toNat_natCast]
 ·rw [if_neg (fun q => m (by simpa using q.2)), if_neg m]
/-- A tour: block T holds the objects that were found and the map of their numbers. -/
structure Tour (B : Nat) (w : World) (T M : Nat) (n : Nat) (o : List Nat) (ov : Value) : Prop where
 bx : w.rowIs T 62 2 (fun i => if i = 0 then ov else .map (some M))
 ob : w.ownsRow B 2 1 ov o.length (icells (ints o))
 mp : MP w M n (numF o)
 tl : B <= T /\ B <= M /\ M ≠ T
 ap : ov.ownBlock ≠ some T /\ ov.ownBlock ≠ some M
theorem Tour.grew {B : Nat} {w w' : World} {T M n : Nat} {o : List Nat} {ov : Value} {S : Nat -> Prop} (h : Tour B w T M n o ov) (g : Grew w w' S) (hs : ∀ b, S b -> b ≠ T /\ b ≠ M /\ ov.ownBlock ≠ some b) : Tour B w' T M n o ov :=
 ⟨g.row h.bx (fun q => (hs _ q).1 rfl), g.own h.ob (fun b e q => (hs b q).2.2 e), g.mp h.mp (fun q => (hs _ q).2.1 rfl), h.tl, h.ap⟩
theorem Tour.put {B : Nat} {w w1 w2 w3 : World} {T M n a : Nat} {o : List Nat} {ov ov1 : Value} (h : Tour B w T M n o ov) (g1 : w.grownBy w1 (some M)) (m1 : MP w1 M (n + 1) (putF (numF o) (a : Int) (o.length : Int))) (ha : a ∉ o)
  (al : Below w1.heap.size w1 w2) (ho : w3.ownsRow B 2 1 ov1 (o.length + 1) (icells (ints o) ++ [.int .i64 (a : Int)])) (g3 : w2.grownBy w3 ov.ownBlock) (hl : ov1.ownBlock = ov.ownBlock ∨ ov1.ownBlock = some w2.heap.size) :
  Tour B (w3.setCell ⟨T, 0, none⟩ ov1) T M (n + 1) (o ++ [a]) ov1 /\ Grew w (w3.setCell ⟨T, 0, none⟩ ov1) (fun k => k = T ∨ k = M ∨ ov.ownBlock = some k) /\ (∀ b, ov1.ownBlock = some b -> ov.ownBlock = some b ∨ w.heap.size <= b) := by
 have G1 : Grew w w1 (fun k => k = T ∨ k = M ∨ ov.ownBlock = some k) := (Grew.grown g1).mono fun b _ e => .inr (.inl (by cases e; rfl))
 have G2 : Grew w1 w3 (fun k => ov.ownBlock = some k) := (Grew.new al _).trans (Grew.grown g3)
 have G4 := Grew.set w3 T 0 ov1
 have tlt := h.bx.lt
 have mlt := h.mp.lt
 have sz1 := g1.size
 have sz2 := al.size
 have hl2 : ∀ b, ov1.ownBlock = some b -> ov.ownBlock = some b ∨ w.heap.size <= b := fun b e => by
  rcases hl with k | k
  ·exact .inl (by rw [<- k]; exact e)
  ·rw [k] at e; simp at e; exact .inr (by omega)
 have nT : ov1.ownBlock ≠ some T := fun e => by
  rcases hl2 T e with k | k
  ·exact h.ap.1 k
  ·omega
 have nM : ov1.ownBlock ≠ some M := fun e => by
  rcases hl2 M e with k | k
  ·exact h.ap.2 k
  ·omega
 have hne := h.tl.2.2
 have b1 := (Grew.grown g1).row h.bx (fun e => hne (by simpa using e))
 have b3 := G2.row b1 h.ap.1
 refine ⟨⟨?_, ?_, ?_, h.tl, nT, nM⟩, (G1.trans (G2.mono fun b _ e => .inr (.inr e))).trans (G4.mono fun b _ e => .inl e), hl2⟩
 ·refine (b3.set 0 ov1).congr fun i _ => ?_
  by_cases e : i = 0 <;> simp [e]
 ·have := G4.own ho (fun b e q => nT (by rw [e, q]))
  simpa [icells, ints] using this
 ·have := G4.mp (G2.mp m1 h.ap.2) hne
  rwa [numF_new ha] at this
theorem refOf_fit {x : Int} (h : isK 2 x = true) : ∃ a : Nat, a < 3200 /\ (x / 2).toNat = a /\ valK 2 x = (a : Int) := by
 obtain ⟨a, ha, e, _, _⟩ : ∃ a : Nat, a < 3200 /\ (x / 2).toNat = a /\ True /\ True := by
  unfold isK kindW at h
  have h' := of_decide_eq_true h
  split at h'
  ·split at h'
   ·rename_i h2
    unfold adrB at h2
    have h3 := of_decide_eq_true h2
    exact ⟨(x / 2).toNat, by omega, rfl, trivial, trivial⟩
   ·omega
  ·split at h' <;> omega
 refine ⟨a, ha, e, ?_⟩
 rw [valK_yes h]
 unfold isK kindW at h
 have h' := of_decide_eq_true h
 split at h'
 ·split at h'
  ·rename_i h2
   unfold adrB at h2
   have h3 := of_decide_eq_true h2
   omega
  ·omega
 ·split at h' <;> omega
/-- What follow leaves. -/
def FolOut (B T M n : Nat) (o : List Nat) (ov : Value) (ws : List Int) (w : World) (e : Ending) (w' : World) : Prop :=
 e = .returned (.tuple #[]) /\ ∃ ov' n', Tour B w' T M n' (fol o ws) ov' /\ n' <= n + ws.length /\ (∀ b, ov'.ownBlock = some b -> ov.ownBlock = some b ∨ w.heap.size <= b) /\ Grew w w' (fun k => k = T ∨ k = M ∨ ov.ownBlock = some k)
set_option maxRecDepth 100000 in
set_option maxHeartbeats 1600000 in
theorem follow_any (B T M n : Nat) (o : List Nat) (ov v : Value) (ws : List Int) (w : World) (ht : Tour B w T M n o ov) (hv : IR w v ws) (hva : ∀ b, inB v b -> b ≠ T /\ b ≠ M /\ ov.ownBlock ≠ some b) (hB : B <= w.heap.size) (hl : ws.length <= 100000) (ho : ∀ j, (fol o (ws.take j)).length <= 100000) (hn : n <= 100000000) :
  Calls Tryz.prog 74 #[.pointer (some ⟨T, 0, none⟩), v] w fun e w' => FolOut B T M n o ov ws w e w' := by
 obtain ⟨va, vc, rfl, _, hvc⟩ := id hv
 go_enter Tryz.func74, Tryz.ntmps74
 go_wp2
 go_loopw [12] (fun iv wr => ∃ (j n' : Nat) (ov' : Value), j <= ws.length /\ iv = .int .i64 j /\ Tour B wr T M n' (fol o (ws.take j)) ov' /\ n' <= n + j /\ (∀ b, ov'.ownBlock = some b -> ov.ownBlock = some b ∨ w.heap.size <= b) /\ Grew w wr (fun k => k = T ∨ k = M ∨ ov.ownBlock = some k)) (fun iv _ => ws.length - (intOf iv).toNat)
 case atStart => exact ⟨0, n, ov, Nat.zero_le _, rfl, ht, Nat.le_refl _, fun b e => .inl e, Grew.refl _ _⟩
 case round =>
  obtain ⟨j, n', ov', hj, rfl, ht', hn', hl', hg⟩ := hrel
  by_cases hjl : j < ws.length
  ·obtain ⟨vb, vo, rfl, hcw⟩ := hvc j hjl
   have hcr := hg.cell hcw (fun q => by
    obtain ⟨q1, q2, q3⟩ := hva vb ⟨vo, _, _, rfl, by omega⟩
    rcases q with q | q | q
    ·exact q1 q
    ·exact q2 q
    ·exact q3 q)
   have SN := fol_snoc o ws j hjl
   have hob := ho j
   generalize ws.getD j 0 = x at *
   have hji : (j : Int) < ws.length := by omega
   have HG : Hid (Grew w wr (fun k => k = T ∨ k = M ∨ ov.ownBlock = some k)) := hg
   clear hg hcw hva hvc ho
   cases hx : isK 2 x
   ·have F1 : Hid (fol o (ws.take (j + 1)) = fol o (ws.take j)) := (by rw [SN]; unfold fol1; rw [hx]; rfl : fol o (ws.take (j + 1)) = fol o (ws.take j))
    clear SN
    go_wp2_with (go_at_call 76; refine (implRefOf_any _ _).mono ?_; rintro e w' ⟨rfl, hw'⟩; obtain rfl := hw'.symm; rw [hx])
    exact ⟨⟨j + 1, n', ov', by omega, by go_num, by rw [F1.out]; exact ht', by omega, hl', HG.out⟩, by simp [intOf]; omega⟩
   ·obtain ⟨a, ha, hat, hval⟩ := refOf_fit hx
    have b0 : wr.cell? ⟨T, 0, none⟩ = some ov' := ht'.bx.cell (i := 0) (by omega)
    have b1 : wr.cell? ⟨T, 1, none⟩ = some (.map (some M)) := ht'.bx.cell (i := 1) (by omega)
    have a64 : In64 (a : Int) := ⟨by omega, by omega⟩
    obtain ⟨oa, oc, hov⟩ := own_shape ht'.ob
    subst hov
    have NA := numF_at (o := fol o (ws.take j)) (a := a)
    by_cases hm : a ∈ fol o (ws.take j)
    ·have F1 : Hid (fol o (ws.take (j + 1)) = fol o (ws.take j)) := (by rw [SN]; unfold fol1; rw [if_pos hx, hat, if_pos hm] : fol o (ws.take (j + 1)) = fol o (ws.take j))
     rw [if_pos hm] at NA
     have N1 : Hid (numF (fol o (ws.take j)) (a : Int) = some (((fol o (ws.take j)).idxOf a : Nat) : Int)) := NA
     clear SN NA
     go_wp2_with (first
      | (go_at_call 76; refine (implRefOf_any _ _).mono ?_; rintro e w' ⟨rfl, hw'⟩; obtain rfl := hw'.symm; rw [hx, hval])
      | (at_lookup; refine look_ok _ rfl _ _ rfl M n' _ rfl ht'.mp _ rfl a64 ?_; rw [N1.out]))
     exact ⟨⟨j + 1, n', _, by omega, by go_num, by rw [F1.out]; exact ht', by omega, hl', HG.out⟩, by simp [intOf]; omega⟩
    ·have F1 : Hid (fol o (ws.take (j + 1)) = fol o (ws.take j) ++ [a]) := (by rw [SN]; unfold fol1; rw [if_pos hx, hat, if_neg hm] : fol o (ws.take (j + 1)) = fol o (ws.take j) ++ [a])
     rw [if_neg hm] at NA
     have N1 : Hid (numF (fol o (ws.take j)) (a : Int) = none) := NA
     clear SN NA
     have mpd : MP wr.drew M n' (numF (fol o (ws.take j))) := (Grew.refl wr (fun _ => False)).drew.mp ht'.mp (fun q => q)
     obtain ⟨w1, hrun, m1, gr1⟩ := mpd.update (by omega) (a : Int) ((fol o (ws.take j)).length : Int) a64 ⟨by omega, by omega⟩
     go_wp2_with (first
      | (go_at_call 76; refine (implRefOf_any _ _).mono ?_; rintro e w' ⟨rfl, hw'⟩; obtain rfl := hw'.symm; rw [hx, hval])
      | (at_lookup; refine look_ok _ rfl _ _ rfl M n' _ rfl ht'.mp _ rfl a64 ?_; rw [N1.out]))
     go_region
     have gr2 : wr.grownBy w1 (some M) := ⟨gr1.os, gr1.tape, gr1.output, gr1.size, gr1.block⟩
     have R1 := (Grew.grown gr2).row ht'.bx (fun e => ht'.tl.2.2 (by simpa using e))
     have O1 := (Grew.grown gr2).own ht'.ob (fun b e q => ht'.ap.2 (by rw [e]; exact q.symm))
     have t0 : w1.cell? ⟨T, 0, none⟩ = some (.slice oa (fol o (ws.take j)).length oc) := R1.cell (i := 0) (by omega)
     have al := bel_one w1 (.cells #[.int .i64 (a : Int)] 2)
     have t0' := cell_later al t0
     have O2 := own_later O1 al
     have sB : B <= w1.heap.size := Nat.le_trans hB (Nat.le_trans HG.out.size gr2.size)
     have hc : ∀ W : World, (W.alloc (.cells #[.int .i64 (a : Int)] 2)).cell? ⟨W.heap.size, 0, none⟩ = some (.int .i64 (a : Int)) := fun W => by simp
     have PT : Hid (∀ w3 fo fc, w3.ownsRow B 2 1 (.slice fo ((fol o (ws.take j)).length + 1) fc) ((fol o (ws.take j)).length + 1) (icells (ints (fol o (ws.take j))) ++ [.int .i64 (a : Int)]) -> (w1.alloc (.cells #[.int .i64 (a : Int)] 2)).grownBy w3 (Value.ownBlock (.slice oa (fol o (ws.take j)).length oc)) →
      (Value.ownBlock (.slice fo ((fol o (ws.take j)).length + 1) fc) = Value.ownBlock (.slice oa (fol o (ws.take j)).length oc) ∨ Value.ownBlock (.slice fo ((fol o (ws.take j)).length + 1) fc) = some (w1.alloc (.cells #[.int .i64 (a : Int)] 2)).heap.size) -> _) := fun w3 fo fc q1 q2 q3 => ht'.put gr2 m1 hm al q1 q2 q3
     have GF : Hid (∀ w3, (w1.alloc (.cells #[.int .i64 (a : Int)] 2)).grownBy w3 (Value.ownBlock (.slice oa (fol o (ws.take j)).length oc)) -> w3.frozen? ⟨T, 0, none⟩ = false /\ w3.cell? ⟨T, 0, none⟩ = some (.slice oa (fol o (ws.take j)).length oc)) := fun w3 q => by
      have R := (Grew.grown q).row ((Grew.new al (fun _ => False)).row R1 (fun q => q)) ht'.ap.1
      exact ⟨R.frozen 0, R.cell (i := 0) (by omega)⟩
     have LO : Hid (∀ b, Value.ownBlock (.slice oa (fol o (ws.take j)).length oc) = some b -> ov.ownBlock = some b ∨ w.heap.size <= b) := hl'
     have HSZ : Hid (w.heap.size <= wr.heap.size) := HG.out.size
     clear b0 b1 R1 O1 mpd hrun m1 gr1 hm
     go_wp2_with (at_builtin; refine app_at _ rfl _ _ rfl B _ (fol o (ws.take j)).length (icells (ints (fol o (ws.take j)))) rfl O2 _ 1 a rfl (hc _) (by omega) (Nat.le_trans sB (by simp)) ?_; intro v4 w4 hown4 hg4 hloc; (obtain ⟨fo, fc, hv4⟩ := own_shape hown4); subst hv4; have hg5 : (w1.alloc (.cells #[.int .i64 (a : Int)] 2)).grownBy w4 (Value.ownBlock (.slice oa (fol o (ws.take j)).length oc)) := hg4; have SF := PT.out w4 fo fc hown4 hg5 hloc; (obtain ⟨fz, cz⟩ := GF.out w4 hg5))
     obtain ⟨sf1, sf2, sf3⟩ := SF
     refine ⟨⟨j + 1, n' + 1, _, by omega, by go_num, by rw [F1.out]; exact sf1, by omega, fun b e => ?_, HG.out.trans' sf2 (fun b e => ?_)⟩, by simp [intOf]; omega⟩
     ·rcases sf3 b e with k | k
      ·exact LO.out b k
      ·exact .inr (Nat.le_trans HSZ.out k)
     ·rcases e with e | e | e
      ·exact .inl (.inl e)
      ·exact .inl (.inr (.inl e))
      ·rcases LO.out b e with k | k
       ·exact .inl (.inr (.inr k))
       ·exact .inr k
  ·obtain rfl : j = ws.length := by omega
   rw [List.take_length] at ht'
   have G : Hid (FolOut B T M n o ov ws w (.returned (.tuple #[])) wr) := ⟨rfl, ov', n', ht', hn', hl', hg⟩
   clear ht' hg hva hvc ho
   go_wp2
   exact bodyPost_ret (v := .tuple #[]) (by simp [results, Tryz.results74, go_sem]) rfl G.out
end Go.Proofs.YthdffigckohpoaaGreat
/- renamed of the program: words with each address changed for the one that it has in a map. -/
namespace Go.Proofs.YthdffigckohpoaaGreat
open Go.RowKit Go.Maps
/-- A word with its address changed. -/
def rnM (f : Int -> Option Int) (x : Int) : Int := if isK 2 x = true then 2 * (f (x / 2)).getD 0 + 1 else x
theorem make_cap (n B : Nat) (hn : n <= 100000000000) (w : World) (hB : B <= w.heap.size) : ∃ w', (Instr.makeSlice 24 (.int .i64 0) (.int .i64 (n : Int))).run Tryz.prog w = .ok (.slice (some ⟨w.heap.size, 0, none⟩) 0 n) w' /\ w'.ownsRow B 2 1 (.slice (some ⟨w.heap.size, 0, none⟩) 0 n) 0 [] /\ Below w.heap.size w w' := by
 obtain ⟨i, hi, hzz⟩ := Option.map_eq_some_iff.1 Tryz.infoI
 simp only [Prod.mk.injEq] at hzz
 obtain ⟨hz, hsz, hby⟩ := hzz
 obtain ⟨w', h1, h2, h3⟩ := run_make_own (P := Tryz.prog) w B 24 2 i _ 1 Tryz.underlying24 hi hz hsz .i64 .i64 n (by rw [hby]; omega) (by unfold maxLen; omega) hB
 exact ⟨w', h1, h2, ⟨h3.os, h3.tape, h3.output, h3.size, fun k hk => h3.block k hk (by simp)⟩⟩
set_option maxRecDepth 100000 in
set_option maxHeartbeats 1600000 in
theorem renamed_any (v : Value) (ws : List Int) (M n : Nat) (f : Int -> Option Int) (w : World) (hv : IR w v ws) (hm : MP w M n f) (hl : ws.length <= 100000000) (hf : ∀ x, x ∈ ws -> isK 2 x = true -> 0 <= (f (x / 2)).getD 0 /\ (f (x / 2)).getD 0 <= 3199) :
  Calls Tryz.prog 43 #[v, .map (some M)] w fun e w' => (∃ v', e = .returned v' /\ w'.ownsRow w.heap.size 2 1 v' ws.length (icells (ws.map (rnM f)))) /\ Below w.heap.size w w' := by
 obtain ⟨va, vc, rfl, _, hvc⟩ := id hv
 obtain ⟨wm, hrun, hown, hbm⟩ := make_cap ws.length w.heap.size (by omega) w (Nat.le_refl _)
 have HOW : Hid (wm.ownsRow w.heap.size 2 1 (.slice (some ⟨w.heap.size, 0, none⟩) 0 ws.length) 0 []) := hown
 clear hown
 go_enter Tryz.func43, Tryz.ntmps43
 go_wp2
 go_loopw [5, 15] (fun ovv iv wr => ∃ (j : Nat) (ov : Value), j <= ws.length /\ iv = .int .i64 j /\ ov = ovv /\ wr.ownsRow w.heap.size 2 1 ov j (icells ((ws.take j).map (rnM f))) /\ Below w.heap.size w wr) (fun _ iv _ => ws.length - (intOf iv).toNat)
 case atStart => exact ⟨0, _, Nat.zero_le _, rfl, rfl, HOW.out, hbm⟩
 case round =>
  obtain ⟨j, ov, hj, rfl, rfl, ho, hb⟩ := hrel
  by_cases hjl : j < ws.length
  ·obtain ⟨vb, vo, rfl, hcw⟩ := hvc j hjl
   have hcr := cell_later hb hcw
   have TS : Hid ((ws.take (j + 1)).map (rnM f) = (ws.take j).map (rnM f) ++ [rnM f (ws.getD j 0)]) := (by rw [itake_snoc _ _ hjl]; simp : (ws.take (j + 1)).map (rnM f) = (ws.take j).map (rnM f) ++ [rnM f (ws.getD j 0)])
   have hfx := hf (ws.getD j 0) (by simp [hjl])
   have RN : Hid (rnM f (ws.getD j 0) = if isK 2 (ws.getD j 0) = true then 2 * (f (ws.getD j 0 / 2)).getD 0 + 1 else ws.getD j 0) := rfl
   generalize rnM f (ws.getD j 0) = y at *
   generalize ws.getD j 0 = x at *
   have hji : (j : Int) < ws.length := by omega
   have hsz := hb.size
   clear hcw hvc hf hrun HOW
   have FIN : Hid (∀ (z : Int) (w3 : World) v3, y = z -> w3.ownsRow w.heap.size 2 1 v3 (j + 1) (icells ((ws.take j).map (rnM f)) ++ [.int .i64 z]) -> (wr.alloc (.cells #[.int .i64 z] 2)).grownBy w3 ov.ownBlock -> w3.ownsRow w.heap.size 2 1 v3 (j + 1) (icells ((ws.take (j + 1)).map (rnM f))) /\ Below w.heap.size w w3) := fun z w3 v3 e q1 q2 => by
    subst e
    refine ⟨by rw [TS.out]; simpa [icells] using q1, ?_⟩
    exact (hb.trans (bel_one wr _ |>.mono hb.size)).trans ((Grew.grown q2).below (by simp; omega) fun k _ e => (ho.lt k e).1)
   cases hx : isK 2 x
   ·rw [hx] at RN
    have RN' : Hid (y = x) := RN
    clear RN hfx TS
    have al := bel_one wr (.cells #[.int .i64 x] 2)
    have ho2 := own_later ho al
    have hc : ∀ W : World, (W.alloc (.cells #[.int .i64 x] 2)).cell? ⟨W.heap.size, 0, none⟩ = some (.int .i64 x) := fun W => by simp
    go_wp2_with (first
     | (go_at_call 76; refine (implRefOf_any _ _).mono ?_; rintro e w' ⟨rfl, hw'⟩; obtain rfl := hw'.symm; rw [hx])
     | (at_builtin; refine app_at _ rfl _ _ rfl w.heap.size _ j (icells ((ws.take j).map (rnM f))) rfl ho2 _ 1 x rfl (hc _) (by omega) (Nat.le_trans hsz (by simp)) ?_; intro v4 w4 hown4 hg4 hloc; have SF := FIN.out x w4 v4 RN'.out hown4 hg4))
    exact ⟨⟨j + 1, v4, by omega, by go_num, rfl, SF.1, SF.2⟩, by simp [intOf]; omega⟩
   ·rw [hx] at RN
    have RN' : Hid (y = 2 * (f (x / 2)).getD 0 + 1) := RN
    have hval := valK_yes hx
    obtain ⟨y1, y2⟩ := hfx hx
    obtain ⟨a, ha, hat, hva⟩ := refOf_fit hx
    have e2 : x / 2 = (a : Int) := by rw [<- hva, hval]
    rw [e2] at RN' y1 y2 hval
    have a64 : In64 (a : Int) := ⟨by omega, by omega⟩
    have hmr := hm.later hb
    clear RN hfx TS e2 hat hva
    have adr : ∀ z, (f (a : Int)).getD 0 = z -> adrB z = true := fun z e => by subst e; exact decide_eq_true ⟨y1, y2⟩
    generalize hz : (f (a : Int)).getD 0 = z at *
    have HZ : Hid ((f (a : Int)).getD 0 = z) := hz
    have had := adr z rfl
    clear adr hz
    have al := bel_one wr (.cells #[.int .i64 (2 * z + 1)] 2)
    have ho2 := own_later ho al
    have hc : ∀ W : World, (W.alloc (.cells #[.int .i64 (2 * z + 1)] 2)).cell? ⟨W.heap.size, 0, none⟩ = some (.int .i64 (2 * z + 1)) := fun W => by simp
    go_wp2_with (first
     | (go_at_call 76; refine (implRefOf_any _ _).mono ?_; rintro e w' ⟨rfl, hw'⟩; obtain rfl := hw'.symm; rw [hx, hval])
     | (at_lookup; refine look_up _ rfl _ _ rfl M n f rfl hmr _ rfl a64 ?_; rw [HZ.out])
     | (go_at_call 77; refine (refWord_any _ _ had).mono ?_; rintro e w' ⟨rfl, hw'⟩; obtain rfl := hw'.symm)
     | (at_builtin; refine app_at _ rfl _ _ rfl w.heap.size _ j (icells ((ws.take j).map (rnM f))) rfl ho2 _ 1 (2 * z + 1) rfl (hc _) (by omega) (Nat.le_trans hsz (by simp)) ?_; intro v4 w4 hown4 hg4 hloc; have SF := FIN.out (2 * z + 1) w4 v4 RN'.out hown4 hg4))
    exact ⟨⟨j + 1, v4, by omega, by go_num, rfl, SF.1, SF.2⟩, by simp [intOf]; omega⟩
  ·obtain rfl : j = ws.length := by omega
   rw [List.take_length] at ho
   clear hvc hf hjl hrun HOW
   go_wp2
   go_ret
   exact ⟨⟨_, rfl, ho⟩, hb⟩
/-- In a tour that is done, a word that leads to one of its objects gets the object's number. -/
theorem rn_num {F : List Nat} {x : Int} (h : isK 2 x = true -> (x / 2).toNat ∈ F) : rnM (numF F) x = ren F x := by
 unfold rnM ren
 split
 ·rename_i hk
  obtain ⟨a, ha, e, ev⟩ := refOf_fit hk
  rw [valK_yes hk] at ev
  have hm := h hk
  rw [e] at hm ⊢
  rw [ev, numF_at, if_pos hm]
  rfl
 ·rfl
theorem rn_range {F : List Nat} (h3 : F.length <= 3200) {x : Int} (_ : isK 2 x = true) : 0 <= (numF F (x / 2)).getD 0 /\ (numF F (x / 2)).getD 0 <= 3199 := by
 unfold numF
 split
 ·rename_i q
  have := List.idxOf_lt_length_of_mem q.2
  show 0 <= ((F.idxOf (x / 2).toNat : Nat) : Int) /\ ((F.idxOf (x / 2).toNat : Nat) : Int) <= 3199
  omega
 ·exact ⟨by simp, by simp⟩
end Go.Proofs.YthdffigckohpoaaGreat
