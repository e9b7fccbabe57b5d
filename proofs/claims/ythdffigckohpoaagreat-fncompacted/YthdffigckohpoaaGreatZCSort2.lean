/- sorted of the program: the same numbers, rising. -/
import Derived.Test.YthdffigckohpoaaGreatZCSort
namespace Go.Proofs.YthdffigckohpoaaGreat
open Go.RowKit
theorem IR.parts {w : World} {b o c k : Nat} {l : List Int} (h : IR w (.slice (some ⟨b, o, none⟩) l.length c) l) (hk : k <= l.length) : l.length <= c /\ IR w (.slice (some ⟨b, o, none⟩) k c) (l.take k) /\ IR w (.slice (some ⟨b, o + k, none⟩) (l.length - k) (c - k)) (l.drop k) := by
 obtain ⟨ao, cap, e, hle, hcell⟩ := h
 simp only [Value.slice.injEq, true_and] at e
 obtain ⟨rfl, rfl⟩ := e
 have t : (l.take k).length = k := by rw [List.length_take]; omega
 have d : (l.drop k).length = l.length - k := List.length_drop
 refine ⟨hle, ⟨_, c, by rw [t], by rw [t]; omega, fun i hi => ?_⟩, ⟨_, c - k, by rw [d], by rw [d]; omega, fun i hi => ?_⟩⟩
 ·rw [t] at hi
  obtain ⟨b', o', e', q⟩ := hcell i (by omega)
  refine ⟨b', o', e', ?_⟩
  rw [q]
  simp [List.getD_eq_getElem?_getD, hi]
 ·rw [d] at hi
  obtain ⟨b', o', e', q⟩ := hcell (k + i) (by omega)
  simp only [Option.some.injEq, Addr.mk.injEq, and_true] at e'
  obtain ⟨rfl, rfl⟩ := e'
  refine ⟨b, o + k, rfl, ?_⟩
  rw [show o + k + i = o + (k + i) from by omega, q]
  simp [List.getD_eq_getElem?_getD, List.getElem?_drop]
def SoOut (l : List Int) (B : Nat) (e : Ending) (w' : World) : Prop := ∃ g c m, e = .returned (.slice (some ⟨g, 0, none⟩) l.length c) /\ RI w' g m c /\ B <= g /\ m.Perm l /\ m.Pairwise (fun a b => leI a b = true)
set_option maxRecDepth 100000 in
set_option maxHeartbeats 3200000 in
theorem sorted_any : ∀ (n : Nat) (v : Value) (l : List Int) (w : World), l.length <= n -> IR w v l -> l.length <= 10000 →
  Calls Tryz.prog 59 #[v, .func (.func 60) #[] #[]] w fun e w' => SoOut l w.heap.size e w' /\ Below w.heap.size w w' := by
 intro n
 induction n with
 | zero =>
  intro v l w hn hv h1
  have C := copyList_any v l w hv (by omega)
  obtain rfl : l = [] := List.length_eq_zero_iff.1 (by omega)
  obtain ⟨a, c, rfl, -⟩ := IRs hv
  go_enter Tryz.func59, Tryz.ntmps59
  go_wp2_with fail
  refine C.mono ?_
  rintro e w1 ⟨⟨rfl, R1, _⟩, hb⟩
  go_wp2
  go_ret
  exact ⟨⟨_, _, [], rfl, R1, Nat.le_refl _, List.Perm.refl _, List.Pairwise.nil⟩, hb⟩
 | succ n ih =>
  intro v l w hn hv h1
  have C := copyList_any v l w hv (by omega)
  obtain ⟨a, c, rfl, -⟩ := IRs hv
  by_cases h2 : l.length < 2
  ·have h2' : (l.length : Int) < 2 := by omega
   have PW : Hid (l.Pairwise (fun a b => leI a b = true)) := (by
    rcases l with _ | ⟨x, _ | ⟨y, l⟩⟩
    ·exact List.Pairwise.nil
    ·exact List.pairwise_singleton _ _
    ·simp only [List.length_cons] at h2; omega)
   go_enter Tryz.func59, Tryz.ntmps59
   go_wp2_with fail
   refine C.mono ?_
   rintro e w1 ⟨⟨rfl, R1, _⟩, hb⟩
   go_wp2
   go_ret
   exact ⟨⟨_, _, l, rfl, R1, Nat.le_refl _, List.Perm.refl _, PW.out⟩, hb⟩
  ·clear C
   have h2' : ¬ (l.length : Int) < 2 := by omega
   obtain ⟨hf, ehf⟩ : ∃ hf : Nat, hf = l.length / 2 := ⟨_, rfl⟩
   have hq : Int.tdiv (l.length : Int) 2 = (hf : Int) := by rw [Int.tdiv_eq_ediv_of_nonneg (by omega)]; omega
   have hf1 : 1 <= hf := by omega
   have hf2 : hf < l.length := by omega
   have hf3 : l.length - hf <= n := by omega
   have hf4 : hf <= n := by omega
   have hmx : Tryz.prog.follows .mixedOrders = true := by kernel_rfl
   obtain ⟨b, o, rfl⟩ : ∃ b o, a = some ⟨b, o, none⟩ := by
    obtain ⟨ao, cap, e, _, hcell⟩ := id hv
    simp only [Value.slice.injEq] at e
    obtain ⟨rfl, -, rfl⟩ := e
    obtain ⟨b, o, e, _⟩ := hcell 0 (by omega)
    exact ⟨b, o, e⟩
   obtain ⟨cl, ir1, ir2⟩ := hv.parts (k := hf) (by omega)
   have t1 : (l.take hf).length = hf := by rw [List.length_take]; omega
   have t2 : (l.drop hf).length = l.length - hf := List.length_drop
   have I1 := fun W hb => ih (.slice (some ⟨b, o, none⟩) hf c) (l.take hf) W (by omega) (ir1.later hb) (by omega)
   have I2 := fun W hb => ih (.slice (some ⟨b, o + hf, none⟩) (l.length - hf) (c - hf)) (l.drop hf) W (by omega) (ir2.later hb) (by omega)
   have hc2 : ¬ c = hf := by omega
   have e1 : (hf : Int) <= (l.length : Int) := by omega
   have e2 : (hf : Int) <= (c : Int) := by omega
   have e3 : (l.length : Int) <= (c : Int) := by omega
   have hs0 : Below w.heap.size w w.drew := (Below.refl _ _).drew
   clear hv ir1 ir2 ih ehf
   go_enter Tryz.func59, Tryz.ntmps59
   go_wp2_with fail
   refine Disk.z_plain 99 (fun W' => Below w.heap.size w W') hmx hs0 (fun hs => ?_)
   clear hs0
   generalize w.drew = wd at hs ⊢
   refine Disk.zt0 0 14 (v := .slice (some ⟨b, o, none⟩) l.length c) rfl rfl hs ?_
   simp only [zA, zB, zC]
   refine Disk.zt0 1 15 (v := .int .i64 hf) rfl rfl hs ?_
   simp only [zA, zB, zC]
   refine Disk.zt0 2 16 (v := .slice (some ⟨b, o, none⟩) hf c) rfl rfl hs ?_
   simp only [zA, zB, zC]
   refine Disk.zt0 3 17 (v := .func (.func 60) #[] #[]) rfl rfl hs ?_
   simp only [zA, zB, zC]
   refine Disk.zt0 5 19 (v := .slice (some ⟨b, o, none⟩) l.length c) rfl rfl hs ?_
   simp only [zA, zB, zC]
   refine Disk.zt0 6 20 (v := .int .i64 hf) rfl rfl hs ?_
   simp only [zA, zB, zC]
   refine Disk.zt0 7 21 (v := .slice (some ⟨b, o + hf, none⟩) (l.length - hf) (c - hf)) rfl rfl hs ?_
   simp only [zA, zB, zC]
   refine Disk.zt0 8 22 (v := .func (.func 60) #[] #[]) rfl rfl hs ?_
   simp only [zA, zB, zC]
   refine Disk.zt0 10 24 (v := .func (.func 60) #[] #[]) rfl rfl hs ?_
   simp only [zA, zB, zC]
   refine Disk.zc 4 18 rfl rfl (f := 59) (args := #[.slice (some ⟨b, o, none⟩) hf c, .func (.func 60) #[] #[]]) (w0 := wd) ?_
   refine (I1 wd hs).mono ?_
   rintro e wa ⟨⟨ga, ca, ma, rfl, Ra, la, pa, qa⟩, hba⟩
   have hsa := bel_after hs hba
   rw [t1]
   refine ⟨_, rfl, .inr hsa, ?_⟩
   simp only [zA, zB, zC]
   refine Disk.zc 9 23 rfl rfl (f := 59) (args := #[.slice (some ⟨b, o + hf, none⟩) (l.length - hf) (c - hf), .func (.func 60) #[] #[]]) (w0 := wa) ?_
   refine (I2 wa hsa).mono ?_
   rintro e wb ⟨⟨gb, cb, mb, rfl, Rb, lb, pb, qb⟩, hbb⟩
   have hsb := bel_after hsa hbb
   rw [t2]
   refine ⟨_, rfl, .inr hsb, ?_⟩
   simp only [zA, zB, zC]
   have ka : ma.length = hf := by rw [pa.length_eq, t1]
   have kb : mb.length = l.length - hf := by rw [pb.length_eq, t2]
   have Ja := (Ra.later hbb).ir (cap := ca) Ra.le
   have Jb := Rb.ir (cap := cb) Rb.le
   rw [ka] at Ja
   rw [kb] at Jb
   refine Disk.zc 11 25 rfl rfl (f := 89) (args := #[.slice (some ⟨ga, 0, none⟩) hf ca, .slice (some ⟨gb, 0, none⟩) (l.length - hf) cb, .func (.func 60) #[] #[]]) (w0 := wb) ?_
   refine (merged_any _ _ ma mb wb Ja Jb (by omega) (by omega)).mono ?_
   rintro e wc ⟨⟨gc, cc, rfl, Rc, lc⟩, hbc⟩
   have hsc := bel_after hsb hbc
   have el : ma.length + mb.length = l.length := by omega
   rw [el]
   refine ⟨_, rfl, .inr hsc, ?_⟩
   simp only [zA, zB, zC]
   refine Disk.zr 12 4 (v := .slice (some ⟨gc, 0, none⟩) l.length cc) rfl rfl (w' := wc) (.inr hsc) ?_
   simp only [zA, zB, zC]
   refine Disk.z_done (by kernel_rfl) ?_ _
   have FIN : Hid (w.heap.size <= gc /\ (List.merge ma mb leI).Perm l /\ (List.merge ma mb leI).Pairwise (fun a b => leI a b = true)) := (by
    refine ⟨by have := hsb.size; omega, ?_, ?_⟩
    ·have q := (List.merge_perm_append (le := leI) (xs := ma) (ys := mb)).trans (pa.append pb)
     rwa [List.take_append_drop] at q
    ·exact List.pairwise_merge (fun a b c h1 h2 => by unfold leI at *; simp at *; omega) (fun a b => by unfold leI; simp; omega) _ _ qa qb)
   clear Ja Jb Ra Rb pa pb qa qb hba hbb hbc I1 I2
   go_wp2
   go_ret
   exact ⟨⟨_, _, _, rfl, Rc, FIN.out.1, FIN.out.2.1, FIN.out.2.2⟩, hsc⟩
end Go.Proofs.YthdffigckohpoaaGreat
