/- slices.IndexFunc, slices.ContainsFunc and mustKeep of the program. -/
import Derived.Test.YtklafifiphbibaaGreatZFKeep
namespace Go.Proofs.YtklafifiphbibaaGreat
open Go.RowKit

set_option maxHeartbeats 1600000 in
theorem index_any (B : Nat) (u : Value) (ws : List Int) (p : Int → Bool) (w : World) (hu : IR w u ws) (h2 : ws.length ≤ 1000000000)
    (hp : ∀ x W, Below w.heap.size w W → Calls Tryz.prog 76 #[.int .i64 x, .pointer (some ⟨B, 0, none⟩)] W fun e W' => e = .returned (.bool (p x)) ∧ Below W.heap.size W W') :
    Calls Tryz.prog 102 #[u, .func (.func 76) #[] #[.pointer (some ⟨B, 0, none⟩)]] w fun e w' => (∃ z : Int, e = .returned (.int .i64 z) ∧ decide (0 ≤ z) = ws.any p) ∧ Below w.heap.size w w' := by
  obtain ⟨ao, cap, rfl, _, hc⟩ := hu
  go_enter Tryz.func102, Tryz.ntmps102
  go_wp2
  go_loopw [5, 8] (fun _ kv wr => ∃ k : Nat, k ≤ ws.length ∧ kv = .int .i64 k ∧ Hid (∀ j, j < k → p (ws.getD j 0) = false) ∧ Below w.heap.size w wr) (fun _ kv _ => ws.length - (intOf kv).toNat)
  case atStart => exact ⟨0, Nat.zero_le _, rfl, fun j hj => absurd hj (Nat.not_lt_zero j), Below.refl _ _⟩
  case round =>
    obtain ⟨k, hk, rfl, hd, hbw⟩ := hrel
    by_cases hlt : k < ws.length
    · obtain ⟨b, o, rfl, ck⟩ := hc k hlt
      have ck' := cell_later hbw ck
      have P := hp (ws.getD k 0) _ hbw
      have NX : Hid (p (ws.getD k 0) = false → ∀ j, j < k + 1 → p (ws.getD j 0) = false) := fun e => all_upto hd.out e
      have YES : Hid (p (ws.getD k 0) = true → ws.any p = true) := fun e => any_stop hlt e
      clear hc ck hd hp
      generalize ws.getD k 0 = x at *
      cases hx : p x
      · rw [hx] at P
        have N : Hid (∀ j, j < k + 1 → p (ws.getD j 0) = false) := NX.out hx
        clear NX YES hx
        go_wp2_with fail
        refine P.mono ?_
        rintro e w1 ⟨rfl, hb1⟩
        have hbw1 := bel_after hbw hb1
        go_wp2
        exact ⟨⟨k + 1, by omega, by go_num, N, hbw1⟩, by simp [intOf]; omega⟩
      · rw [hx] at P
        have N : Hid (ws.any p = true) := YES.out hx
        clear NX YES hx
        go_wp2_with fail
        refine P.mono ?_
        rintro e w1 ⟨rfl, hb1⟩
        have hbw1 := bel_after hbw hb1
        go_wp2
        go_ret
        exact ⟨⟨k, rfl, by rw [N.out]; exact decide_eq_true (by omega)⟩, hbw1⟩
    · obtain rfl : k = ws.length := by omega
      have G : Hid (ws.any p = false) := any_done hd.out
      clear hp hd hc
      go_wp2
      go_ret
      exact ⟨⟨-1, rfl, by rw [G.out]; rfl⟩, hbw⟩

theorem contains_any (B : Nat) (u : Value) (ws : List Int) (p : Int → Bool) (w : World) (hu : IR w u ws) (h2 : ws.length ≤ 1000000000)
    (hp : ∀ x W, Below w.heap.size w W → Calls Tryz.prog 76 #[.int .i64 x, .pointer (some ⟨B, 0, none⟩)] W fun e W' => e = .returned (.bool (p x)) ∧ Below W.heap.size W W') :
    Calls Tryz.prog 75 #[u, .func (.func 76) #[] #[.pointer (some ⟨B, 0, none⟩)]] w fun e w' => e = .returned (.bool (ws.any p)) ∧ Below w.heap.size w w' := by
  have C := index_any B u ws p w hu h2 hp
  clear hp hu
  generalize ws.any p = r at *
  go_enter Tryz.func75, Tryz.ntmps75
  go_wp2_with fail
  refine C.mono ?_
  rintro e w1 ⟨⟨z, rfl, hz⟩, hb1⟩
  replace hz : Hid (decide (0 ≤ z) = r) := hz
  go_wp2
  go_ret
  exact ⟨wret_bool hz.out, hb1⟩

theorem any_and (ws : List Int) (l : List Nat) (h : ∀ x, x ∈ ws → fitB l x = true) : (ws.any fun x => fitB l x && youngB x) = ws.any youngB := by
  induction ws with
  | nil => rfl
  | cons x r ih => simp only [List.any_cons]; rw [h x (by simp), ih (fun y hy => h y (by simp [hy]))]; rfl

set_option maxHeartbeats 1600000 in
/-- mustKeep of an old object. -/
theorem mustOld_any (b cap : Nat) (oa : Option Addr) (oc : Nat) (l : List Nat) (W : List Int) (a : Nat) (w : World) (hW : WS w b 0 W) (hl : W.length = 3200) (hc : 3200 ≤ cap) (ha : a + 4 ≤ 3200) (hs : 0 ≤ gw W a ∧ gw W a ≤ 60) (hn : nx W a ≤ 3200)
    (ho : IR w (.slice oa l.length oc) (ints l)) (hso : l.Pairwise (· < ·)) (h1 : l.length ≤ 1000000000) (hf : ∀ x, x ∈ flds W a → fitB l x = true) :
    Calls Tryz.prog 53 #[.agg #[.slice (some ⟨b, 0, none⟩) 3200 cap, .slice oa l.length oc], .iface 91 (.agg #[.slice (some ⟨b, 0, none⟩) 3200 cap, .int .i64 a])] w fun e w' => e = .returned (.bool (hasY W a)) ∧ Below w.heap.size w w' := by
  have hb0 := bel_one w (.cells #[.slice (some ⟨b, 0, none⟩) 3200 cap, .slice oa l.length oc] 47)
  have c0 : (w.alloc (.cells #[.slice (some ⟨b, 0, none⟩) 3200 cap, .slice oa l.length oc] 47)).cell? ⟨w.heap.size, 0, none⟩ = some (.slice (some ⟨b, 0, none⟩) 3200 cap) := cell_new w _ _ _ rfl 0 _ rfl
  have c1 : (w.alloc (.cells #[.slice (some ⟨b, 0, none⟩) 3200 cap, .slice oa l.length oc] 47)).cell? ⟨w.heap.size, 1, none⟩ = some (.slice oa l.length oc) := cell_new w _ _ _ rfl 1 _ rfl
  have OF := objF_any b 0 cap W a _ (hW.later hb0) hl hc ha hs hn
  have m60 : (gw W a).toNat ≤ 60 := by omega
  have HF : Hid (∀ w' q c, Below w.heap.size w w' → (gw W a).toNat ≤ c → ((gw W a).toNat = 0 ∨ q = 0 + (a + 4)) → IR w' (.slice (some ⟨b, q, none⟩) (gw W a).toNat c) (flds W a)) := fun w' q c hb hc hq => by
    have e : (flds W a).length = (gw W a).toNat := flds_length W a
    refine ⟨_, c, by rw [e], by rw [e]; exact hc, fun i hi => ⟨b, q, rfl, ?_⟩⟩
    rw [e] at hi
    obtain rfl := hq.resolve_left (by omega)
    have nxe : nx W a = a + 4 + (gw W a).toNat := rfl
    have := (hW.later hb) (a + 4 + i) (by omega)
    rw [show 0 + (a + 4) + i = 0 + (a + 4 + i) from by omega, this]
    simp [flds, hi]
  have YE : Hid (((flds W a).any fun x => fitB l x && youngB x) = hasY W a) := any_and _ _ hf
  have FL : Hid ((flds W a).length = (gw W a).toNat) := flds_length W a
  have ta := taO (.slice (some ⟨b, 0, none⟩) 3200 cap) a
  have IF : ∀ W', Calls Tryz.prog 74 #[.iface 91 (.agg #[.slice (some ⟨b, 0, none⟩) 3200 cap, .int .i64 a])] W' fun e w' => e = .returned (.bool false) ∧ w' = W' := fun W' => by
    go_enter Tryz.func74, Tryz.ntmps74
    go_wp2
    go_ret
    exact ⟨rfl, rfl⟩
  have hm := mOF (.slice (some ⟨b, 0, none⟩) 3200 cap) a
  generalize hasY W a = r at *
  generalize (gw W a).toNat = n at *
  generalize flds W a = fs at *
  clear hf hs hn ta
  go_enter Tryz.func53, Tryz.ntmps53
  go_wp2_with (go_at_call 74; refine (IF _).mono ?_; rintro e wq ⟨rfl, hq⟩; obtain rfl := hq.symm)
  refine OF.mono ?_
  rintro e w1 ⟨⟨q, c, rfl, hcc, hq⟩, hb1⟩
  have hbw1 := bel_after hb0 hb1
  have d0 := cell_later hb1 c0
  have d1 := cell_later hb1 c1
  have fi := HF.out w1 q c hbw1 hcc hq
  have CF := contains_any w.heap.size _ fs (fun x => fitB l x && youngB x) w1 fi (by rw [FL.out]; omega) (fun x W' hb => mustOne_any w.heap.size (some ⟨b, 0, none⟩) oa 3200 cap oc l x W' (cell_later hb d0) (cell_later hb d1) (ho.later (bel_after hbw1 hb)) hso h1)
  rw [YE.out] at CF
  clear HF YE FL fi hq d0 d1 OF
  go_wp2_with fail
  refine CF.mono ?_
  rintro e w2 ⟨rfl, hb2⟩
  go_wp2
  go_ret
  exact ⟨rfl, bel_after hbw1 hb2⟩
theorem mustYoung_any (v : Value) (a1 oa : Option Addr) (n1 c1 n2 oc : Nat) (x : Int) (w : World) :
    Calls Tryz.prog 53 #[.agg #[.slice a1 n1 c1, .slice oa n2 oc], .iface 93 (.agg #[v, .int .i64 x])] w fun e w' => e = .returned (.bool false) ∧ Below w.heap.size w w' := by
  have hb0 := bel_one w (.cells #[.slice a1 n1 c1, .slice oa n2 oc] 47)
  have ta := taY v x
  have IF : ∀ W', Calls Tryz.prog 74 #[.iface 93 (.agg #[v, .int .i64 x])] W' fun e w' => e = .returned (.bool true) ∧ w' = W' := fun W' => by
    go_enter Tryz.func74, Tryz.ntmps74
    go_wp2
    go_ret
    exact ⟨rfl, rfl⟩
  clear ta
  go_enter Tryz.func53, Tryz.ntmps53
  go_wp2_with (go_at_call 74; refine (IF _).mono ?_; rintro e wq ⟨rfl, hq⟩; obtain rfl := hq.symm)
  go_ret
  exact ⟨rfl, hb0⟩

end Go.Proofs.YtklafifiphbibaaGreat
