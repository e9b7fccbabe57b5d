/- The draw of a heap: its region 28. -/
import Derived.Test.YtklafifiphbibaaGreatZV13
namespace Go.Proofs.YtklafifiphbibaaGreat
open Go.RowKit

noncomputable def rc28 : Code := ((Tryz.f66.body.bind (regOf 28)).getD .skip)
set_option maxRecDepth 1000000 in
set_option maxHeartbeats 6400000 in
theorem reg28 {w wr : World} {N : Nat} {cv : Value} {cs : List UInt8} {H gQ : Nat} {t : Hp} {p1 p2 p3 : Option Addr} {e1 e2 e3 : Nat} {x y : Int} (yin : In64 y) (hx : In64 x) (hN : N < w.heap.size) (D : LD w N cv cs H gQ wr t p1 p2 p3 e1 e2 e3) {Q : Exit → Act → World → Prop} (u1 u2 u4 u5 u6 u7 u8 u10 u11 u12 u13 u14 u16 u17 u18 u19 u20 u21 u22 u23 u24 u25 u26 u27 u28 u29 u30 u31 u32 u33 u34 u35 u36 u37 u38 u39 u40 u41 u42 u43 u44 u45 u46 u47 u48 u49 u50 u51 u52 u53 u54 u55 u56 u57 u58 u59 u60 u61 u62 u63 u64 u65 u66 u67 u68 u69 u70 u71 u72 u73 u74 u75 u76 u77 u78 u79 u80 u81 u82 u83 u84 u85 u86 u87 u88 u89 u90 u91 u92 u93 u94 u95 u96 u97 u98 u99 u100 u101 u102 u103 u104 u105 u106 u107 u108 u109 u110 u111 u112 u113 u114 u115 u116 u117 u118 u119 u120 u121 u122 u123 u124 u125 u126 u127 u128 u129 u130 u131 u132 u133 u134 u135 u136 u137 u138 u139 u140 u141 u142 u143 u144 u145 u146 u147 u148 u149 u150 u151 u152 u153 u154 u155 u156 u157 u158 u159 u160 u161 u162 u163 u164 u165 u166 u167 u168 u169 u170 u171 u172 u173 u174 u175 u176 u177 u178 u179 u180 u181 u182 u183 u184 u185 u186 u187 u188 u189 u190 u191 u192 u193 u194 u195 u196 u197 u198 u199 u200 u201 u202 u203 u204 u205 u206 u207 : Value)
    (hQ : ∀ (SB : Nat) (t' : Hp) (q1 q2 q3 : Option Addr) (f1 f2 f3 : Nat) (b : Bool) (w9 : World) (x107 x108 x109 x110 x111 x112 x113 x114 x115 : Value), LD w N cv cs H gQ w9 t p1 p2 p3 e1 e2 e3 → XB w w9 SB t' q1 q2 q3 f1 f2 f3 → Hid (b = true → t'.words.length = 3200) → Q .normal ⟨List.toArray (.pointer (some ⟨N, 0, none⟩) :: u1 :: u2 :: .pointer (some ⟨H, 0, none⟩) :: u4 :: u5 :: u6 :: u7 :: u8 :: .int .i64 x :: u10 :: u11 :: u12 :: u13 :: u14 :: .int .i64 y :: .pointer (some ⟨SB, 0, none⟩) :: .bool b :: u18 :: u19 :: u20 :: u21 :: u22 :: u23 :: u24 :: u25 :: u26 :: u27 :: u28 :: u29 :: u30 :: u31 :: u32 :: u33 :: u34 :: u35 :: u36 :: u37 :: u38 :: u39 :: u40 :: u41 :: u42 :: u43 :: u44 :: u45 :: u46 :: u47 :: u48 :: u49 :: u50 :: u51 :: u52 :: u53 :: u54 :: u55 :: u56 :: u57 :: u58 :: u59 :: u60 :: u61 :: u62 :: u63 :: u64 :: u65 :: u66 :: u67 :: u68 :: u69 :: u70 :: u71 :: u72 :: u73 :: u74 :: u75 :: u76 :: u77 :: u78 :: u79 :: u80 :: u81 :: u82 :: u83 :: u84 :: u85 :: u86 :: u87 :: u88 :: u89 :: u90 :: u91 :: u92 :: u93 :: u94 :: u95 :: u96 :: u97 :: u98 :: u99 :: u100 :: u101 :: u102 :: u103 :: u104 :: u105 :: u106 :: x107 :: x108 :: x109 :: x110 :: x111 :: x112 :: x113 :: x114 :: x115 :: u116 :: u117 :: u118 :: u119 :: u120 :: u121 :: u122 :: u123 :: u124 :: u125 :: u126 :: u127 :: u128 :: u129 :: u130 :: u131 :: u132 :: u133 :: u134 :: u135 :: u136 :: u137 :: u138 :: u139 :: u140 :: u141 :: u142 :: u143 :: u144 :: u145 :: u146 :: u147 :: u148 :: u149 :: u150 :: u151 :: u152 :: u153 :: u154 :: u155 :: u156 :: u157 :: u158 :: u159 :: u160 :: u161 :: u162 :: u163 :: u164 :: u165 :: u166 :: u167 :: u168 :: u169 :: u170 :: u171 :: u172 :: u173 :: u174 :: u175 :: u176 :: u177 :: u178 :: u179 :: u180 :: u181 :: u182 :: u183 :: u184 :: u185 :: u186 :: u187 :: u188 :: u189 :: u190 :: u191 :: u192 :: u193 :: u194 :: u195 :: u196 :: u197 :: u198 :: u199 :: u200 :: u201 :: u202 :: u203 :: u204 :: u205 :: u206 :: u207 :: []), []⟩ w9) :
    Code.wp Tryz.prog rc28 Q ⟨List.toArray (.pointer (some ⟨N, 0, none⟩) :: u1 :: u2 :: .pointer (some ⟨H, 0, none⟩) :: u4 :: u5 :: u6 :: u7 :: u8 :: .int .i64 x :: u10 :: u11 :: u12 :: u13 :: u14 :: .int .i64 y :: u16 :: u17 :: u18 :: u19 :: u20 :: u21 :: u22 :: u23 :: u24 :: u25 :: u26 :: u27 :: u28 :: u29 :: u30 :: u31 :: u32 :: u33 :: u34 :: u35 :: u36 :: u37 :: u38 :: u39 :: u40 :: u41 :: u42 :: u43 :: u44 :: u45 :: u46 :: u47 :: u48 :: u49 :: u50 :: u51 :: u52 :: u53 :: u54 :: u55 :: u56 :: u57 :: u58 :: u59 :: u60 :: u61 :: u62 :: u63 :: u64 :: u65 :: u66 :: u67 :: u68 :: u69 :: u70 :: u71 :: u72 :: u73 :: u74 :: u75 :: u76 :: u77 :: u78 :: u79 :: u80 :: u81 :: u82 :: u83 :: u84 :: u85 :: u86 :: u87 :: u88 :: u89 :: u90 :: u91 :: u92 :: u93 :: u94 :: u95 :: u96 :: u97 :: u98 :: u99 :: u100 :: u101 :: u102 :: u103 :: u104 :: u105 :: u106 :: u107 :: u108 :: u109 :: u110 :: u111 :: u112 :: u113 :: u114 :: u115 :: u116 :: u117 :: u118 :: u119 :: u120 :: u121 :: u122 :: u123 :: u124 :: u125 :: u126 :: u127 :: u128 :: u129 :: u130 :: u131 :: u132 :: u133 :: u134 :: u135 :: u136 :: u137 :: u138 :: u139 :: u140 :: u141 :: u142 :: u143 :: u144 :: u145 :: u146 :: u147 :: u148 :: u149 :: u150 :: u151 :: u152 :: u153 :: u154 :: u155 :: u156 :: u157 :: u158 :: u159 :: u160 :: u161 :: u162 :: u163 :: u164 :: u165 :: u166 :: u167 :: u168 :: u169 :: u170 :: u171 :: u172 :: u173 :: u174 :: u175 :: u176 :: u177 :: u178 :: u179 :: u180 :: u181 :: u182 :: u183 :: u184 :: u185 :: u186 :: u187 :: u188 :: u189 :: u190 :: u191 :: u192 :: u193 :: u194 :: u195 :: u196 :: u197 :: u198 :: u199 :: u200 :: u201 :: u202 :: u203 :: u204 :: u205 :: u206 :: u207 :: []), []⟩ wr := by
  conv => arg 2; whnf
  have hmx : Tryz.prog.follows .mixedOrders = true := by kernel_rfl
  have hNr : N < wr.heap.size := Nat.lt_of_lt_of_le hN D.gr.size
  have hs0 : Sx wr N cv cs wr.drew := (Sx.refl D.dw).drew
  refine Disk.z_plain 99 (fun W' => Sx wr N cv cs W') hmx hs0 (fun hs => ?_)
  clear hs0
  generalize wr.drew = wd at hs ⊢
  refine Disk.z_take 0 108 (v := .agg #[.slice p1 t.words.length e1, .slice p2 t.roots.length e2, .int .i64 t.old, .int .i64 t.eden, .int .i64 t.surv, .bool t.flip, .int .i64 t.hash, .slice p3 t.kept.length e3]) rfl rfl (by kernel_rfl) (by kernel_rfl) (by kernel_rfl) (by kernel_rfl) (by rfl) hs (fun W' hSw => (by
    obtain ⟨s0, s1, s2, s3, s4, s5, s6, s7⟩ := hv8_cells (D.step hSw).row
    go_simp; first | done | with_reducible rfl)) ?_
  simp only [List.setIfInBounds_toArray, List.set_cons_zero, List.set_cons_succ]
  refine Disk.z_take 1 109 (v := .int .i64 y) rfl rfl (by kernel_rfl) (by kernel_rfl) (by kernel_rfl) (by kernel_rfl) (by rfl) hs (fun W' hSw => (by
    obtain ⟨s0, s1, s2, s3, s4, s5, s6, s7⟩ := hv8_cells (D.step hSw).row
    go_simp; first | done | with_reducible rfl)) ?_
  simp only [List.setIfInBounds_toArray, List.set_cons_zero, List.set_cons_succ]
  refine Disk.z_take 2 110 (v := .pointer (some ⟨N, 0, none⟩)) rfl rfl (by kernel_rfl) (by kernel_rfl) (by kernel_rfl) (by kernel_rfl) (by rfl) hs (fun W' hSw => (by
    obtain ⟨s0, s1, s2, s3, s4, s5, s6, s7⟩ := hv8_cells (D.step hSw).row
    go_simp; first | done | with_reducible rfl)) ?_
  simp only [List.setIfInBounds_toArray, List.set_cons_zero, List.set_cons_succ]
  refine Disk.z_take 4 112 (v := .int .i64 x) rfl rfl (by kernel_rfl) (by kernel_rfl) (by kernel_rfl) (by kernel_rfl) (by rfl) hs (fun W' hSw => (by
    obtain ⟨s0, s1, s2, s3, s4, s5, s6, s7⟩ := hv8_cells (D.step hSw).row
    go_simp; first | done | with_reducible rfl)) ?_
  simp only [List.setIfInBounds_toArray, List.set_cons_zero, List.set_cons_succ]
  refine z_or (i := 3) (j := 9) (by kernel_rfl) ?_ ?_
  · refine o_call 3 111 rfl rfl (by rfl) (f := 43) (args := #[.pointer (some ⟨N, 0, none⟩), .int .i64 5]) (w0 := wd) (by go_simp) ?_
    refine (hs.2.less 5 (by omega) (by omega)).mono ?_
    rintro e v0 ⟨⟨za, rfl, zal, zau⟩, g0, d0⟩
    have hs0 := hs.trans ⟨g0, d0⟩
    refine ⟨_, rfl, .inr hs0, ?_⟩
    simp only [List.setIfInBounds_toArray, List.set_cons_zero, List.set_cons_succ]
    refine z_or (i := 5) (j := 9) (by kernel_rfl) ?_ ?_
    · refine o_call 5 113 rfl rfl (by rfl) (f := 8) (args := #[.agg #[.slice p1 t.words.length e1, .slice p2 t.roots.length e2, .int .i64 t.old, .int .i64 t.eden, .int .i64 t.surv, .bool t.flip, .int .i64 t.hash, .slice p3 t.kept.length e3], .int .i64 y, .int .i64 za, .int .i64 x]) (w0 := v0) (by go_simp) ?_
      refine (kPut (D.step hs0).hm.hr D.sm y za x yin hx).mono ?_
      rintro e v1 ⟨⟨u, b, t', rfl, HU, su, wl⟩, b1⟩
      replace wl : Hid (b = true → t'.words.length = 3200) := wl
      obtain ⟨q1, q2, q3, f1, f2, f3, rfl⟩ := HU.shape
      have hs1 := hs0.more b1 hNr
      have HV0 := HU.low (C := w.heap.size) (Nat.le_trans D.gr.size hs0.1.size)
      refine ⟨_, rfl, .inr hs1, ?_⟩
      simp only [List.setIfInBounds_toArray, List.set_cons_zero, List.set_cons_succ]
      refine Disk.z_take 6 107 (v := .tuple #[.agg #[.slice q1 t'.words.length f1, .slice q2 t'.roots.length f2, .int .i64 t'.old, .int .i64 t'.eden, .int .i64 t'.surv, .bool t'.flip, .int .i64 t'.hash, .slice q3 t'.kept.length f3], .bool b]) rfl rfl (by kernel_rfl) (by kernel_rfl) (by kernel_rfl) (by kernel_rfl) (by rfl) hs1 (fun W' hSw => (by
        obtain ⟨s0, s1, s2, s3, s4, s5, s6, s7⟩ := hv8_cells (D.step hSw).row
        go_simp; first | done | with_reducible rfl)) ?_
      simp only [List.setIfInBounds_toArray, List.set_cons_zero, List.set_cons_succ]
      refine Disk.z_take 7 114 (v := .agg #[.slice q1 t'.words.length f1, .slice q2 t'.roots.length f2, .int .i64 t'.old, .int .i64 t'.eden, .int .i64 t'.surv, .bool t'.flip, .int .i64 t'.hash, .slice q3 t'.kept.length f3]) rfl rfl (by kernel_rfl) (by kernel_rfl) (by kernel_rfl) (by kernel_rfl) (by rfl) hs1 (fun W' hSw => (by
        obtain ⟨s0, s1, s2, s3, s4, s5, s6, s7⟩ := hv8_cells (D.step hSw).row
        go_simp; first | done | with_reducible rfl)) ?_
      simp only [List.setIfInBounds_toArray, List.set_cons_zero, List.set_cons_succ]
      refine Disk.z_take 8 115 (v := .bool b) rfl rfl (by kernel_rfl) (by kernel_rfl) (by kernel_rfl) (by kernel_rfl) (by rfl) hs1 (fun W' hSw => (by
        obtain ⟨s0, s1, s2, s3, s4, s5, s6, s7⟩ := hv8_cells (D.step hSw).row
        go_simp; first | done | with_reducible rfl)) ?_
      simp only [List.setIfInBounds_toArray, List.set_cons_zero, List.set_cons_succ]
      obtain ⟨wa, SB, ewa, eSB, hsA, ⟨fA, FA⟩, lA, bA⟩ := box_new hs1 hNr
      refine Disk.z_run 9 16 (w' := wa) (v := .pointer (some ⟨SB, 0, none⟩)) rfl rfl (by kernel_rfl) (by rfl) (by subst ewa; subst eSB; go_simp) (.inr hsA) ?_
      simp only [List.setIfInBounds_toArray, List.set_cons_zero, List.set_cons_succ]
      clear ewa eSB
      have HV1 := HV0.later bA
      have OKC : (#[.slice q1 t'.words.length f1, .slice q2 t'.roots.length f2, .int .i64 t'.old, .int .i64 t'.eden, .int .i64 t'.surv, .bool t'.flip, .int .i64 t'.hash, .slice q3 t'.kept.length f3] : Array Value).all (·.oneCell') = true := by simp [Value.oneCell']
      have RUN := run_store_box wa 26 26 SB 8 #[.slice q1 t'.words.length f1, .slice q2 t'.roots.length f2, .int .i64 t'.old, .int .i64 t'.eden, .int .i64 t'.surv, .bool t'.flip, .int .i64 t'.hash, .slice q3 t'.kept.length f3] fA FA rfl (by kernel_rfl) OKC
      have G9 := grown_setRow wa SB #[.slice q1 t'.words.length f1, .slice q2 t'.roots.length f2, .int .i64 t'.old, .int .i64 t'.eden, .int .i64 t'.surv, .bool t'.flip, .int .i64 t'.hash, .slice q3 t'.kept.length f3]
      have F9 := row_set wa SB 26 8 #[.slice q1 t'.words.length f1, .slice q2 t'.roots.length f2, .int .i64 t'.old, .int .i64 t'.eden, .int .i64 t'.surv, .bool t'.flip, .int .i64 t'.hash, .slice q3 t'.kept.length f3] fA FA rfl
      have hs9 := Sx.put D.dw hsA G9 lA hNr
      have HV9 := HV1.box FA G9
      refine Disk.z_skip 10 (w' := wa.setRow SB #[.slice q1 t'.words.length f1, .slice q2 t'.roots.length f2, .int .i64 t'.old, .int .i64 t'.eden, .int .i64 t'.surv, .bool t'.flip, .int .i64 t'.hash, .slice q3 t'.kept.length f3]) rfl rfl (by kernel_rfl) (by rfl) (exec_storeB _ _ rfl _ _ rfl rfl RUN) (.inr hs9) ?_
      generalize wa.setRow SB #[.slice q1 t'.words.length f1, .slice q2 t'.roots.length f2, .int .i64 t'.old, .int .i64 t'.eden, .int .i64 t'.surv, .bool t'.flip, .int .i64 t'.hash, .slice q3 t'.kept.length f3] = w9 at *
      refine Disk.z_run 11 17 (v := .bool b) rfl rfl (by kernel_rfl) (by rfl) (w' := w9) (by go_simp) (.inr hs9) ?_
      simp only [List.setIfInBounds_toArray, List.set_cons_zero, List.set_cons_succ]
      refine Disk.z_done (by kernel_rfl) ?_ _
      have DD := D.step hs9
      have XX : XB w w9 SB t' q1 q2 q3 f1 f2 f3 := ⟨F9, HV9, su, Nat.lt_of_lt_of_le (Nat.lt_of_lt_of_le D.hH (Nat.le_of_lt D.row.lt)) lA⟩
      clear RUN G9 F9 hs9 HV9 HV1 HV0 HU OKC
      exact hQ SB t' q1 q2 q3 f1 f2 f3 b _ _ _ _ _ _ _ _ _ _ DD XX wl
    · obtain ⟨wa, SB, ewa, eSB, hsA, ⟨fA, FA⟩, lA, bA⟩ := box_new hs0 hNr
      refine o_run 9 16 (w' := wa) (v := .pointer (some ⟨SB, 0, none⟩)) rfl rfl (by rfl) (by subst ewa; subst eSB; go_simp) (.inr hsA) ?_
      simp only [List.setIfInBounds_toArray, List.set_cons_zero, List.set_cons_succ]
      clear ewa eSB
      refine Disk.z_call 5 113 rfl rfl (by kernel_rfl) (by rfl) (f := 8) (args := #[.agg #[.slice p1 t.words.length e1, .slice p2 t.roots.length e2, .int .i64 t.old, .int .i64 t.eden, .int .i64 t.surv, .bool t.flip, .int .i64 t.hash, .slice p3 t.kept.length e3], .int .i64 y, .int .i64 za, .int .i64 x]) (w0 := wa) (by go_simp) ?_
      refine (kPut (D.step hsA).hm.hr D.sm y za x yin hx).mono ?_
      rintro e v1 ⟨⟨u, b, t', rfl, HU, su, wl⟩, b1⟩
      replace wl : Hid (b = true → t'.words.length = 3200) := wl
      obtain ⟨q1, q2, q3, f1, f2, f3, rfl⟩ := HU.shape
      have hs1 := hsA.more b1 hNr
      have HV0 := HU.low (C := w.heap.size) (Nat.le_trans D.gr.size hsA.1.size)
      have FA1 := FA.of_block (b1.block _ FA.lt)
      refine ⟨_, rfl, .inr hs1, ?_⟩
      simp only [List.setIfInBounds_toArray, List.set_cons_zero, List.set_cons_succ]
      refine Disk.z_take 6 107 (v := .tuple #[.agg #[.slice q1 t'.words.length f1, .slice q2 t'.roots.length f2, .int .i64 t'.old, .int .i64 t'.eden, .int .i64 t'.surv, .bool t'.flip, .int .i64 t'.hash, .slice q3 t'.kept.length f3], .bool b]) rfl rfl (by kernel_rfl) (by kernel_rfl) (by kernel_rfl) (by kernel_rfl) (by rfl) hs1 (fun W' hSw => (by
        obtain ⟨s0, s1, s2, s3, s4, s5, s6, s7⟩ := hv8_cells (D.step hSw).row
        go_simp; first | done | with_reducible rfl)) ?_
      simp only [List.setIfInBounds_toArray, List.set_cons_zero, List.set_cons_succ]
      refine Disk.z_take 7 114 (v := .agg #[.slice q1 t'.words.length f1, .slice q2 t'.roots.length f2, .int .i64 t'.old, .int .i64 t'.eden, .int .i64 t'.surv, .bool t'.flip, .int .i64 t'.hash, .slice q3 t'.kept.length f3]) rfl rfl (by kernel_rfl) (by kernel_rfl) (by kernel_rfl) (by kernel_rfl) (by rfl) hs1 (fun W' hSw => (by
        obtain ⟨s0, s1, s2, s3, s4, s5, s6, s7⟩ := hv8_cells (D.step hSw).row
        go_simp; first | done | with_reducible rfl)) ?_
      simp only [List.setIfInBounds_toArray, List.set_cons_zero, List.set_cons_succ]
      refine Disk.z_take 8 115 (v := .bool b) rfl rfl (by kernel_rfl) (by kernel_rfl) (by kernel_rfl) (by kernel_rfl) (by rfl) hs1 (fun W' hSw => (by
        obtain ⟨s0, s1, s2, s3, s4, s5, s6, s7⟩ := hv8_cells (D.step hSw).row
        go_simp; first | done | with_reducible rfl)) ?_
      simp only [List.setIfInBounds_toArray, List.set_cons_zero, List.set_cons_succ]
      have HV1 := HV0
      have OKC : (#[.slice q1 t'.words.length f1, .slice q2 t'.roots.length f2, .int .i64 t'.old, .int .i64 t'.eden, .int .i64 t'.surv, .bool t'.flip, .int .i64 t'.hash, .slice q3 t'.kept.length f3] : Array Value).all (·.oneCell') = true := by simp [Value.oneCell']
      have RUN := run_store_box v1 26 26 SB 8 #[.slice q1 t'.words.length f1, .slice q2 t'.roots.length f2, .int .i64 t'.old, .int .i64 t'.eden, .int .i64 t'.surv, .bool t'.flip, .int .i64 t'.hash, .slice q3 t'.kept.length f3] fA FA1 rfl (by kernel_rfl) OKC
      have G9 := grown_setRow v1 SB #[.slice q1 t'.words.length f1, .slice q2 t'.roots.length f2, .int .i64 t'.old, .int .i64 t'.eden, .int .i64 t'.surv, .bool t'.flip, .int .i64 t'.hash, .slice q3 t'.kept.length f3]
      have F9 := row_set v1 SB 26 8 #[.slice q1 t'.words.length f1, .slice q2 t'.roots.length f2, .int .i64 t'.old, .int .i64 t'.eden, .int .i64 t'.surv, .bool t'.flip, .int .i64 t'.hash, .slice q3 t'.kept.length f3] fA FA1 rfl
      have hs9 := Sx.put D.dw hs1 G9 lA hNr
      have HV9 := HV1.box FA1 G9
      refine Disk.z_skip 10 (w' := v1.setRow SB #[.slice q1 t'.words.length f1, .slice q2 t'.roots.length f2, .int .i64 t'.old, .int .i64 t'.eden, .int .i64 t'.surv, .bool t'.flip, .int .i64 t'.hash, .slice q3 t'.kept.length f3]) rfl rfl (by kernel_rfl) (by rfl) (exec_storeB _ _ rfl _ _ rfl rfl RUN) (.inr hs9) ?_
      generalize v1.setRow SB #[.slice q1 t'.words.length f1, .slice q2 t'.roots.length f2, .int .i64 t'.old, .int .i64 t'.eden, .int .i64 t'.surv, .bool t'.flip, .int .i64 t'.hash, .slice q3 t'.kept.length f3] = w9 at *
      refine Disk.z_run 11 17 (v := .bool b) rfl rfl (by kernel_rfl) (by rfl) (w' := w9) (by go_simp) (.inr hs9) ?_
      simp only [List.setIfInBounds_toArray, List.set_cons_zero, List.set_cons_succ]
      refine Disk.z_done (by kernel_rfl) ?_ _
      have DD := D.step hs9
      have XX : XB w w9 SB t' q1 q2 q3 f1 f2 f3 := ⟨F9, HV9, su, Nat.lt_of_lt_of_le (Nat.lt_of_lt_of_le D.hH (Nat.le_of_lt D.row.lt)) lA⟩
      clear RUN G9 F9 hs9 HV9 HV1 HV0 HU OKC
      exact hQ SB t' q1 q2 q3 f1 f2 f3 b _ _ _ _ _ _ _ _ _ _ DD XX wl
  · obtain ⟨wa, SB, ewa, eSB, hsA, ⟨fA, FA⟩, lA, bA⟩ := box_new hs hNr
    refine o_run 9 16 (w' := wa) (v := .pointer (some ⟨SB, 0, none⟩)) rfl rfl (by rfl) (by subst ewa; subst eSB; go_simp) (.inr hsA) ?_
    simp only [List.setIfInBounds_toArray, List.set_cons_zero, List.set_cons_succ]
    clear ewa eSB
    refine Disk.z_call 3 111 rfl rfl (by kernel_rfl) (by rfl) (f := 43) (args := #[.pointer (some ⟨N, 0, none⟩), .int .i64 5]) (w0 := wa) (by go_simp) ?_
    refine (hsA.2.less 5 (by omega) (by omega)).mono ?_
    rintro e v0 ⟨⟨za, rfl, zal, zau⟩, g0, d0⟩
    have hs0 := hsA.trans ⟨g0, d0⟩
    have FA0 := FA.of_block (g0.block _ FA.lt (fun e => by injection e; omega))
    refine ⟨_, rfl, .inr hs0, ?_⟩
    simp only [List.setIfInBounds_toArray, List.set_cons_zero, List.set_cons_succ]
    refine Disk.z_call 5 113 rfl rfl (by kernel_rfl) (by rfl) (f := 8) (args := #[.agg #[.slice p1 t.words.length e1, .slice p2 t.roots.length e2, .int .i64 t.old, .int .i64 t.eden, .int .i64 t.surv, .bool t.flip, .int .i64 t.hash, .slice p3 t.kept.length e3], .int .i64 y, .int .i64 za, .int .i64 x]) (w0 := v0) (by go_simp) ?_
    refine (kPut (D.step hs0).hm.hr D.sm y za x yin hx).mono ?_
    rintro e v1 ⟨⟨u, b, t', rfl, HU, su, wl⟩, b1⟩
    replace wl : Hid (b = true → t'.words.length = 3200) := wl
    obtain ⟨q1, q2, q3, f1, f2, f3, rfl⟩ := HU.shape
    have hs1 := hs0.more b1 hNr
    have HV0 := HU.low (C := w.heap.size) (Nat.le_trans D.gr.size hs0.1.size)
    have FA1 := FA0.of_block (b1.block _ FA0.lt)
    refine ⟨_, rfl, .inr hs1, ?_⟩
    simp only [List.setIfInBounds_toArray, List.set_cons_zero, List.set_cons_succ]
    refine Disk.z_take 6 107 (v := .tuple #[.agg #[.slice q1 t'.words.length f1, .slice q2 t'.roots.length f2, .int .i64 t'.old, .int .i64 t'.eden, .int .i64 t'.surv, .bool t'.flip, .int .i64 t'.hash, .slice q3 t'.kept.length f3], .bool b]) rfl rfl (by kernel_rfl) (by kernel_rfl) (by kernel_rfl) (by kernel_rfl) (by rfl) hs1 (fun W' hSw => (by
      obtain ⟨s0, s1, s2, s3, s4, s5, s6, s7⟩ := hv8_cells (D.step hSw).row
      go_simp; first | done | with_reducible rfl)) ?_
    simp only [List.setIfInBounds_toArray, List.set_cons_zero, List.set_cons_succ]
    refine Disk.z_take 7 114 (v := .agg #[.slice q1 t'.words.length f1, .slice q2 t'.roots.length f2, .int .i64 t'.old, .int .i64 t'.eden, .int .i64 t'.surv, .bool t'.flip, .int .i64 t'.hash, .slice q3 t'.kept.length f3]) rfl rfl (by kernel_rfl) (by kernel_rfl) (by kernel_rfl) (by kernel_rfl) (by rfl) hs1 (fun W' hSw => (by
      obtain ⟨s0, s1, s2, s3, s4, s5, s6, s7⟩ := hv8_cells (D.step hSw).row
      go_simp; first | done | with_reducible rfl)) ?_
    simp only [List.setIfInBounds_toArray, List.set_cons_zero, List.set_cons_succ]
    refine Disk.z_take 8 115 (v := .bool b) rfl rfl (by kernel_rfl) (by kernel_rfl) (by kernel_rfl) (by kernel_rfl) (by rfl) hs1 (fun W' hSw => (by
      obtain ⟨s0, s1, s2, s3, s4, s5, s6, s7⟩ := hv8_cells (D.step hSw).row
      go_simp; first | done | with_reducible rfl)) ?_
    simp only [List.setIfInBounds_toArray, List.set_cons_zero, List.set_cons_succ]
    have HV1 := HV0
    have OKC : (#[.slice q1 t'.words.length f1, .slice q2 t'.roots.length f2, .int .i64 t'.old, .int .i64 t'.eden, .int .i64 t'.surv, .bool t'.flip, .int .i64 t'.hash, .slice q3 t'.kept.length f3] : Array Value).all (·.oneCell') = true := by simp [Value.oneCell']
    have RUN := run_store_box v1 26 26 SB 8 #[.slice q1 t'.words.length f1, .slice q2 t'.roots.length f2, .int .i64 t'.old, .int .i64 t'.eden, .int .i64 t'.surv, .bool t'.flip, .int .i64 t'.hash, .slice q3 t'.kept.length f3] fA FA1 rfl (by kernel_rfl) OKC
    have G9 := grown_setRow v1 SB #[.slice q1 t'.words.length f1, .slice q2 t'.roots.length f2, .int .i64 t'.old, .int .i64 t'.eden, .int .i64 t'.surv, .bool t'.flip, .int .i64 t'.hash, .slice q3 t'.kept.length f3]
    have F9 := row_set v1 SB 26 8 #[.slice q1 t'.words.length f1, .slice q2 t'.roots.length f2, .int .i64 t'.old, .int .i64 t'.eden, .int .i64 t'.surv, .bool t'.flip, .int .i64 t'.hash, .slice q3 t'.kept.length f3] fA FA1 rfl
    have hs9 := Sx.put D.dw hs1 G9 lA hNr
    have HV9 := HV1.box FA1 G9
    refine Disk.z_skip 10 (w' := v1.setRow SB #[.slice q1 t'.words.length f1, .slice q2 t'.roots.length f2, .int .i64 t'.old, .int .i64 t'.eden, .int .i64 t'.surv, .bool t'.flip, .int .i64 t'.hash, .slice q3 t'.kept.length f3]) rfl rfl (by kernel_rfl) (by rfl) (exec_storeB _ _ rfl _ _ rfl rfl RUN) (.inr hs9) ?_
    generalize v1.setRow SB #[.slice q1 t'.words.length f1, .slice q2 t'.roots.length f2, .int .i64 t'.old, .int .i64 t'.eden, .int .i64 t'.surv, .bool t'.flip, .int .i64 t'.hash, .slice q3 t'.kept.length f3] = w9 at *
    refine Disk.z_run 11 17 (v := .bool b) rfl rfl (by kernel_rfl) (by rfl) (w' := w9) (by go_simp) (.inr hs9) ?_
    simp only [List.setIfInBounds_toArray, List.set_cons_zero, List.set_cons_succ]
    refine Disk.z_done (by kernel_rfl) ?_ _
    have DD := D.step hs9
    have XX : XB w w9 SB t' q1 q2 q3 f1 f2 f3 := ⟨F9, HV9, su, Nat.lt_of_lt_of_le (Nat.lt_of_lt_of_le D.hH (Nat.le_of_lt D.row.lt)) lA⟩
    clear RUN G9 F9 hs9 HV9 HV1 HV0 HU OKC
    exact hQ SB t' q1 q2 q3 f1 f2 f3 b _ _ _ _ _ _ _ _ _ _ DD XX wl

end Go.Proofs.YtklafifiphbibaaGreat
