/- The draw of a heap: arms of its switch. -/
import Derived.Test.YtklafifiphbibaaGreatZLReg17
namespace Go.Proofs.YtklafifiphbibaaGreat
open Go.RowKit

set_option maxRecDepth 1000000 in
set_option maxHeartbeats 6400000 in
theorem sw0 {w wr : World} {N : Nat} {cv : Value} {cs : List UInt8} {H gQ : Nat} {t : Hp} {p1 p2 p3 : Option Addr} {e1 e2 e3 : Nat} {x : Int} {g c ll : Nat} {m : List Int} (_hll : ll ≤ 3200) (_RM7 : RI wr g m c) (_hml : Hid (m.length = 3 + ll)) (_hin : Hid (∀ x, x ∈ m → In64 x)) (_nN : some g ≠ some N) (_hx : In64 x) (hN : N < w.heap.size) (D7 : LD w N cv cs H gQ wr t p1 p2 p3 e1 e2 e3) {Q : Exit → Act → World → Prop} (u1 u2 u4 u5 u6 u8 u10 u11 u12 u13 u14 u15 u16 u17 u18 u19 u20 u21 u22 u23 u24 u25 u26 u27 u28 u29 u30 u31 u32 u33 u34 u35 u36 u37 u38 u39 u40 u41 u42 u43 u44 u45 u46 u47 u48 u49 u50 u51 u52 u53 u54 u55 u56 u57 u58 u59 u60 u61 u62 u63 u64 u65 u66 u67 u68 u70 u71 u72 u73 u74 u75 u76 u77 u78 u79 u80 u81 u82 u83 u84 u85 u86 u87 u88 u89 u90 u91 u92 u93 u94 u95 u96 u97 u98 u99 u100 u101 u102 u103 u104 u105 u106 u107 u108 u109 u110 u111 u112 u113 u114 u115 u116 u117 u118 u119 u120 u121 u122 u123 u124 u125 u126 u127 u128 u129 u130 u131 u132 u133 u134 u135 u136 u137 u138 u139 u140 u141 u142 u143 u144 u145 u146 u147 u148 u149 u150 u151 u152 u153 u154 u155 u156 u157 u158 u159 u160 u161 u162 u163 u164 u165 u166 u167 u168 u169 u170 u171 u172 u173 u174 u175 u176 u177 u178 u179 u180 u181 u182 u183 u184 u185 u186 u187 u188 u189 u190 u191 u192 u193 u194 u195 u196 u197 u198 u199 u200 u201 u202 u203 u204 u205 u206 u207 : Value)
    (hQ : Hid (∀ (t : Hp) (p1 p2 p3 : Option Addr) (e1 e2 e3 : Nat) (w9 : World) (x10 x11 x12 x13 x14 x15 x16 x17 x18 x19 x20 x21 x22 x23 x24 x25 x70 x71 x72 x73 x74 x75 x76 x77 x78 x79 x80 x81 x82 x83 x84 x85 x86 x87 x88 x89 x90 x91 x92 x93 x94 x95 x96 x97 x98 x99 x100 x101 x102 x103 x104 x105 x106 x107 x108 x109 x110 x111 x112 x113 x114 x115 x116 x117 x118 x119 x120 x121 x122 x123 x124 x125 x126 x127 x128 x129 x130 x131 x132 x133 x134 x135 x136 x137 x138 x139 x140 x141 x142 x143 x144 x145 x146 x147 x148 x149 x150 x151 x152 x153 x154 x155 x156 x157 x158 x159 x160 x161 x162 x163 x164 : Value), LD w N cv cs H gQ w9 t p1 p2 p3 e1 e2 e3 → Q .normal ⟨List.toArray (.pointer (some ⟨N, 0, none⟩) :: u1 :: u2 :: .pointer (some ⟨H, 0, none⟩) :: u4 :: u5 :: u6 :: .slice (some ⟨g, 0, none⟩) (3 + ll) c :: u8 :: .int .i64 x :: x10 :: x11 :: x12 :: x13 :: x14 :: x15 :: x16 :: x17 :: x18 :: x19 :: x20 :: x21 :: x22 :: x23 :: x24 :: x25 :: u26 :: u27 :: u28 :: u29 :: u30 :: u31 :: u32 :: u33 :: u34 :: u35 :: u36 :: u37 :: u38 :: u39 :: u40 :: u41 :: u42 :: u43 :: u44 :: u45 :: u46 :: u47 :: u48 :: u49 :: u50 :: u51 :: u52 :: u53 :: u54 :: u55 :: u56 :: u57 :: u58 :: u59 :: u60 :: u61 :: u62 :: u63 :: u64 :: u65 :: u66 :: u67 :: u68 :: .int .i64 0 :: x70 :: x71 :: x72 :: x73 :: x74 :: x75 :: x76 :: x77 :: x78 :: x79 :: x80 :: x81 :: x82 :: x83 :: x84 :: x85 :: x86 :: x87 :: x88 :: x89 :: x90 :: x91 :: x92 :: x93 :: x94 :: x95 :: x96 :: x97 :: x98 :: x99 :: x100 :: x101 :: x102 :: x103 :: x104 :: x105 :: x106 :: x107 :: x108 :: x109 :: x110 :: x111 :: x112 :: x113 :: x114 :: x115 :: x116 :: x117 :: x118 :: x119 :: x120 :: x121 :: x122 :: x123 :: x124 :: x125 :: x126 :: x127 :: x128 :: x129 :: x130 :: x131 :: x132 :: x133 :: x134 :: x135 :: x136 :: x137 :: x138 :: x139 :: x140 :: x141 :: x142 :: x143 :: x144 :: x145 :: x146 :: x147 :: x148 :: x149 :: x150 :: x151 :: x152 :: x153 :: x154 :: x155 :: x156 :: x157 :: x158 :: x159 :: x160 :: x161 :: x162 :: x163 :: x164 :: u165 :: u166 :: u167 :: u168 :: u169 :: u170 :: u171 :: u172 :: u173 :: u174 :: u175 :: u176 :: u177 :: u178 :: u179 :: u180 :: u181 :: u182 :: u183 :: u184 :: u185 :: u186 :: u187 :: u188 :: u189 :: u190 :: u191 :: u192 :: u193 :: u194 :: u195 :: u196 :: u197 :: u198 :: u199 :: u200 :: u201 :: u202 :: u203 :: u204 :: u205 :: u206 :: u207 :: []), []⟩ w9)) :
    Code.wp Tryz.prog blk4 Q ⟨List.toArray (.pointer (some ⟨N, 0, none⟩) :: u1 :: u2 :: .pointer (some ⟨H, 0, none⟩) :: u4 :: u5 :: u6 :: .slice (some ⟨g, 0, none⟩) (3 + ll) c :: u8 :: .int .i64 x :: u10 :: u11 :: u12 :: u13 :: u14 :: u15 :: u16 :: u17 :: u18 :: u19 :: u20 :: u21 :: u22 :: u23 :: u24 :: u25 :: u26 :: u27 :: u28 :: u29 :: u30 :: u31 :: u32 :: u33 :: u34 :: u35 :: u36 :: u37 :: u38 :: u39 :: u40 :: u41 :: u42 :: u43 :: u44 :: u45 :: u46 :: u47 :: u48 :: u49 :: u50 :: u51 :: u52 :: u53 :: u54 :: u55 :: u56 :: u57 :: u58 :: u59 :: u60 :: u61 :: u62 :: u63 :: u64 :: u65 :: u66 :: u67 :: u68 :: .int .i64 0 :: u70 :: u71 :: u72 :: u73 :: u74 :: u75 :: u76 :: u77 :: u78 :: u79 :: u80 :: u81 :: u82 :: u83 :: u84 :: u85 :: u86 :: u87 :: u88 :: u89 :: u90 :: u91 :: u92 :: u93 :: u94 :: u95 :: u96 :: u97 :: u98 :: u99 :: u100 :: u101 :: u102 :: u103 :: u104 :: u105 :: u106 :: u107 :: u108 :: u109 :: u110 :: u111 :: u112 :: u113 :: u114 :: u115 :: u116 :: u117 :: u118 :: u119 :: u120 :: u121 :: u122 :: u123 :: u124 :: u125 :: u126 :: u127 :: u128 :: u129 :: u130 :: u131 :: u132 :: u133 :: u134 :: u135 :: u136 :: u137 :: u138 :: u139 :: u140 :: u141 :: u142 :: u143 :: u144 :: u145 :: u146 :: u147 :: u148 :: u149 :: u150 :: u151 :: u152 :: u153 :: u154 :: u155 :: u156 :: u157 :: u158 :: u159 :: u160 :: u161 :: u162 :: u163 :: u164 :: u165 :: u166 :: u167 :: u168 :: u169 :: u170 :: u171 :: u172 :: u173 :: u174 :: u175 :: u176 :: u177 :: u178 :: u179 :: u180 :: u181 :: u182 :: u183 :: u184 :: u185 :: u186 :: u187 :: u188 :: u189 :: u190 :: u191 :: u192 :: u193 :: u194 :: u195 :: u196 :: u197 :: u198 :: u199 :: u200 :: u201 :: u202 :: u203 :: u204 :: u205 :: u206 :: u207 :: []), []⟩ wr := by
  conv => arg 2; whnf
  go_wp2_with fail
  refine reg17  hN D7 _ _ _ _ _ _ _ _ _ _ _ _ _ _ _ _ _ _ _ _ _ _ _ _ _ _ _ _ _ _ _ _ _ _ _ _ _ _ _ _ _ _ _ _ _ _ _ _ _ _ _ _ _ _ _ _ _ _ _ _ _ _ _ _ _ _ _ _ _ _ _ _ _ _ _ _ _ _ _ _ _ _ _ _ _ _ _ _ _ _ _ _ _ _ _ _ _ _ _ _ _ _ _ _ _ _ _ _ _ _ _ _ _ _ _ _ _ _ _ _ _ _ _ _ _ _ _ _ _ _ _ _ _ _ _ _ _ _ _ _ _ _ _ _ _ _ _ _ _ _ _ _ _ _ _ _ _ _ _ _ _ _ _ _ _ _ _ _ _ _ _ _ _ _ _ _ _ _ _ _ _ _ _ _ _ _ _ _ _ _ _ _ _ _ _ _ _ _ _ _ _ _ _ _ _ _ ?_
  intro SB t' q1 q2 q3 f1 f2 f3 r b w8 x74 x75 x76 x77 x78 x79 x80 x81 x82 x83 D8 X8 rin wl an
  (
    clear D7
    cases b
    · go_wp2
      exact hQ.out _ _ _ _ _ _ _ _ _ _ _ _ _ _ _ _ _ _ _ _ _ _ _ _ _ _ _ _ _ _ _ _ _ _ _ _ _ _ _ _ _ _ _ _ _ _ _ _ _ _ _ _ _ _ _ _ _ _ _ _ _ _ _ _ _ _ _ _ _ _ _ _ _ _ _ _ _ _ _ _ _ _ _ _ _ _ _ _ _ _ _ _ _ _ _ _ _ _ _ _ _ _ _ _ _ _ _ _ _ _ _ _ _ _ _ _ _ _ _ D8
    · obtain ⟨x0, x1, x2, x3, x4, x5, x6, x7⟩ := hv8_cells X8.row
      have OKC : (#[.slice q1 t'.words.length f1, .slice q2 t'.roots.length f2, .int .i64 t'.old, .int .i64 t'.eden, .int .i64 t'.surv, .bool t'.flip, .int .i64 t'.hash, .slice q3 t'.kept.length f3] : Array Value).all (·.oneCell') = true := by simp [Value.oneCell']
      go_wp2_with ((with_reducible refine store_box _ ?_ (.tmp 3) (.tmp 85) 26 ?_ 26 H 8 #[.slice q1 t'.words.length f1, .slice q2 t'.roots.length f2, .int .i64 t'.old, .int .i64 t'.eden, .int .i64 t'.surv, .bool t'.flip, .int .i64 t'.hash, .slice q3 t'.kept.length f3] _ ?_ ?_ D8.row ?_ ?_ OKC ?_); rfl; rfl; rfl; rfl; rfl; kernel_rfl; intro w9 F9 G9)
      have D9 := D8.take X8.hm X8.sm (wl.out (by simp)) G9 F9
      clear F9 G9 OKC x0 x1 x2 x3 x4 x5 x6 x7 X8 D8
      have BO := D9.dw.once 2 (by omega) (by omega)
      go_wp2_with fail
      refine BO.mono ?_
      rintro x wO ⟨⟨bo, rfl⟩, go, dO⟩
      have D10 := D9.step ⟨go, dO⟩
      clear BO go dO D9
      cases bo
      · go_wp2
        exact hQ.out _ _ _ _ _ _ _ _ _ _ _ _ _ _ _ _ _ _ _ _ _ _ _ _ _ _ _ _ _ _ _ _ _ _ _ _ _ _ _ _ _ _ _ _ _ _ _ _ _ _ _ _ _ _ _ _ _ _ _ _ _ _ _ _ _ _ _ _ _ _ _ _ _ _ _ _ _ _ _ _ _ _ _ _ _ _ _ _ _ _ _ _ _ _ _ _ _ _ _ _ _ _ _ _ _ _ _ _ _ _ _ _ _ _ _ _ _ _ _ D10
      · skip
        obtain ⟨c0, c1, c2, c3, c4, c5, c6, c7⟩ := hv8_cells D10.row
        have KC := kAdd D10.hm.hr D10.sm r rin
        go_wp2_with fail
        refine KC.mono ?_
        rintro e wK ⟨⟨u, b, t2, rfl, HU, su, wl⟩, hbk⟩
        replace wl : Hid (b = true → t2.words.length = 3200) := wl
        obtain ⟨s1, s2, s3, h1, h2, h3, rfl⟩ := HU.shape
        have DK := D10.later hbk
        have alk := bel_one wK (.cells #[.slice s1 t2.words.length h1, .slice s2 t2.roots.length h2, .int .i64 t2.old, .int .i64 t2.eden, .int .i64 t2.surv, .bool t2.flip, .int .i64 t2.hash, .slice s3 t2.kept.length h3] 26)
        have X11 : XB w (wK.alloc (.cells #[.slice s1 t2.words.length h1, .slice s2 t2.roots.length h2, .int .i64 t2.old, .int .i64 t2.eden, .int .i64 t2.surv, .bool t2.flip, .int .i64 t2.hash, .slice s3 t2.kept.length h3] 26)) wK.heap.size t2 s1 s2 s3 h1 h2 h3 := ⟨row_any wK #[.slice s1 t2.words.length h1, .slice s2 t2.roots.length h2, .int .i64 t2.old, .int .i64 t2.eden, .int .i64 t2.surv, .bool t2.flip, .int .i64 t2.hash, .slice s3 t2.kept.length h3] 26, (HU.low (C := w.heap.size) D10.gr.size).later alk, su, Nat.lt_of_lt_of_le D10.hH (Nat.le_of_lt DK.row.lt)⟩
        have D11 := DK.later alk
        clear KC hbk HU DK alk c0 c1 c2 c3 c4 c5 c6 c7 D10
        cases b
        · go_wp2
          exact hQ.out _ _ _ _ _ _ _ _ _ _ _ _ _ _ _ _ _ _ _ _ _ _ _ _ _ _ _ _ _ _ _ _ _ _ _ _ _ _ _ _ _ _ _ _ _ _ _ _ _ _ _ _ _ _ _ _ _ _ _ _ _ _ _ _ _ _ _ _ _ _ _ _ _ _ _ _ _ _ _ _ _ _ _ _ _ _ _ _ _ _ _ _ _ _ _ _ _ _ _ _ _ _ _ _ _ _ _ _ _ _ _ _ _ _ _ _ _ _ _ D11
        · obtain ⟨x0, x1, x2, x3, x4, x5, x6, x7⟩ := hv8_cells X11.row
          have OKC : (#[.slice s1 t2.words.length h1, .slice s2 t2.roots.length h2, .int .i64 t2.old, .int .i64 t2.eden, .int .i64 t2.surv, .bool t2.flip, .int .i64 t2.hash, .slice s3 t2.kept.length h3] : Array Value).all (·.oneCell') = true := by simp [Value.oneCell']
          go_wp2_with ((with_reducible refine store_box _ ?_ (.tmp 3) (.tmp 95) 26 ?_ 26 H 8 #[.slice s1 t2.words.length h1, .slice s2 t2.roots.length h2, .int .i64 t2.old, .int .i64 t2.eden, .int .i64 t2.surv, .bool t2.flip, .int .i64 t2.hash, .slice s3 t2.kept.length h3] _ ?_ ?_ D11.row ?_ ?_ OKC ?_); rfl; rfl; rfl; rfl; rfl; kernel_rfl; intro w12 F9 G9)
          have D12 := D11.take X11.hm X11.sm (wl.out (by simp)) G9 F9
          clear F9 G9 OKC x0 x1 x2 x3 x4 x5 x6 x7 X11 D11
          go_wp2
          exact hQ.out _ _ _ _ _ _ _ _ _ _ _ _ _ _ _ _ _ _ _ _ _ _ _ _ _ _ _ _ _ _ _ _ _ _ _ _ _ _ _ _ _ _ _ _ _ _ _ _ _ _ _ _ _ _ _ _ _ _ _ _ _ _ _ _ _ _ _ _ _ _ _ _ _ _ _ _ _ _ _ _ _ _ _ _ _ _ _ _ _ _ _ _ _ _ _ _ _ _ _ _ _ _ _ _ _ _ _ _ _ _ _ _ _ _ _ _ _ _ _ D12
  )

set_option maxRecDepth 1000000 in
set_option maxHeartbeats 6400000 in
theorem sw1 {w wr : World} {N : Nat} {cv : Value} {cs : List UInt8} {H gQ : Nat} {t : Hp} {p1 p2 p3 : Option Addr} {e1 e2 e3 : Nat} {x : Int} {g c ll : Nat} {m : List Int} (_hll : ll ≤ 3200) (_RM7 : RI wr g m c) (_hml : Hid (m.length = 3 + ll)) (_hin : Hid (∀ x, x ∈ m → In64 x)) (_nN : some g ≠ some N) (_hx : In64 x) (hN : N < w.heap.size) (D7 : LD w N cv cs H gQ wr t p1 p2 p3 e1 e2 e3) {Q : Exit → Act → World → Prop} (u1 u2 u4 u5 u6 u8 u10 u11 u12 u13 u14 u15 u16 u17 u18 u19 u20 u21 u22 u23 u24 u25 u26 u27 u28 u29 u30 u31 u32 u33 u34 u35 u36 u37 u38 u39 u40 u41 u42 u43 u44 u45 u46 u47 u48 u49 u50 u51 u52 u53 u54 u55 u56 u57 u58 u59 u60 u61 u62 u63 u64 u65 u66 u67 u68 u70 u71 u72 u73 u74 u75 u76 u77 u78 u79 u80 u81 u82 u83 u84 u85 u86 u87 u88 u89 u90 u91 u92 u93 u94 u95 u96 u97 u98 u99 u100 u101 u102 u103 u104 u105 u106 u107 u108 u109 u110 u111 u112 u113 u114 u115 u116 u117 u118 u119 u120 u121 u122 u123 u124 u125 u126 u127 u128 u129 u130 u131 u132 u133 u134 u135 u136 u137 u138 u139 u140 u141 u142 u143 u144 u145 u146 u147 u148 u149 u150 u151 u152 u153 u154 u155 u156 u157 u158 u159 u160 u161 u162 u163 u164 u165 u166 u167 u168 u169 u170 u171 u172 u173 u174 u175 u176 u177 u178 u179 u180 u181 u182 u183 u184 u185 u186 u187 u188 u189 u190 u191 u192 u193 u194 u195 u196 u197 u198 u199 u200 u201 u202 u203 u204 u205 u206 u207 : Value)
    (hQ : Hid (∀ (t : Hp) (p1 p2 p3 : Option Addr) (e1 e2 e3 : Nat) (w9 : World) (x10 x11 x12 x13 x14 x15 x16 x17 x18 x19 x20 x21 x22 x23 x24 x25 x70 x71 x72 x73 x74 x75 x76 x77 x78 x79 x80 x81 x82 x83 x84 x85 x86 x87 x88 x89 x90 x91 x92 x93 x94 x95 x96 x97 x98 x99 x100 x101 x102 x103 x104 x105 x106 x107 x108 x109 x110 x111 x112 x113 x114 x115 x116 x117 x118 x119 x120 x121 x122 x123 x124 x125 x126 x127 x128 x129 x130 x131 x132 x133 x134 x135 x136 x137 x138 x139 x140 x141 x142 x143 x144 x145 x146 x147 x148 x149 x150 x151 x152 x153 x154 x155 x156 x157 x158 x159 x160 x161 x162 x163 x164 : Value), LD w N cv cs H gQ w9 t p1 p2 p3 e1 e2 e3 → Q .normal ⟨List.toArray (.pointer (some ⟨N, 0, none⟩) :: u1 :: u2 :: .pointer (some ⟨H, 0, none⟩) :: u4 :: u5 :: u6 :: .slice (some ⟨g, 0, none⟩) (3 + ll) c :: u8 :: .int .i64 x :: x10 :: x11 :: x12 :: x13 :: x14 :: x15 :: x16 :: x17 :: x18 :: x19 :: x20 :: x21 :: x22 :: x23 :: x24 :: x25 :: u26 :: u27 :: u28 :: u29 :: u30 :: u31 :: u32 :: u33 :: u34 :: u35 :: u36 :: u37 :: u38 :: u39 :: u40 :: u41 :: u42 :: u43 :: u44 :: u45 :: u46 :: u47 :: u48 :: u49 :: u50 :: u51 :: u52 :: u53 :: u54 :: u55 :: u56 :: u57 :: u58 :: u59 :: u60 :: u61 :: u62 :: u63 :: u64 :: u65 :: u66 :: u67 :: u68 :: .int .i64 1 :: x70 :: x71 :: x72 :: x73 :: x74 :: x75 :: x76 :: x77 :: x78 :: x79 :: x80 :: x81 :: x82 :: x83 :: x84 :: x85 :: x86 :: x87 :: x88 :: x89 :: x90 :: x91 :: x92 :: x93 :: x94 :: x95 :: x96 :: x97 :: x98 :: x99 :: x100 :: x101 :: x102 :: x103 :: x104 :: x105 :: x106 :: x107 :: x108 :: x109 :: x110 :: x111 :: x112 :: x113 :: x114 :: x115 :: x116 :: x117 :: x118 :: x119 :: x120 :: x121 :: x122 :: x123 :: x124 :: x125 :: x126 :: x127 :: x128 :: x129 :: x130 :: x131 :: x132 :: x133 :: x134 :: x135 :: x136 :: x137 :: x138 :: x139 :: x140 :: x141 :: x142 :: x143 :: x144 :: x145 :: x146 :: x147 :: x148 :: x149 :: x150 :: x151 :: x152 :: x153 :: x154 :: x155 :: x156 :: x157 :: x158 :: x159 :: x160 :: x161 :: x162 :: x163 :: x164 :: u165 :: u166 :: u167 :: u168 :: u169 :: u170 :: u171 :: u172 :: u173 :: u174 :: u175 :: u176 :: u177 :: u178 :: u179 :: u180 :: u181 :: u182 :: u183 :: u184 :: u185 :: u186 :: u187 :: u188 :: u189 :: u190 :: u191 :: u192 :: u193 :: u194 :: u195 :: u196 :: u197 :: u198 :: u199 :: u200 :: u201 :: u202 :: u203 :: u204 :: u205 :: u206 :: u207 :: []), []⟩ w9)) :
    Code.wp Tryz.prog blk4 Q ⟨List.toArray (.pointer (some ⟨N, 0, none⟩) :: u1 :: u2 :: .pointer (some ⟨H, 0, none⟩) :: u4 :: u5 :: u6 :: .slice (some ⟨g, 0, none⟩) (3 + ll) c :: u8 :: .int .i64 x :: u10 :: u11 :: u12 :: u13 :: u14 :: u15 :: u16 :: u17 :: u18 :: u19 :: u20 :: u21 :: u22 :: u23 :: u24 :: u25 :: u26 :: u27 :: u28 :: u29 :: u30 :: u31 :: u32 :: u33 :: u34 :: u35 :: u36 :: u37 :: u38 :: u39 :: u40 :: u41 :: u42 :: u43 :: u44 :: u45 :: u46 :: u47 :: u48 :: u49 :: u50 :: u51 :: u52 :: u53 :: u54 :: u55 :: u56 :: u57 :: u58 :: u59 :: u60 :: u61 :: u62 :: u63 :: u64 :: u65 :: u66 :: u67 :: u68 :: .int .i64 1 :: u70 :: u71 :: u72 :: u73 :: u74 :: u75 :: u76 :: u77 :: u78 :: u79 :: u80 :: u81 :: u82 :: u83 :: u84 :: u85 :: u86 :: u87 :: u88 :: u89 :: u90 :: u91 :: u92 :: u93 :: u94 :: u95 :: u96 :: u97 :: u98 :: u99 :: u100 :: u101 :: u102 :: u103 :: u104 :: u105 :: u106 :: u107 :: u108 :: u109 :: u110 :: u111 :: u112 :: u113 :: u114 :: u115 :: u116 :: u117 :: u118 :: u119 :: u120 :: u121 :: u122 :: u123 :: u124 :: u125 :: u126 :: u127 :: u128 :: u129 :: u130 :: u131 :: u132 :: u133 :: u134 :: u135 :: u136 :: u137 :: u138 :: u139 :: u140 :: u141 :: u142 :: u143 :: u144 :: u145 :: u146 :: u147 :: u148 :: u149 :: u150 :: u151 :: u152 :: u153 :: u154 :: u155 :: u156 :: u157 :: u158 :: u159 :: u160 :: u161 :: u162 :: u163 :: u164 :: u165 :: u166 :: u167 :: u168 :: u169 :: u170 :: u171 :: u172 :: u173 :: u174 :: u175 :: u176 :: u177 :: u178 :: u179 :: u180 :: u181 :: u182 :: u183 :: u184 :: u185 :: u186 :: u187 :: u188 :: u189 :: u190 :: u191 :: u192 :: u193 :: u194 :: u195 :: u196 :: u197 :: u198 :: u199 :: u200 :: u201 :: u202 :: u203 :: u204 :: u205 :: u206 :: u207 :: []), []⟩ wr := by
  conv => arg 2; whnf
  go_wp2_with fail
  refine reg17  hN D7 _ _ _ _ _ _ _ _ _ _ _ _ _ _ _ _ _ _ _ _ _ _ _ _ _ _ _ _ _ _ _ _ _ _ _ _ _ _ _ _ _ _ _ _ _ _ _ _ _ _ _ _ _ _ _ _ _ _ _ _ _ _ _ _ _ _ _ _ _ _ _ _ _ _ _ _ _ _ _ _ _ _ _ _ _ _ _ _ _ _ _ _ _ _ _ _ _ _ _ _ _ _ _ _ _ _ _ _ _ _ _ _ _ _ _ _ _ _ _ _ _ _ _ _ _ _ _ _ _ _ _ _ _ _ _ _ _ _ _ _ _ _ _ _ _ _ _ _ _ _ _ _ _ _ _ _ _ _ _ _ _ _ _ _ _ _ _ _ _ _ _ _ _ _ _ _ _ _ _ _ _ _ _ _ _ _ _ _ _ _ _ _ _ _ _ _ _ _ _ _ _ _ _ _ _ _ ?_
  intro SB t' q1 q2 q3 f1 f2 f3 r b w8 x74 x75 x76 x77 x78 x79 x80 x81 x82 x83 D8 X8 rin wl an
  (
    clear D7
    cases b
    · go_wp2
      exact hQ.out _ _ _ _ _ _ _ _ _ _ _ _ _ _ _ _ _ _ _ _ _ _ _ _ _ _ _ _ _ _ _ _ _ _ _ _ _ _ _ _ _ _ _ _ _ _ _ _ _ _ _ _ _ _ _ _ _ _ _ _ _ _ _ _ _ _ _ _ _ _ _ _ _ _ _ _ _ _ _ _ _ _ _ _ _ _ _ _ _ _ _ _ _ _ _ _ _ _ _ _ _ _ _ _ _ _ _ _ _ _ _ _ _ _ _ _ _ _ _ D8
    · obtain ⟨x0, x1, x2, x3, x4, x5, x6, x7⟩ := hv8_cells X8.row
      have OKC : (#[.slice q1 t'.words.length f1, .slice q2 t'.roots.length f2, .int .i64 t'.old, .int .i64 t'.eden, .int .i64 t'.surv, .bool t'.flip, .int .i64 t'.hash, .slice q3 t'.kept.length f3] : Array Value).all (·.oneCell') = true := by simp [Value.oneCell']
      go_wp2_with ((with_reducible refine store_box _ ?_ (.tmp 3) (.tmp 85) 26 ?_ 26 H 8 #[.slice q1 t'.words.length f1, .slice q2 t'.roots.length f2, .int .i64 t'.old, .int .i64 t'.eden, .int .i64 t'.surv, .bool t'.flip, .int .i64 t'.hash, .slice q3 t'.kept.length f3] _ ?_ ?_ D8.row ?_ ?_ OKC ?_); rfl; rfl; rfl; rfl; rfl; kernel_rfl; intro w9 F9 G9)
      have D9 := D8.take X8.hm X8.sm (wl.out (by simp)) G9 F9
      clear F9 G9 OKC x0 x1 x2 x3 x4 x5 x6 x7 X8 D8
      have BO := D9.dw.once 2 (by omega) (by omega)
      go_wp2_with fail
      refine BO.mono ?_
      rintro x wO ⟨⟨bo, rfl⟩, go, dO⟩
      have D10 := D9.step ⟨go, dO⟩
      clear BO go dO D9
      cases bo
      · go_wp2
        exact hQ.out _ _ _ _ _ _ _ _ _ _ _ _ _ _ _ _ _ _ _ _ _ _ _ _ _ _ _ _ _ _ _ _ _ _ _ _ _ _ _ _ _ _ _ _ _ _ _ _ _ _ _ _ _ _ _ _ _ _ _ _ _ _ _ _ _ _ _ _ _ _ _ _ _ _ _ _ _ _ _ _ _ _ _ _ _ _ _ _ _ _ _ _ _ _ _ _ _ _ _ _ _ _ _ _ _ _ _ _ _ _ _ _ _ _ _ _ _ _ _ D10
      · skip
        obtain ⟨c0, c1, c2, c3, c4, c5, c6, c7⟩ := hv8_cells D10.row
        have KC := kAdd D10.hm.hr D10.sm r rin
        go_wp2_with fail
        refine KC.mono ?_
        rintro e wK ⟨⟨u, b, t2, rfl, HU, su, wl⟩, hbk⟩
        replace wl : Hid (b = true → t2.words.length = 3200) := wl
        obtain ⟨s1, s2, s3, h1, h2, h3, rfl⟩ := HU.shape
        have DK := D10.later hbk
        have alk := bel_one wK (.cells #[.slice s1 t2.words.length h1, .slice s2 t2.roots.length h2, .int .i64 t2.old, .int .i64 t2.eden, .int .i64 t2.surv, .bool t2.flip, .int .i64 t2.hash, .slice s3 t2.kept.length h3] 26)
        have X11 : XB w (wK.alloc (.cells #[.slice s1 t2.words.length h1, .slice s2 t2.roots.length h2, .int .i64 t2.old, .int .i64 t2.eden, .int .i64 t2.surv, .bool t2.flip, .int .i64 t2.hash, .slice s3 t2.kept.length h3] 26)) wK.heap.size t2 s1 s2 s3 h1 h2 h3 := ⟨row_any wK #[.slice s1 t2.words.length h1, .slice s2 t2.roots.length h2, .int .i64 t2.old, .int .i64 t2.eden, .int .i64 t2.surv, .bool t2.flip, .int .i64 t2.hash, .slice s3 t2.kept.length h3] 26, (HU.low (C := w.heap.size) D10.gr.size).later alk, su, Nat.lt_of_lt_of_le D10.hH (Nat.le_of_lt DK.row.lt)⟩
        have D11 := DK.later alk
        clear KC hbk HU DK alk c0 c1 c2 c3 c4 c5 c6 c7 D10
        cases b
        · go_wp2
          exact hQ.out _ _ _ _ _ _ _ _ _ _ _ _ _ _ _ _ _ _ _ _ _ _ _ _ _ _ _ _ _ _ _ _ _ _ _ _ _ _ _ _ _ _ _ _ _ _ _ _ _ _ _ _ _ _ _ _ _ _ _ _ _ _ _ _ _ _ _ _ _ _ _ _ _ _ _ _ _ _ _ _ _ _ _ _ _ _ _ _ _ _ _ _ _ _ _ _ _ _ _ _ _ _ _ _ _ _ _ _ _ _ _ _ _ _ _ _ _ _ _ D11
        · obtain ⟨x0, x1, x2, x3, x4, x5, x6, x7⟩ := hv8_cells X11.row
          have OKC : (#[.slice s1 t2.words.length h1, .slice s2 t2.roots.length h2, .int .i64 t2.old, .int .i64 t2.eden, .int .i64 t2.surv, .bool t2.flip, .int .i64 t2.hash, .slice s3 t2.kept.length h3] : Array Value).all (·.oneCell') = true := by simp [Value.oneCell']
          go_wp2_with ((with_reducible refine store_box _ ?_ (.tmp 3) (.tmp 95) 26 ?_ 26 H 8 #[.slice s1 t2.words.length h1, .slice s2 t2.roots.length h2, .int .i64 t2.old, .int .i64 t2.eden, .int .i64 t2.surv, .bool t2.flip, .int .i64 t2.hash, .slice s3 t2.kept.length h3] _ ?_ ?_ D11.row ?_ ?_ OKC ?_); rfl; rfl; rfl; rfl; rfl; kernel_rfl; intro w12 F9 G9)
          have D12 := D11.take X11.hm X11.sm (wl.out (by simp)) G9 F9
          clear F9 G9 OKC x0 x1 x2 x3 x4 x5 x6 x7 X11 D11
          go_wp2
          exact hQ.out _ _ _ _ _ _ _ _ _ _ _ _ _ _ _ _ _ _ _ _ _ _ _ _ _ _ _ _ _ _ _ _ _ _ _ _ _ _ _ _ _ _ _ _ _ _ _ _ _ _ _ _ _ _ _ _ _ _ _ _ _ _ _ _ _ _ _ _ _ _ _ _ _ _ _ _ _ _ _ _ _ _ _ _ _ _ _ _ _ _ _ _ _ _ _ _ _ _ _ _ _ _ _ _ _ _ _ _ _ _ _ _ _ _ _ _ _ _ _ D12
  )

set_option maxRecDepth 1000000 in
set_option maxHeartbeats 6400000 in
theorem sw2 {w wr : World} {N : Nat} {cv : Value} {cs : List UInt8} {H gQ : Nat} {t : Hp} {p1 p2 p3 : Option Addr} {e1 e2 e3 : Nat} {x : Int} {g c ll : Nat} {m : List Int} (_hll : ll ≤ 3200) (_RM7 : RI wr g m c) (_hml : Hid (m.length = 3 + ll)) (_hin : Hid (∀ x, x ∈ m → In64 x)) (_nN : some g ≠ some N) (_hx : In64 x) (hN : N < w.heap.size) (D7 : LD w N cv cs H gQ wr t p1 p2 p3 e1 e2 e3) {Q : Exit → Act → World → Prop} (u1 u2 u4 u5 u6 u8 u10 u11 u12 u13 u14 u15 u16 u17 u18 u19 u20 u21 u22 u23 u24 u25 u26 u27 u28 u29 u30 u31 u32 u33 u34 u35 u36 u37 u38 u39 u40 u41 u42 u43 u44 u45 u46 u47 u48 u49 u50 u51 u52 u53 u54 u55 u56 u57 u58 u59 u60 u61 u62 u63 u64 u65 u66 u67 u68 u70 u71 u72 u73 u74 u75 u76 u77 u78 u79 u80 u81 u82 u83 u84 u85 u86 u87 u88 u89 u90 u91 u92 u93 u94 u95 u96 u97 u98 u99 u100 u101 u102 u103 u104 u105 u106 u107 u108 u109 u110 u111 u112 u113 u114 u115 u116 u117 u118 u119 u120 u121 u122 u123 u124 u125 u126 u127 u128 u129 u130 u131 u132 u133 u134 u135 u136 u137 u138 u139 u140 u141 u142 u143 u144 u145 u146 u147 u148 u149 u150 u151 u152 u153 u154 u155 u156 u157 u158 u159 u160 u161 u162 u163 u164 u165 u166 u167 u168 u169 u170 u171 u172 u173 u174 u175 u176 u177 u178 u179 u180 u181 u182 u183 u184 u185 u186 u187 u188 u189 u190 u191 u192 u193 u194 u195 u196 u197 u198 u199 u200 u201 u202 u203 u204 u205 u206 u207 : Value)
    (hQ : Hid (∀ (t : Hp) (p1 p2 p3 : Option Addr) (e1 e2 e3 : Nat) (w9 : World) (x10 x11 x12 x13 x14 x15 x16 x17 x18 x19 x20 x21 x22 x23 x24 x25 x70 x71 x72 x73 x74 x75 x76 x77 x78 x79 x80 x81 x82 x83 x84 x85 x86 x87 x88 x89 x90 x91 x92 x93 x94 x95 x96 x97 x98 x99 x100 x101 x102 x103 x104 x105 x106 x107 x108 x109 x110 x111 x112 x113 x114 x115 x116 x117 x118 x119 x120 x121 x122 x123 x124 x125 x126 x127 x128 x129 x130 x131 x132 x133 x134 x135 x136 x137 x138 x139 x140 x141 x142 x143 x144 x145 x146 x147 x148 x149 x150 x151 x152 x153 x154 x155 x156 x157 x158 x159 x160 x161 x162 x163 x164 : Value), LD w N cv cs H gQ w9 t p1 p2 p3 e1 e2 e3 → Q .normal ⟨List.toArray (.pointer (some ⟨N, 0, none⟩) :: u1 :: u2 :: .pointer (some ⟨H, 0, none⟩) :: u4 :: u5 :: u6 :: .slice (some ⟨g, 0, none⟩) (3 + ll) c :: u8 :: .int .i64 x :: x10 :: x11 :: x12 :: x13 :: x14 :: x15 :: x16 :: x17 :: x18 :: x19 :: x20 :: x21 :: x22 :: x23 :: x24 :: x25 :: u26 :: u27 :: u28 :: u29 :: u30 :: u31 :: u32 :: u33 :: u34 :: u35 :: u36 :: u37 :: u38 :: u39 :: u40 :: u41 :: u42 :: u43 :: u44 :: u45 :: u46 :: u47 :: u48 :: u49 :: u50 :: u51 :: u52 :: u53 :: u54 :: u55 :: u56 :: u57 :: u58 :: u59 :: u60 :: u61 :: u62 :: u63 :: u64 :: u65 :: u66 :: u67 :: u68 :: .int .i64 2 :: x70 :: x71 :: x72 :: x73 :: x74 :: x75 :: x76 :: x77 :: x78 :: x79 :: x80 :: x81 :: x82 :: x83 :: x84 :: x85 :: x86 :: x87 :: x88 :: x89 :: x90 :: x91 :: x92 :: x93 :: x94 :: x95 :: x96 :: x97 :: x98 :: x99 :: x100 :: x101 :: x102 :: x103 :: x104 :: x105 :: x106 :: x107 :: x108 :: x109 :: x110 :: x111 :: x112 :: x113 :: x114 :: x115 :: x116 :: x117 :: x118 :: x119 :: x120 :: x121 :: x122 :: x123 :: x124 :: x125 :: x126 :: x127 :: x128 :: x129 :: x130 :: x131 :: x132 :: x133 :: x134 :: x135 :: x136 :: x137 :: x138 :: x139 :: x140 :: x141 :: x142 :: x143 :: x144 :: x145 :: x146 :: x147 :: x148 :: x149 :: x150 :: x151 :: x152 :: x153 :: x154 :: x155 :: x156 :: x157 :: x158 :: x159 :: x160 :: x161 :: x162 :: x163 :: x164 :: u165 :: u166 :: u167 :: u168 :: u169 :: u170 :: u171 :: u172 :: u173 :: u174 :: u175 :: u176 :: u177 :: u178 :: u179 :: u180 :: u181 :: u182 :: u183 :: u184 :: u185 :: u186 :: u187 :: u188 :: u189 :: u190 :: u191 :: u192 :: u193 :: u194 :: u195 :: u196 :: u197 :: u198 :: u199 :: u200 :: u201 :: u202 :: u203 :: u204 :: u205 :: u206 :: u207 :: []), []⟩ w9)) :
    Code.wp Tryz.prog blk4 Q ⟨List.toArray (.pointer (some ⟨N, 0, none⟩) :: u1 :: u2 :: .pointer (some ⟨H, 0, none⟩) :: u4 :: u5 :: u6 :: .slice (some ⟨g, 0, none⟩) (3 + ll) c :: u8 :: .int .i64 x :: u10 :: u11 :: u12 :: u13 :: u14 :: u15 :: u16 :: u17 :: u18 :: u19 :: u20 :: u21 :: u22 :: u23 :: u24 :: u25 :: u26 :: u27 :: u28 :: u29 :: u30 :: u31 :: u32 :: u33 :: u34 :: u35 :: u36 :: u37 :: u38 :: u39 :: u40 :: u41 :: u42 :: u43 :: u44 :: u45 :: u46 :: u47 :: u48 :: u49 :: u50 :: u51 :: u52 :: u53 :: u54 :: u55 :: u56 :: u57 :: u58 :: u59 :: u60 :: u61 :: u62 :: u63 :: u64 :: u65 :: u66 :: u67 :: u68 :: .int .i64 2 :: u70 :: u71 :: u72 :: u73 :: u74 :: u75 :: u76 :: u77 :: u78 :: u79 :: u80 :: u81 :: u82 :: u83 :: u84 :: u85 :: u86 :: u87 :: u88 :: u89 :: u90 :: u91 :: u92 :: u93 :: u94 :: u95 :: u96 :: u97 :: u98 :: u99 :: u100 :: u101 :: u102 :: u103 :: u104 :: u105 :: u106 :: u107 :: u108 :: u109 :: u110 :: u111 :: u112 :: u113 :: u114 :: u115 :: u116 :: u117 :: u118 :: u119 :: u120 :: u121 :: u122 :: u123 :: u124 :: u125 :: u126 :: u127 :: u128 :: u129 :: u130 :: u131 :: u132 :: u133 :: u134 :: u135 :: u136 :: u137 :: u138 :: u139 :: u140 :: u141 :: u142 :: u143 :: u144 :: u145 :: u146 :: u147 :: u148 :: u149 :: u150 :: u151 :: u152 :: u153 :: u154 :: u155 :: u156 :: u157 :: u158 :: u159 :: u160 :: u161 :: u162 :: u163 :: u164 :: u165 :: u166 :: u167 :: u168 :: u169 :: u170 :: u171 :: u172 :: u173 :: u174 :: u175 :: u176 :: u177 :: u178 :: u179 :: u180 :: u181 :: u182 :: u183 :: u184 :: u185 :: u186 :: u187 :: u188 :: u189 :: u190 :: u191 :: u192 :: u193 :: u194 :: u195 :: u196 :: u197 :: u198 :: u199 :: u200 :: u201 :: u202 :: u203 :: u204 :: u205 :: u206 :: u207 :: []), []⟩ wr := by
  conv => arg 2; whnf
  go_wp2_with fail
  refine reg17  hN D7 _ _ _ _ _ _ _ _ _ _ _ _ _ _ _ _ _ _ _ _ _ _ _ _ _ _ _ _ _ _ _ _ _ _ _ _ _ _ _ _ _ _ _ _ _ _ _ _ _ _ _ _ _ _ _ _ _ _ _ _ _ _ _ _ _ _ _ _ _ _ _ _ _ _ _ _ _ _ _ _ _ _ _ _ _ _ _ _ _ _ _ _ _ _ _ _ _ _ _ _ _ _ _ _ _ _ _ _ _ _ _ _ _ _ _ _ _ _ _ _ _ _ _ _ _ _ _ _ _ _ _ _ _ _ _ _ _ _ _ _ _ _ _ _ _ _ _ _ _ _ _ _ _ _ _ _ _ _ _ _ _ _ _ _ _ _ _ _ _ _ _ _ _ _ _ _ _ _ _ _ _ _ _ _ _ _ _ _ _ _ _ _ _ _ _ _ _ _ _ _ _ _ _ _ _ _ ?_
  intro SB t' q1 q2 q3 f1 f2 f3 r b w8 x74 x75 x76 x77 x78 x79 x80 x81 x82 x83 D8 X8 rin wl an
  (
    clear D7
    cases b
    · go_wp2
      exact hQ.out _ _ _ _ _ _ _ _ _ _ _ _ _ _ _ _ _ _ _ _ _ _ _ _ _ _ _ _ _ _ _ _ _ _ _ _ _ _ _ _ _ _ _ _ _ _ _ _ _ _ _ _ _ _ _ _ _ _ _ _ _ _ _ _ _ _ _ _ _ _ _ _ _ _ _ _ _ _ _ _ _ _ _ _ _ _ _ _ _ _ _ _ _ _ _ _ _ _ _ _ _ _ _ _ _ _ _ _ _ _ _ _ _ _ _ _ _ _ _ D8
    · obtain ⟨x0, x1, x2, x3, x4, x5, x6, x7⟩ := hv8_cells X8.row
      have OKC : (#[.slice q1 t'.words.length f1, .slice q2 t'.roots.length f2, .int .i64 t'.old, .int .i64 t'.eden, .int .i64 t'.surv, .bool t'.flip, .int .i64 t'.hash, .slice q3 t'.kept.length f3] : Array Value).all (·.oneCell') = true := by simp [Value.oneCell']
      go_wp2_with ((with_reducible refine store_box _ ?_ (.tmp 3) (.tmp 85) 26 ?_ 26 H 8 #[.slice q1 t'.words.length f1, .slice q2 t'.roots.length f2, .int .i64 t'.old, .int .i64 t'.eden, .int .i64 t'.surv, .bool t'.flip, .int .i64 t'.hash, .slice q3 t'.kept.length f3] _ ?_ ?_ D8.row ?_ ?_ OKC ?_); rfl; rfl; rfl; rfl; rfl; kernel_rfl; intro w9 F9 G9)
      have D9 := D8.take X8.hm X8.sm (wl.out (by simp)) G9 F9
      clear F9 G9 OKC x0 x1 x2 x3 x4 x5 x6 x7 X8 D8
      have BO := D9.dw.once 2 (by omega) (by omega)
      go_wp2_with fail
      refine BO.mono ?_
      rintro x wO ⟨⟨bo, rfl⟩, go, dO⟩
      have D10 := D9.step ⟨go, dO⟩
      clear BO go dO D9
      cases bo
      · go_wp2
        exact hQ.out _ _ _ _ _ _ _ _ _ _ _ _ _ _ _ _ _ _ _ _ _ _ _ _ _ _ _ _ _ _ _ _ _ _ _ _ _ _ _ _ _ _ _ _ _ _ _ _ _ _ _ _ _ _ _ _ _ _ _ _ _ _ _ _ _ _ _ _ _ _ _ _ _ _ _ _ _ _ _ _ _ _ _ _ _ _ _ _ _ _ _ _ _ _ _ _ _ _ _ _ _ _ _ _ _ _ _ _ _ _ _ _ _ _ _ _ _ _ _ D10
      · skip
        obtain ⟨c0, c1, c2, c3, c4, c5, c6, c7⟩ := hv8_cells D10.row
        have KC := kAdd D10.hm.hr D10.sm r rin
        go_wp2_with fail
        refine KC.mono ?_
        rintro e wK ⟨⟨u, b, t2, rfl, HU, su, wl⟩, hbk⟩
        replace wl : Hid (b = true → t2.words.length = 3200) := wl
        obtain ⟨s1, s2, s3, h1, h2, h3, rfl⟩ := HU.shape
        have DK := D10.later hbk
        have alk := bel_one wK (.cells #[.slice s1 t2.words.length h1, .slice s2 t2.roots.length h2, .int .i64 t2.old, .int .i64 t2.eden, .int .i64 t2.surv, .bool t2.flip, .int .i64 t2.hash, .slice s3 t2.kept.length h3] 26)
        have X11 : XB w (wK.alloc (.cells #[.slice s1 t2.words.length h1, .slice s2 t2.roots.length h2, .int .i64 t2.old, .int .i64 t2.eden, .int .i64 t2.surv, .bool t2.flip, .int .i64 t2.hash, .slice s3 t2.kept.length h3] 26)) wK.heap.size t2 s1 s2 s3 h1 h2 h3 := ⟨row_any wK #[.slice s1 t2.words.length h1, .slice s2 t2.roots.length h2, .int .i64 t2.old, .int .i64 t2.eden, .int .i64 t2.surv, .bool t2.flip, .int .i64 t2.hash, .slice s3 t2.kept.length h3] 26, (HU.low (C := w.heap.size) D10.gr.size).later alk, su, Nat.lt_of_lt_of_le D10.hH (Nat.le_of_lt DK.row.lt)⟩
        have D11 := DK.later alk
        clear KC hbk HU DK alk c0 c1 c2 c3 c4 c5 c6 c7 D10
        cases b
        · go_wp2
          exact hQ.out _ _ _ _ _ _ _ _ _ _ _ _ _ _ _ _ _ _ _ _ _ _ _ _ _ _ _ _ _ _ _ _ _ _ _ _ _ _ _ _ _ _ _ _ _ _ _ _ _ _ _ _ _ _ _ _ _ _ _ _ _ _ _ _ _ _ _ _ _ _ _ _ _ _ _ _ _ _ _ _ _ _ _ _ _ _ _ _ _ _ _ _ _ _ _ _ _ _ _ _ _ _ _ _ _ _ _ _ _ _ _ _ _ _ _ _ _ _ _ D11
        · obtain ⟨x0, x1, x2, x3, x4, x5, x6, x7⟩ := hv8_cells X11.row
          have OKC : (#[.slice s1 t2.words.length h1, .slice s2 t2.roots.length h2, .int .i64 t2.old, .int .i64 t2.eden, .int .i64 t2.surv, .bool t2.flip, .int .i64 t2.hash, .slice s3 t2.kept.length h3] : Array Value).all (·.oneCell') = true := by simp [Value.oneCell']
          go_wp2_with ((with_reducible refine store_box _ ?_ (.tmp 3) (.tmp 95) 26 ?_ 26 H 8 #[.slice s1 t2.words.length h1, .slice s2 t2.roots.length h2, .int .i64 t2.old, .int .i64 t2.eden, .int .i64 t2.surv, .bool t2.flip, .int .i64 t2.hash, .slice s3 t2.kept.length h3] _ ?_ ?_ D11.row ?_ ?_ OKC ?_); rfl; rfl; rfl; rfl; rfl; kernel_rfl; intro w12 F9 G9)
          have D12 := D11.take X11.hm X11.sm (wl.out (by simp)) G9 F9
          clear F9 G9 OKC x0 x1 x2 x3 x4 x5 x6 x7 X11 D11
          go_wp2
          exact hQ.out _ _ _ _ _ _ _ _ _ _ _ _ _ _ _ _ _ _ _ _ _ _ _ _ _ _ _ _ _ _ _ _ _ _ _ _ _ _ _ _ _ _ _ _ _ _ _ _ _ _ _ _ _ _ _ _ _ _ _ _ _ _ _ _ _ _ _ _ _ _ _ _ _ _ _ _ _ _ _ _ _ _ _ _ _ _ _ _ _ _ _ _ _ _ _ _ _ _ _ _ _ _ _ _ _ _ _ _ _ _ _ _ _ _ _ _ _ _ _ D12
  )

end Go.Proofs.YtklafifiphbibaaGreat
