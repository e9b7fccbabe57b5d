/- The walk of the law FnCodes. -/
import Derived.Test.YtimkdjolipnahaaDoorZQDrawR
import Derived.Test.YtimkdjolipnahaaDoorZQRdS
import Derived.Laws.StructEq
import Derived.KernelRfl
namespace Go.Proofs.YtimkdjolipnahaaDoor
open Go.RowKit

theorem eqQ (a b c d : Int) (w : World) : (Op.equalIn 10000 25 (.agg #[.int .i64 a, .int .i64 b]) (.agg #[.int .i64 c, .int .i64 d])).run Tryd.prog w = .ok (a == c && b == d) w := by
  have u2 := Tryd.underlying2
  have a2 := Tryd.isAgg2
  have z2 := Tryd.sizeOf2
  have hS : Tryd.prog.underlying 25 = some (.struct (Tryd.prog.fieldsOf 25)) := by kernel_rfl
  have hp : Tryd.prog.stoodInHeld 25 = false := by kernel_rfl
  rw [show (10000 : Nat) = 9999 + 1 from rfl, run_equalIn_agg w 9999 25 _ _ hS hp]
  simp only [Program.fieldsOf, Tryd.underlying25]
  go_simp
  by_cases h1 : a = c <;> by_cases h2 : b = d <;> simp [h1, h2]
theorem str_isE {s : ByteArray} (h : s ≠ ⟨#[]⟩) : s.toList.isEmpty = false := by
  rw [ByteArray.toList_eq]
  cases e : s.data.toList with
  | nil => exact absurd (ba_ext (by rw [e])) h
  | cons x l => rfl

set_option maxRecDepth 100000 in
set_option maxHeartbeats 3200000 in
theorem lawCodes_any (cv : Value) (cs : List UInt8) (w : World) (hc : BR w cv cs) (hE : Env w) :
    Calls Tryd.prog 3 #[cv] w fun e w' => e = .returned (.bool true) ∧ Below w.heap.size w w' := by
  have HE : Hid (Env w) := hE
  have BG := big_any cv cs w hc
  clear hE
  by_cases hbig : 4096 < cs.length
  · rw [decide_eq_true hbig] at BG
    go_enter Tryd.func3, Tryd.ntmps3
    go_wp2_with fail
    refine BG.mono ?_
    rintro x w0 ⟨rfl, rfl⟩
    go_wp2
    go_ret
    exact ⟨rfl, Below.refl _ _⟩
  rw [decide_eq_false hbig] at BG
  have EQ := eqQ
  go_enter Tryd.func3, Tryd.ntmps3
  go_wp2_with fail
  refine BG.mono ?_
  rintro x w0 ⟨rfl, rfl⟩
  clear BG
  have DS := drawShowCode_any cv cs w0 hc (by omega)
  have SI := implShow_any
  have SS := specShow_any
  have CI := implCodeOk_any
  unfold codeV at DS SI SS CI
  go_wp2_with fail
  refine DS.mono ?_
  rintro x w1 ⟨⟨a, b, rfl⟩, hb1⟩
  clear DS
  have k3 := Bk.new w1 #[.int .i64 a, .int .i64 b] 25
  have B1 := hb1.alloc hb1.size (.cells #[.int .i64 a, .int .i64 b] 25)
  clear hb1
  have c0 := k3.cell 0 (.int .i64 a) rfl
  have c1 := k3.cell 1 (.int .i64 b) rfl
  go_wp2_with fail
  refine (SI a b _ (HE.out.later B1).tb).mono ?_
  rintro x w2 ⟨rfl, hb2⟩
  replace B1 := bel_afterQ B1 hb2
  replace k3 := k3.later hb2
  clear hb2 c0 c1
  have c0 := k3.cell 0 (.int .i64 a) rfl
  have c1 := k3.cell 1 (.int .i64 b) rfl
  go_wp2_with fail
  refine (SS a b _).mono ?_
  rintro x w3 ⟨rfl, hb3⟩
  replace B1 := bel_afterQ B1 hb3
  replace k3 := k3.later hb3
  clear hb3 c0 c1
  have c0 := k3.cell 0 (.int .i64 a) rfl
  have c1 := k3.cell 1 (.int .i64 b) rfl
  have CI2 := CI a b
  cases hk : cokB a b
  · have hsb : showB a b = ⟨#[]⟩ := show_no hk
    rw [hk] at CI2
    rw [hsb]
    clear hsb hk
    go_wp2_with fail
    refine (CI2 _).mono ?_
    rintro x w4 ⟨rfl, hb4⟩
    replace B1 := bel_afterQ B1 hb4
    clear hb4 CI2
    clear c0 c1 k3
    have DR := drawReadCode_any cv cs _ (hc.later B1) (by omega)
    go_wp2_with fail
    refine DR.mono ?_
    rintro x w6 ⟨⟨t, rfl, ht⟩, hb6⟩
    replace B1 := bel_afterQ B1 hb6
    clear DR hb6
    have RI2 := fun W h => implRead_any t W (by omega) h
    have RS2 := fun W => specRead_any t W (by omega)
    have SP : Hid _ := rdC_spec t
    unfold codeV at RI2 RS2
    generalize (rdC t).1 = x1 at *
    generalize (rdC t).2.1 = x2 at *
    generalize (rdC t).2.2 = x3 at *
    go_wp2_with fail
    refine (RI2 _ (HE.out.later B1)).mono ?_
    rintro x w7 ⟨rfl, hb7⟩
    replace B1 := bel_afterQ B1 hb7
    replace B1 := B1.alloc B1.size (.cells #[.int .i64 x1, .int .i64 x2] 25)
    have k8 := Bk.new w7 #[.int .i64 x1, .int .i64 x2] 25
    clear hb7 RI2
    go_wp2_with fail
    refine (RS2 _).mono ?_
    rintro x w8 ⟨rfl, hb8⟩
    replace B1 := bel_afterQ B1 hb8
    replace k8 := (k8.later hb8).alloc (.cells #[.int .i64 x1, .int .i64 x2] 25)
    replace B1 := B1.alloc B1.size (.cells #[.int .i64 x1, .int .i64 x2] 25)
    have k10 := Bk.new w8 #[.int .i64 x1, .int .i64 x2] 25
    clear hb8 RS2
    have d0 := k8.cell 0 (.int .i64 x1) rfl
    have d1 := k8.cell 1 (.int .i64 x2) rfl
    have f0 := k10.cell 0 (.int .i64 x1) rfl
    have f1 := k10.cell 1 (.int .i64 x2) rfl
    clear k8 k10
    have SI3 := SI x1 x2
    clear SI SS CI
    rcases SP.out with ⟨rfl, _, hsh⟩ | ⟨rfl, rfl, rfl, _⟩
    · rw [hsh] at SI3
      replace hsh : Hid _ := hsh
      go_wp2_with fail
      refine (SI3 _ (HE.out.later B1).tb).mono ?_
      rintro x w9 ⟨rfl, hb9⟩
      replace B1 := bel_afterQ B1 hb9
      clear hb9 SI3 hsh
      go_wp2
      go_ret
      exact ⟨rfl, B1⟩
    · clear SI3
      go_wp2
      go_ret
      exact ⟨rfl, B1⟩
  · have hne := show_ne hk
    have hE0 := str_isE hne
    obtain ⟨r1, r2, r3⟩ := rd_eq (rd_shown hne rfl)
    have RI := fun W h => implRead_any (showB a b) W (by have := show_size a b; omega) h
    unfold codeV at RI
    rw [r1, r2, r3] at RI
    rw [hk] at CI2
    clear r1 r2 r3 hne hk
    generalize showB a b = sb at *
    go_wp2_with fail
    refine (CI2 _).mono ?_
    rintro x w4 ⟨rfl, hb4⟩
    replace B1 := bel_afterQ B1 hb4
    replace k3 := k3.later hb4
    clear hb4 CI2 c0 c1
    go_wp2_with fail
    refine (RI _ (HE.out.later B1)).mono ?_
    rintro x w5 ⟨rfl, hb5⟩
    replace B1 := bel_afterQ B1 hb5
    replace B1 := B1.alloc B1.size (.cells #[.int .i64 a, .int .i64 b] 25)
    replace k3 := (k3.later hb5).alloc (.cells #[.int .i64 a, .int .i64 b] 25)
    have k5 := Bk.new w5 #[.int .i64 a, .int .i64 b] 25
    have c0 := k3.cell 0 (.int .i64 a) rfl
    have c1 := k3.cell 1 (.int .i64 b) rfl
    have g0 := k5.cell 0 (.int .i64 a) rfl
    have g1 := k5.cell 1 (.int .i64 b) rfl
    clear hb5 RI k5
    clear k3
    have DR := drawReadCode_any cv cs _ (hc.later B1) (by omega)
    go_wp2_with fail
    refine DR.mono ?_
    rintro x w6 ⟨⟨t, rfl, ht⟩, hb6⟩
    replace B1 := bel_afterQ B1 hb6
    clear DR hb6 c0 c1 g0 g1
    have RI2 := fun W h => implRead_any t W (by omega) h
    have RS2 := fun W => specRead_any t W (by omega)
    have SP : Hid _ := rdC_spec t
    unfold codeV at RI2 RS2
    generalize (rdC t).1 = x1 at *
    generalize (rdC t).2.1 = x2 at *
    generalize (rdC t).2.2 = x3 at *
    go_wp2_with fail
    refine (RI2 _ (HE.out.later B1)).mono ?_
    rintro x w7 ⟨rfl, hb7⟩
    replace B1 := bel_afterQ B1 hb7
    replace B1 := B1.alloc B1.size (.cells #[.int .i64 x1, .int .i64 x2] 25)
    have k8 := Bk.new w7 #[.int .i64 x1, .int .i64 x2] 25
    clear hb7 RI2
    go_wp2_with fail
    refine (RS2 _).mono ?_
    rintro x w8 ⟨rfl, hb8⟩
    replace B1 := bel_afterQ B1 hb8
    replace k8 := (k8.later hb8).alloc (.cells #[.int .i64 x1, .int .i64 x2] 25)
    replace B1 := B1.alloc B1.size (.cells #[.int .i64 x1, .int .i64 x2] 25)
    have k10 := Bk.new w8 #[.int .i64 x1, .int .i64 x2] 25
    clear hb8 RS2
    have d0 := k8.cell 0 (.int .i64 x1) rfl
    have d1 := k8.cell 1 (.int .i64 x2) rfl
    have f0 := k10.cell 0 (.int .i64 x1) rfl
    have f1 := k10.cell 1 (.int .i64 x2) rfl
    clear k8 k10
    have SI3 := SI x1 x2
    clear SI SS CI
    rcases SP.out with ⟨rfl, _, hsh⟩ | ⟨rfl, rfl, rfl, _⟩
    · rw [hsh] at SI3
      replace hsh : Hid _ := hsh
      go_wp2_with fail
      refine (SI3 _ (HE.out.later B1).tb).mono ?_
      rintro x w9 ⟨rfl, hb9⟩
      replace B1 := bel_afterQ B1 hb9
      clear hb9 SI3 hsh
      go_wp2
      go_ret
      exact ⟨rfl, B1⟩
    · clear SI3
      go_wp2
      go_ret
      exact ⟨rfl, B1⟩

end Go.Proofs.YtimkdjolipnahaaDoor
