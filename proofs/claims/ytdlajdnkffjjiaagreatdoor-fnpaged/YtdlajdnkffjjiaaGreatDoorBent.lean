/- One bit of a page's body turned: plain facts. -/
import Derived.Test.YtdlajdnkffjjiaaGreatDoorPgP
import Derived.Test.YtdlajdnkffjjiaaGreatDoorText
namespace Go.Proofs.YtdlajdnkffjjiaaGreatDoor
open Go.RowKit

set_option maxRecDepth 100000 in
theorem flip_all : ((List.range 256).all fun x => (List.range 8).all fun y => decide (0 ≤ bits .xor .u8 (x : Int) (IntKind.u8.wrap (2 ^ min (IntKind.u64.wrap (y : Int)).toNat 8))) && decide (bits .xor .u8 (x : Int) (IntKind.u8.wrap (2 ^ min (IntKind.u64.wrap (y : Int)).toNat 8)) < 256) && decide (bits .xor .u8 (x : Int) (IntKind.u8.wrap (2 ^ min (IntKind.u64.wrap (y : Int)).toNat 8)) ≠ (x : Int))) = true := by decide +kernel
theorem flip (x : UInt8) (y : Nat) (hy : y < 8) : ∃ u : UInt8, u ≠ x ∧ bits .xor .u8 (x.toNat : Int) (IntKind.u8.wrap (2 ^ min (IntKind.u64.wrap (y : Int)).toNat 8)) = (u.toNat : Int) := by
  have h1 := List.all_eq_true.1 flip_all x.toNat (List.mem_range.2 (by have := x.toNat_lt; omega))
  have h2 := List.all_eq_true.1 h1 y (List.mem_range.2 hy)
  simp only [Bool.and_eq_true, decide_eq_true_eq] at h2
  obtain ⟨⟨a, b⟩, c⟩ := h2
  obtain ⟨k, hk⟩ := Int.eq_ofNat_of_zero_le a
  rw [hk] at b c
  have e : (UInt8.ofNat k).toNat = k := by rw [UInt8.toNat_ofNat']; omega
  refine ⟨UInt8.ofNat k, fun h => c ?_, by rw [hk, e]⟩
  rw [← h, e]

theorem pageT_split (n e c : Int) (b : ByteArray) : (pageT n e c b).data.toList = (pageT n e c ⟨#[]⟩).data.toList ++ b.data.toList := by
  rw [pageT_list, pageT_list]
  simp
theorem bent_open (n e : Int) (b : ByteArray) (hp : pgOk n e b = true) (A z : Nat) (hz : z < b.size) (hA : A + 1 + z = (packS n e b).size) (u : UInt8) (hl : A < (packS n e b).data.toList.length) (hu : u ≠ (packS n e b).data.toList[A]) :
    (openR (bytesOf ((packS n e b).data.toList.set A u))).2.2.2 = 4 := by
  have hsp := pageT_split n e (crcS (headS n e ++ b)) b
  have hP : (packS n e b).data.toList = (pageT n e (crcS (headS n e ++ b)) ⟨#[]⟩).data.toList ++ b.data.toList := by rw [packS_page]; exact hsp
  have hbl : b.data.toList.length = b.size := by rw [Array.length_toList]; rfl
  have hPl : (packS n e b).data.toList.length = (packS n e b).size := by rw [Array.length_toList]; rfl
  have hlen : (pageT n e (crcS (headS n e ++ b)) ⟨#[]⟩).data.toList.length + b.size = (packS n e b).size := by
    rw [← hPl, hP, List.length_append, hbl]
  generalize hpre : (pageT n e (crcS (headS n e ++ b)) ⟨#[]⟩).data.toList = pre at *
  have hi : A - pre.length < b.data.toList.length := by omega
  have hset : (packS n e b).data.toList.set A u = pre ++ b.data.toList.set (A - pre.length) u := by
    rw [hP, List.set_append_right _ _ (by omega)]
  have hx : u ≠ b.data.toList[A - pre.length] := by
    intro h
    apply hu
    rw [h]
    have : (packS n e b).data.toList[A]? = (pre ++ b.data.toList)[A]? := by rw [hP]
    rw [List.getElem?_append_right (by omega), List.getElem?_eq_getElem hl, List.getElem?_eq_getElem hi] at this
    exact (Option.some.inj this).symm
  have hT : bytesOf ((packS n e b).data.toList.set A u) = pageT n e (crcS (headS n e ++ b)) (bytesOf (b.data.toList.set (A - pre.length) u)) := by
    apply ByteArray.ext
    apply Array.toList_inj.1
    rw [pageT_split, hpre, hset]
    unfold bytesOf
    simp
  rw [hT]
  exact open_bent n e b hp _ hi u hx

theorem bytes_set {w : World} {M A : Nat} {l : List UInt8} (h : BytesAt w ⟨M, 0, none⟩ l) (hA : A < l.length) (u : UInt8) : BytesAt (w.setCell ⟨M, A, none⟩ (.int .u8 (u.toNat : Int))) ⟨M, 0, none⟩ (l.set A u) := by
  intro j hj
  rw [List.length_set] at hj
  have hc := h j hj
  have e : (⟨M, 0, none⟩ : Addr).add j = ⟨M, j, none⟩ := by simp [Addr.add]; omega
  rw [e] at hc ⊢
  by_cases hjA : j = A
  · subst hjA
    rw [World.cell?_setCell_same _ _ _ hc]
    simp
  · rw [World.cell?_setCell_other _ _ _ _ (by first | (simp; done) | (simp; omega)), hc]
    rw [List.getElem_set_ne (by omega)]

end Go.Proofs.YtdlajdnkffjjiaaGreatDoor
