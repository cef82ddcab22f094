/- The contract of the document's Bytes. Condition: the instructions can be read, at most 2^44 - 512 of them. -/
import Derived.Test.YtcedjjolikmbbaaDoorIBytes
namespace Go.Proofs.YtcedjjolikmbbaaDoor
open Go.RowKit
set_option maxRecDepth 100000
set_option maxHeartbeats 2000000
section
variable {w : World}
theorem rbytes6_any (A : Option Addr) (k c : Nat) (l : List In) (h : Ri w A k c l) (hk : k ≤ 17592186043904) :
    Calls Tryd.prog 21 #[.slice A k c] w fun e w' => ∃ v, e = .returned v ∧ Ob w' w.heap.size v (byI l) ∧ Below w.heap.size w w' := by
  have hl := h.len
  have R0 := Lib.hid h
  have HLN := Lib.hid hl
  clear hl h
  go_enter Tryd.func21, Tryd.ntmps21
  go_wp2_with fail
  go_loopw [3, 4] (fun v q wr => ∃ j : Nat, j ≤ k ∧ q = .int .i64 j ∧ Hid (Ob wr w.heap.size v (byI (l.take j))) ∧ Hid (Below w.heap.size w wr)) (fun _ q _ => k - (intOf q).toNat)
  case atStart => exact ⟨0, by omega, rfl, Lib.hid (Ob.nil _ _), Below.refl _ _⟩
  case round =>
    obtain ⟨j, hj, rfl, HO, HW⟩ := hrel
    by_cases hjk : j < k
    · have hjk' : (j : Int) < k := by omega
      have wj : IntKind.i64.wrap ((j : Int) + 1) = ((j + 1 : Nat) : Int) := by rw [show (j : Int) + 1 = ((j + 1 : Nat) : Int) by omega]; exact w64 _ (by omega)
      obtain ⟨b, o, f, rfl, HF, hok, hb, c0, c1, c2, c3, c4⟩ := (R0.out.below HW.out (Nat.le_refl _)).at j hjk
      obtain ⟨op, a, b', c', im⟩ := f
      obtain ⟨h1, h2, h3, h4, h5⟩ := hok
      simp only at c0 c1 c2 c3 c4 h1 h2 h3 h4 h5
      have HT := Lib.hid (byI_take l j _ HF.out)
      have hln : (byI (l.take j)).length ≤ 8 * k := by rw [byI_len, List.length_take, HLN.out]; omega
      have HLB := Lib.hid hln
      generalize byI (l.take j) = bs at HO HT HLB
      clear hln
      have hws := HW.out.size
      obtain ⟨w2, hw2⟩ : ∃ w2, w2 = wr.alloc (Obj.cells #[.int .u8 (op : Int), .int .u8 (a : Int), .int .u8 (b' : Int), .int .u8 (c' : Int), .int .u32 (im : Int)] 24) := ⟨_, rfl⟩
      have X2 := Lib.hid (show Below w.heap.size w w2 by rw [hw2]; exact HW.out.alloc hws _)
      have O2 := Lib.hid (show Ob w2 w.heap.size _ bs by rw [hw2]; exact HO.out.alloc _)
      have HW2 := Lib.hid hw2
      have SN := Lib.hid (src_new w2 [op, a, b', c', im % 256, im / 256 % 256, im / 65536 % 256, im / 16777216 % 256] 8 (wr.heap.size + 1) rfl (by rw [hw2]; simp) #[.int .u8 (op : Int), .int .u8 (a : Int), .int .u8 (b' : Int), .int .u8 (c' : Int), .int .u8 ((im : Int) % 256), .int .u8 ((im : Int) / 256 % 256), .int .u8 ((im : Int) / 65536 % 256), .int .u8 ((im : Int) / 16777216)] (by simp [bc]; omega))
      have LB := Lib.hid (show bs.length + [op, a, b', c', im % 256, im / 256 % 256, im / 65536 % 256, im / 16777216 % 256].length ≤ 140737488400000 by have := HLB.out; simp; omega)
      have EQ := Lib.hid (show bs ++ [op, a, b', c', im % 256, im / 256 % 256, im / 65536 % 256, im / 16777216 % 256] = byI (l.take (j + 1)) by rw [HT.out]; simp [im4, e8])
      clear hw2
      have SZ := Lib.hid (show w.heap.size ≤ (w2.alloc (.cells #[.int .u8 (op : Int), .int .u8 (a : Int), .int .u8 (b' : Int), .int .u8 (c' : Int), .int .u8 ((im : Int) % 256), .int .u8 ((im : Int) / 256 % 256), .int .u8 ((im : Int) / 65536 % 256), .int .u8 ((im : Int) / 16777216)] 5)).heap.size by have := X2.out.size; simp; omega)
      go_wp2_with (first | (at_builtin; (rw [← HW2.out]; refine wpList_app2 rfl _ _ 40 rfl w.heap.size _ bs rfl (O2.out.alloc _) _ [op, a, b', c', im % 256, im / 256 % 256, im / 65536 % 256, im / 16777216 % 256] rfl SN.out LB.out SZ.out ?_; intro v3 w3 h6 h7 h8; rw [EQ.out] at h6; have O3 := Lib.hid h6; have X3 := Lib.hid ((X2.out.alloc X2.out.size _).trans h8); clear h6 h7 h8)))
      go_roundw
      case rel => exact ⟨j + 1, by omega, by go_num, O3.out, X3.out⟩
      case measure => simp [intOf]; omega
    · obtain rfl : j = k := by omega
      have HE := Lib.hid (show byI (l.take j) = byI l by rw [List.take_of_length_le (by rw [HLN.out]; omega)])
      go_wp2_with fail
      go_ret
      rw [← HE.out]
      exact ⟨_, rfl, HO.out, HW.out⟩
end
end Go.Proofs.YtcedjjolikmbbaaDoor
