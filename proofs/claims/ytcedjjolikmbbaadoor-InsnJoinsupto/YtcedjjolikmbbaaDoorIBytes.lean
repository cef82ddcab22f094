/- The contract of Bytes. Condition: the instructions can be read, at most 2^44 - 512 of them. -/
import Derived.Test.YtcedjjolikmbbaaDoorIRows
import Derived.Handy
namespace Go.Proofs.YtcedjjolikmbbaaDoor
open Go.RowKit
set_option maxRecDepth 100000
set_option maxHeartbeats 2000000

/-- An instruction's eight bytes. -/
def im4 (n : Nat) : List Nat := [n % 256, n / 256 % 256, n / 65536 % 256, n / 16777216 % 256]
def e8 (i : In) : List Nat := [i.op, i.a, i.b, i.c] ++ im4 i.im
def byI (l : List In) : List Nat := l.flatMap e8
theorem byI_len (l : List In) : (byI l).length = 8 * l.length := by
  induction l with
  | nil => rfl
  | cons i r ih => simp only [byI, List.flatMap_cons, List.length_append, List.length_cons] at ih ⊢; rw [ih]; simp [e8, im4]; omega
theorem byI_take (l : List In) (j : Nat) (f : In) (h : l[j]? = some f) : byI (l.take (j + 1)) = byI (l.take j) ++ e8 f := by
  rw [List.take_add_one, h]
  simp [byI]
theorem byI_byt {l : List In} (h : ∀ i ∈ l, i.ok) : Byt (byI l) := by
  intro x hx
  simp only [byI, List.mem_flatMap] at hx
  obtain ⟨i, hi, hx⟩ := hx
  obtain ⟨h1, h2, h3, h4, h5⟩ := h i hi
  simp [e8, im4] at hx
  omega
section
variable {w : World}
theorem bytes6_any (A : Option Addr) (k c : Nat) (l : List In) (h : Ri w A k c l) (hk : k ≤ 17592186043904) :
    Calls Tryd.prog 20 #[.slice A k c] w fun e w' => ∃ v, e = .returned v ∧ Ob w' w.heap.size v (byI l) ∧ Below w.heap.size w w' := by
  have hl := h.len
  have R0 := Lib.hid h
  have HLN := Lib.hid hl
  obtain ⟨i0, hi, hz0, hz1, hz2⟩ := info_parts info8
  obtain ⟨w1, hmk, hown, hgr⟩ := run_make_own (P := Tryd.prog) w w.heap.size 40 5 i0 (.int .u8 0) 1 Tryd.underlying40 hi hz0 hz1 .i64 .i64 (k * 8) (by rw [hz2]; omega) (by unfold maxLen; omega) (Nat.le_refl _)
  have hmk2 : (Instr.makeSlice 40 (.int .i64 0) (.int .i64 ((k : Int) * 8))).run Tryd.prog w = .ok (.slice (some ⟨w.heap.size, 0, none⟩) 0 (k * 8)) w1 := by rw [show (k : Int) * 8 = ((k * 8 : Nat) : Int) by omega]; exact hmk
  have wk : IntKind.i64.wrap ((k : Int) * 8) = (k : Int) * 8 := by rw [show (k : Int) * 8 = ((k * 8 : Nat) : Int) by omega]; exact w64 _ (by omega)
  have O1 := Lib.hid (show Ob w1 w.heap.size (.slice (some ⟨w.heap.size, 0, none⟩) 0 (k * 8)) [] from hown)
  have X1 := Lib.hid (show Below w.heap.size w w1 from (Below.refl _ _).grown hgr (Nat.le_refl _) (fun _ e => by cases e))
  clear hown hgr hmk hi hz0 hz1 hz2 hl h
  go_enter Tryd.func20, Tryd.ntmps20
  go_wp2_with fail
  clear hmk2 wk
  go_loopw [3, 13] (fun v q wr => ∃ j : Nat, j ≤ k ∧ q = .int .i64 j ∧ Hid (Ob wr w.heap.size v (byI (l.take j))) ∧ Hid (Below w.heap.size w wr)) (fun _ q _ => k - (intOf q).toNat)
  case atStart => exact ⟨0, by omega, rfl, O1.out, X1.out⟩
  case round =>
    clear O1 X1
    obtain ⟨j, hj, rfl, HO, HW⟩ := hrel
    by_cases hjk : j < k
    · have hjk' : (j : Int) < k := by omega
      have wj : IntKind.i64.wrap ((j : Int) + 1) = ((j + 1 : Nat) : Int) := by rw [show (j : Int) + 1 = ((j + 1 : Nat) : Int) by omega]; exact w64 _ (by omega)
      obtain ⟨b, o, f, rfl, HF, hok, hb, c0, c1, c2, c3, c4⟩ := (R0.out.below HW.out (Nat.le_refl _)).at j hjk
      obtain ⟨op, a, b', c', im⟩ := f
      obtain ⟨h1, h2, h3, h4, h5⟩ := hok
      simp only at c0 c1 c2 c3 c4 h1 h2 h3 h4 h5
      have HT := Lib.hid (byI_take l j _ HF.out)
      have hln : (byI (l.take j)).length ≤ 8 * k := by rw [byI_len, List.length_take, HLN.out]; omega
      have HLB := Lib.hid hln
      generalize byI (l.take j) = bs at HO HT HLB
      clear hln
      have hws := HW.out.size
      obtain ⟨w2, hw2⟩ : ∃ w2, w2 = wr.alloc (Obj.cells #[.int .u8 (op : Int), .int .u8 (a : Int), .int .u8 (b' : Int), .int .u8 (c' : Int), .int .u32 (im : Int)] 24) := ⟨_, rfl⟩
      have K2 := Lib.hid (show Blk w2 wr.heap.size 24 #[.int .u8 (op : Int), .int .u8 (a : Int), .int .u8 (b' : Int), .int .u8 (c' : Int), .int .u32 (im : Int)] by rw [hw2]; exact Blk.new _ _ _)
      have X2 := Lib.hid (show Below w.heap.size w w2 by rw [hw2]; exact HW.out.alloc hws _)
      have O2 := Lib.hid (show Ob w2 w.heap.size _ bs by rw [hw2]; exact HO.out.alloc _)
      have HW2 := Lib.hid hw2
      have SN := Lib.hid (src_new w2 [op, a, b', c'] 4 (wr.heap.size + 1) rfl (by rw [hw2]; simp) #[.int .u8 (op : Int), .int .u8 (a : Int), .int .u8 (b' : Int), .int .u8 (c' : Int)] rfl)
      have LB := Lib.hid (show bs.length + [op, a, b', c'].length ≤ 140737488400000 by have := HLB.out; simp; omega)
      have SZ := Lib.hid (show w.heap.size ≤ (w2.alloc (.cells (bc [op, a, b', c']).toArray 5)).heap.size by have := X2.out.size; simp; omega)
      have FR := Lib.hid HO.out.far
      clear hw2
      go_wp2_with (first | (at_builtin; (rw [← HW2.out]; refine wpList_app2 rfl _ _ 40 rfl w.heap.size _ bs rfl (O2.out.alloc _) _ [op, a, b', c'] rfl SN.out LB.out SZ.out ?_; intro v3 w3 h6 h7 h8; have O3 := Lib.hid h6; have X3 := Lib.hid ((X2.out.alloc X2.out.size _).trans h8); have K3 := Lib.hid (K2.out.alloc _ |>.grow h7 FR.out); clear h6 h7 h8)))
      clear c0 c1 c2 c3 c4 SN LB SZ
      have hb4 := K3.out.lt
      go_loopw [3, 28] (fun v q wq => ∃ t : Nat, t ≤ 4 ∧ q = .int .i64 t ∧ Hid (Ob wq w.heap.size v (bs ++ [op, a, b', c'] ++ (im4 im).take t)) ∧ Hid (Blk wq wr.heap.size 24 #[.int .u8 (op : Int), .int .u8 (a : Int), .int .u8 (b' : Int), .int .u8 (c' : Int), .int .u32 (im : Int)]) ∧ Hid (Below w.heap.size w wq)) (fun _ q _ => 4 - (intOf q).toNat)
      case atStart => exact ⟨0, by omega, rfl, Lib.hid (by simpa using O3.out), K3.out, X3.out⟩
      case round =>
        clear O3 K3 X3 O2 K2 X2 HO HW
        obtain ⟨wq, hwq0⟩ : ∃ wq, wq = wr := ⟨_, rfl⟩
        rw [← hwq0] at hrel ⊢
        clear hwq0
        obtain ⟨t, ht, rfl, HO, K, HW⟩ := hrel
        have hwq := HW.out.size
        have e4 := K.out.cell 4
        simp at e4
        have FR2 := Lib.hid (HO.out.off K.out)
        have hlk := K.out.lt
        rcases (show t = 0 ∨ t = 1 ∨ t = 2 ∨ t = 3 ∨ t = 4 by omega) with rfl | rfl | rfl | rfl | rfl
        · have SN := Lib.hid (src_new wq [im % 256] 1 wq.heap.size rfl rfl #[.int .u8 ((im : Int) % 256)] (by simp [bc]))
          have LB := Lib.hid (show (bs ++ [op, a, b', c'] ++ (im4 im).take 0).length + [im % 256].length ≤ 140737488400000 by have := HLB.out; simp [im4]; omega)
          have SZ := Lib.hid (show w.heap.size ≤ (wq.alloc (.cells #[.int .u8 ((im : Int) % 256)] 5)).heap.size by simp; omega)
          have EQ := Lib.hid (show bs ++ [op, a, b', c'] ++ (im4 im).take 0 ++ [im % 256] = bs ++ [op, a, b', c'] ++ (im4 im).take 1 by simp [im4])
          go_wp2_with (first | (at_builtin; (refine wpList_app2 rfl _ _ 40 rfl w.heap.size _ (bs ++ [op, a, b', c'] ++ (im4 im).take 0) rfl (HO.out.alloc _) _ [im % 256] rfl SN.out LB.out SZ.out ?_; intro v5 w5 h6 h7 h8; rw [EQ.out] at h6; have O5 := Lib.hid h6; have X5 := Lib.hid ((HW.out.alloc hwq _).trans h8); have K5 := Lib.hid (K.out.alloc _ |>.grow h7 FR2.out); clear h6 h7 h8)))
          go_roundw
          case rel => exact ⟨1, by omega, by go_num, O5.out, K5.out, X5.out⟩
          case measure => simp [intOf]
        · have SN := Lib.hid (src_new wq [im / 256 % 256] 1 wq.heap.size rfl rfl #[.int .u8 ((im : Int) / 256 % 256)] (by simp [bc]))
          have LB := Lib.hid (show (bs ++ [op, a, b', c'] ++ (im4 im).take 1).length + [im / 256 % 256].length ≤ 140737488400000 by have := HLB.out; simp [im4]; omega)
          have SZ := Lib.hid (show w.heap.size ≤ (wq.alloc (.cells #[.int .u8 ((im : Int) / 256 % 256)] 5)).heap.size by simp; omega)
          have EQ := Lib.hid (show bs ++ [op, a, b', c'] ++ (im4 im).take 1 ++ [im / 256 % 256] = bs ++ [op, a, b', c'] ++ (im4 im).take 2 by simp [im4])
          go_wp2_with (first | (at_builtin; (refine wpList_app2 rfl _ _ 40 rfl w.heap.size _ (bs ++ [op, a, b', c'] ++ (im4 im).take 1) rfl (HO.out.alloc _) _ [im / 256 % 256] rfl SN.out LB.out SZ.out ?_; intro v5 w5 h6 h7 h8; rw [EQ.out] at h6; have O5 := Lib.hid h6; have X5 := Lib.hid ((HW.out.alloc hwq _).trans h8); have K5 := Lib.hid (K.out.alloc _ |>.grow h7 FR2.out); clear h6 h7 h8)))
          go_roundw
          case rel => exact ⟨2, by omega, by go_num, O5.out, K5.out, X5.out⟩
          case measure => simp [intOf]
        · have SN := Lib.hid (src_new wq [im / 65536 % 256] 1 wq.heap.size rfl rfl #[.int .u8 ((im : Int) / 65536 % 256)] (by simp [bc]))
          have LB := Lib.hid (show (bs ++ [op, a, b', c'] ++ (im4 im).take 2).length + [im / 65536 % 256].length ≤ 140737488400000 by have := HLB.out; simp [im4]; omega)
          have SZ := Lib.hid (show w.heap.size ≤ (wq.alloc (.cells #[.int .u8 ((im : Int) / 65536 % 256)] 5)).heap.size by simp; omega)
          have EQ := Lib.hid (show bs ++ [op, a, b', c'] ++ (im4 im).take 2 ++ [im / 65536 % 256] = bs ++ [op, a, b', c'] ++ (im4 im).take 3 by simp [im4])
          go_wp2_with (first | (at_builtin; (refine wpList_app2 rfl _ _ 40 rfl w.heap.size _ (bs ++ [op, a, b', c'] ++ (im4 im).take 2) rfl (HO.out.alloc _) _ [im / 65536 % 256] rfl SN.out LB.out SZ.out ?_; intro v5 w5 h6 h7 h8; rw [EQ.out] at h6; have O5 := Lib.hid h6; have X5 := Lib.hid ((HW.out.alloc hwq _).trans h8); have K5 := Lib.hid (K.out.alloc _ |>.grow h7 FR2.out); clear h6 h7 h8)))
          go_roundw
          case rel => exact ⟨3, by omega, by go_num, O5.out, K5.out, X5.out⟩
          case measure => simp [intOf]
        · have SN := Lib.hid (src_new wq [im / 16777216 % 256] 1 wq.heap.size rfl rfl #[.int .u8 ((im : Int) / 16777216)] (by simp [bc]; omega))
          have LB := Lib.hid (show (bs ++ [op, a, b', c'] ++ (im4 im).take 3).length + [im / 16777216 % 256].length ≤ 140737488400000 by have := HLB.out; simp [im4]; omega)
          have SZ := Lib.hid (show w.heap.size ≤ (wq.alloc (.cells #[.int .u8 ((im : Int) / 16777216)] 5)).heap.size by simp; omega)
          have EQ := Lib.hid (show bs ++ [op, a, b', c'] ++ (im4 im).take 3 ++ [im / 16777216 % 256] = bs ++ [op, a, b', c'] ++ (im4 im).take 4 by simp [im4])
          go_wp2_with (first | (at_builtin; (refine wpList_app2 rfl _ _ 40 rfl w.heap.size _ (bs ++ [op, a, b', c'] ++ (im4 im).take 3) rfl (HO.out.alloc _) _ [im / 16777216 % 256] rfl SN.out LB.out SZ.out ?_; intro v5 w5 h6 h7 h8; rw [EQ.out] at h6; have O5 := Lib.hid h6; have X5 := Lib.hid ((HW.out.alloc hwq _).trans h8); have K5 := Lib.hid (K.out.alloc _ |>.grow h7 FR2.out); clear h6 h7 h8)))
          go_roundw
          case rel => exact ⟨4, by omega, by go_num, O5.out, K5.out, X5.out⟩
          case measure => simp [intOf]
        · have EQ := Lib.hid (show bs ++ [op, a, b', c'] ++ (im4 im).take 4 = byI (l.take (j + 1)) by rw [HT.out]; simp [im4, e8])
          go_wp2_with fail
          go_roundw
          case rel => exact ⟨j + 1, by omega, by go_num, Lib.hid (by rw [← EQ.out]; exact HO.out), HW.out⟩
          case measure => simp [intOf]; omega
    · obtain rfl : j = k := by omega
      have HE := Lib.hid (show byI (l.take j) = byI l by rw [List.take_of_length_le (by rw [HLN.out]; omega)])
      go_wp2_with fail
      go_ret
      rw [← HE.out]
      exact ⟨_, rfl, HO.out, HW.out⟩
end
end Go.Proofs.YtcedjjolikmbbaaDoor
