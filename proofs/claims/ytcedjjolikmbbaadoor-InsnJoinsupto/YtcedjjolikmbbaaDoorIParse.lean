/- The contract of Parse. Conditions: the tables lie in their blocks; the bytes can be read. -/
import Derived.Test.YtcedjjolikmbbaaDoorIInsnOf
namespace Go.Proofs.YtcedjjolikmbbaaDoor
open Go.RowKit
set_option maxRecDepth 100000
set_option maxHeartbeats 2000000

/-- Bytes as instructions. -/
def dI (bs : List Nat) : List In := (List.range (bs.length / 8)).map fun n => d8 ((bs.drop (n * 8)).take 8)
/-- The first error. -/
def fe1 : List In → Nat
  | [] => 0
  | i :: r => if ck i = 0 then fe1 r else ck i
/-- Parse's two answers. -/
def paE (bs : List Nat) : Nat := if bs.length % 8 ≠ 0 then 3 else if 128 < bs.length / 8 then 11 else fe1 (dI bs)
def paL (bs : List Nat) : List In := if paE bs = 0 then dI bs else []
theorem dI_len (bs : List Nat) : (dI bs).length = bs.length / 8 := by simp [dI]
theorem dI_at (bs : List Nat) (n : Nat) (h : n < bs.length / 8) : (dI bs)[n]? = some (d8 ((bs.drop (n * 8)).take 8)) := by simp [dI, h]
theorem byt_part {bs : List Nat} (h : Byt bs) (a b : Nat) : Byt ((bs.drop a).take b) := fun x hx => h x (List.mem_of_mem_drop (List.mem_of_mem_take hx))
theorem dI_ok {bs : List Nat} (h : Byt bs) : ∀ i ∈ dI bs, i.ok := by
  intro i hi
  simp only [dI, List.mem_map] at hi
  obtain ⟨n, _, rfl⟩ := hi
  exact d8_ok (byt_part h _ _)
theorem fe1_app (a b : List In) (h : ∀ i ∈ a, ck i = 0) : fe1 (a ++ b) = fe1 b := by
  induction a with
  | nil => rfl
  | cons x r ih => rw [List.cons_append, fe1, if_pos (h x (List.mem_cons_self ..)), ih fun i hi => h i (List.mem_cons_of_mem _ hi)]
theorem fe1_zero {l : List In} (h : ∀ i ∈ l, ck i = 0) : fe1 l = 0 := by
  have := fe1_app l [] h
  simpa [fe1] using this
theorem fe1_all {l : List In} (h : fe1 l = 0) : ∀ i ∈ l, ck i = 0 := by
  induction l with
  | nil => intro i hi; cases hi
  | cons x r ih =>
    unfold fe1 at h
    split at h
    · rename_i hx
      intro i hi
      rcases List.mem_cons.1 hi with rfl | hi
      · exact hx
      · exact ih h i hi
    · rename_i hx; exact absurd h hx
theorem take_snoc {l : List In} {n : Nat} {x : In} (h : l[n]? = some x) : l.take (n + 1) = l.take n ++ [x] := by
  rw [List.take_add_one, h]
  rfl
theorem fe1_hit {l : List In} {n : Nat} {x : In} (h : l[n]? = some x) (ha : ∀ i ∈ l.take n, ck i = 0) (hx : ck x ≠ 0) : fe1 l = ck x := by
  have hn := (List.getElem?_eq_some_iff.1 h).1
  have e : l = l.take n ++ (x :: l.drop (n + 1)) := by
    have h2 : l.drop n = x :: l.drop (n + 1) := by
      rw [List.drop_eq_getElem_cons hn]
      have := (List.getElem?_eq_some_iff.1 h).2
      rw [this]
    rw [← h2, List.take_append_drop]
  rw [e, fe1_app _ _ ha, fe1, if_neg hx]
/-- A part of a slice of bytes. -/
theorem Rd.part {w : World} {b o k cap n : Nat} {bs : List Nat} (h : Rd w (some ⟨b, o, none⟩) k cap bs) (hn : n * 8 + 8 ≤ k) : Rd w (some ⟨b, o + n * 8, none⟩) 8 (cap - n * 8) ((bs.drop (n * 8)).take 8) := by
  have hl := h.len
  have hle := h.le
  have hm := h.max
  refine ⟨fun i y hi => ?_, by rw [List.length_take, List.length_drop]; omega, by omega, by omega, fun e => by cases e⟩
  have hi8 : i < 8 := by
    rcases Nat.lt_or_ge i 8 with h | h
    · exact h
    · rw [List.getElem?_eq_none (by rw [List.length_take]; omega)] at hi; cases hi
  rw [List.getElem?_take_of_lt hi8, List.getElem?_drop] at hi
  obtain ⟨b', o', e, hb, hc, hy⟩ := h.cells _ y hi
  injection e with e
  injection e with e1 e2
  subst e1 e2
  exact ⟨b, o + n * 8, rfl, hb, by rw [Nat.add_assoc]; exact hc, hy⟩
theorem run_part (b o k cap n : Nat) (h1 : n * 8 + 8 ≤ cap) (W : World) : (Instr.slice 40 (.slice (some ⟨b, o, none⟩) k cap) (some (.int .i64 ((n : Int) * 8))) (some (.int .i64 (((n : Int) + 1) * 8))) none).run Tryd.prog W = .ok (.slice (some ⟨b, o + n * 8, none⟩) 8 (cap - n * 8)) W := by
  rw [run_slice_lh W 40 _ k cap (by simp [Program.elem, Tryd.underlying40]) .i64 .i64 _ _ (by omega) (by omega) (by omega)]
  have e1 : ((n : Int) * 8).toNat = n * 8 := by omega
  have e2 : (((n : Int) + 1) * 8).toNat = (n + 1) * 8 := by omega
  have e3 : (n + 1) * 8 - n * 8 = 8 := by omega
  have e4 : ¬ cap = n * 8 := by omega
  rw [e1, e2]
  simp [sliced, e3, e4, Program.elem, Tryd.underlying40, go_sem, addr_add]
section
variable {w : World}
theorem parse6_any (T : Hid (Tabs w)) (A : Option Addr) (k c : Nat) (bs : List Nat) (h : Rd w A k c bs) :
    Calls Tryd.prog 17 #[.slice A k c] w fun e w' => ∃ v, e = .returned (.tuple #[v, .int .i64 (paE bs : Int)]) ∧ Or w' w.heap.size v (paL bs) ∧ Below w.heap.size w w' := by
  have hl := h.len
  have hle := h.le
  have hmx := h.max
  have R0 := Lib.hid h
  have HLN := Lib.hid hl
  have wq : (k : Int).tdiv 8 = ((k / 8 : Nat) : Int) := by rw [Int.tdiv_eq_ediv_of_nonneg (by omega)]; omega
  have wr8 : (k : Int).tmod 8 = ((k % 8 : Nat) : Int) := by rw [Int.tmod_eq_emod_of_nonneg (by omega)]; omega
  by_cases h8 : k % 8 = 0
  · by_cases h128 : 128 < k / 8
    · have HE := Lib.hid (show paE bs = 11 by unfold paE; rw [hl, if_neg (by omega), if_pos h128])
      have HL := Lib.hid (show paL bs = [] by unfold paL; rw [HE.out]; rfl)
      have g1 : (128 : Int) < ((k / 8 : Nat) : Int) := by omega
      clear hl h
      go_enter Tryd.func17, Tryd.ntmps17
      go_wp2_with fail
      go_ret2
      rw [HE.out, HL.out]
      exact ⟨_, rfl, Or.nil _ _, by go_grown⟩
    · obtain ⟨N, hN⟩ : ∃ N, k / 8 = N := ⟨_, rfl⟩
      have hk8 : k = N * 8 := by omega
      have HE := Lib.hid (show paE bs = fe1 (dI bs) by unfold paE; rw [hl, if_neg (by omega), if_neg h128])
      have HDL := Lib.hid (show (dI bs).length = N by rw [dI_len, hl, hN])
      have HDA := Lib.hid fun (n : Nat) (hn : n < N) => dI_at bs n (by rw [hl, hN]; exact hn)
      have HOK := Lib.hid (dI_ok h.byt)
      obtain ⟨i0, hi, hz0, hz1, hz2⟩ := info_parts infoI5
      obtain ⟨w1, hmk, hown, hgr⟩ := run_make_own (P := Tryd.prog) w w.heap.size 39 24 i0 _ 5 Tryd.underlying39 hi hz0 hz1 .i64 .i64 N (by rw [hz2]; omega) (by unfold maxLen; omega) (Nat.le_refl _)
      have O1 := Lib.hid (show Or w1 w.heap.size (.slice (some ⟨w.heap.size, 0, none⟩) 0 N) [] from hown)
      have X1 := Lib.hid (show Below w.heap.size w w1 from (Below.refl _ _).grown hgr (Nat.le_refl _) (fun _ e => by cases e))
      have g1 : ¬ (128 : Int) < (N : Int) := by omega
      rw [hN] at wq
      rw [h8] at wr8
      have hN128 : N ≤ 128 := by omega
      clear hown hgr hi hz0 hz1 hz2 hl h hN h128 h8
      subst hk8
      go_enter Tryd.func17, Tryd.ntmps17
      go_wp2_with fail
      clear hmk wq wr8
      go_loopw [5, 21] (fun v q wr => ∃ n : Nat, n ≤ N ∧ q = .int .i64 n ∧ Hid (∀ i ∈ (dI bs).take n, ck i = 0) ∧ Hid (Or wr w.heap.size v ((dI bs).take n)) ∧ Hid (Below w.heap.size w wr)) (fun _ q _ => N - (intOf q).toNat)
      case atStart => exact ⟨0, by omega, rfl, Lib.hid (by simp), O1.out, X1.out⟩
      case round =>
        clear O1 X1
        obtain ⟨n, hn, rfl, HA, HO, HW⟩ := hrel
        by_cases hnN : n < N
        · have hnN' : (n : Int) < N := by omega
          have wj : IntKind.i64.wrap ((n : Int) + 1) = ((n + 1 : Nat) : Int) := by rw [show (n : Int) + 1 = ((n + 1 : Nat) : Int) by omega]; exact w64 _ (by omega)
          have wj1 : IntKind.i64.wrap ((n : Int) * 8) = (n : Int) * 8 := by rw [show (n : Int) * 8 = ((n * 8 : Nat) : Int) by omega]; exact w64 _ (by omega)
          have wj2 : IntKind.i64.wrap (((n : Int) + 1) * 8) = ((n : Int) + 1) * 8 := by rw [show ((n : Int) + 1) * 8 = (((n + 1) * 8 : Nat) : Int) by omega]; exact w64 _ (by omega)
          obtain ⟨b, o, rfl, hb, -⟩ := R0.out.base (by omega)
          have hsl := run_part b o (N * 8) c n (by omega)
          have RP := Lib.hid ((R0.out.below HW.out (Nat.le_refl _)).part (n := n) (by omega))
          have HDn := Lib.hid (HDA.out n hnN)
          have HKn := Lib.hid (HOK.out _ (List.mem_of_getElem? HDn.out))
          have IO := Lib.hid (insnOf_any _ _ _ RP.out)
          have hws := HW.out.size
          obtain ⟨x, hx⟩ : ∃ x, d8 ((bs.drop (n * 8)).take 8) = x := ⟨_, rfl⟩
          rw [hx] at HDn HKn IO
          clear hx RP
          have HTS := Lib.hid (take_snoc HDn.out)
          have CK := Lib.hid fun (W : World) (T : Hid (Tabs W)) => check_any T x HKn.out
          have hln : ((dI bs).take n).length ≤ 128 := by rw [List.length_take, HDL.out]; omega
          have HLB := Lib.hid hln
          clear hln
          by_cases hck : ck x = 0
          · have HA2 := Lib.hid (show ∀ i ∈ (dI bs).take (n + 1), ck i = 0 by
              rw [HTS.out]
              intro i hi
              rcases List.mem_append.1 hi with hi | hi
              · exact HA.out i hi
              · simp at hi; rw [hi]; exact hck)
            rw [hck] at CK
            clear hck
            obtain ⟨op, a, b', c', im⟩ := x
            simp only [iv] at IO CK
            go_wp2_with (first
              | (go_at_call 39; (with_reducible refine IO.out.mono ?_); rintro e w2 ⟨rfl, hb2⟩; have X2 := Lib.hid (HW.out.trans (hb2.mono hws)); have O2 := Lib.hid (HO.out.keep hb2 (Nat.le_refl _)); obtain ⟨w3, hw3⟩ : ∃ w3, w3 = w2.alloc (Obj.cells #[.int .u8 (op : Int), .int .u8 (a : Int), .int .u8 (b' : Int), .int .u8 (c' : Int), .int .u32 (im : Int)] 24) := ⟨_, rfl⟩; have X3 := Lib.hid (show Below w.heap.size w w3 by rw [hw3]; exact X2.out.alloc X2.out.size _); have O3 := Lib.hid (show Or w3 w.heap.size _ ((dI bs).take n) by rw [hw3]; exact O2.out.alloc _); have K3 := Lib.hid (show Blk w3 w2.heap.size 24 #[.int .u8 (op : Int), .int .u8 (a : Int), .int .u8 (b' : Int), .int .u8 (c' : Int), .int .u32 (im : Int)] by rw [hw3]; exact Blk.new _ _ _); have T3 := Lib.hid (T.out.out X3.out); have HW3 := Lib.hid hw3; clear hb2 hw3)
              | (go_at_call 13; rw [← HW3.out]; (with_reducible refine (CK.out _ T3).mono ?_); rintro e w4 ⟨rfl, hb4⟩; have X4 := Lib.hid (X3.out.trans (hb4.mono X3.out.size)); have O4 := Lib.hid (O3.out.keep hb4 (Nat.le_refl _)); have K4 := Lib.hid (K3.out.below hb4 K3.out.lt); obtain ⟨q0, q1, q2, q3, q4, -⟩ := ten K4.out; clear hb4)
              | (at_builtin; refine wpList_insapp rfl _ _ rfl w.heap.size _ ((dI bs).take n) rfl O4.out ⟨op, a, b', c', im⟩ w4.heap.size rfl rfl (by have := HLB.out; omega) X4.out.size ?_; intro v5 w5 h5 h6; rw [← HTS.out] at h5; have O5 := Lib.hid h5; have X5 := Lib.hid (X4.out.trans h6); clear h5 h6))
            go_roundw
            case rel => exact ⟨n + 1, by omega, by go_num, HA2.out, O5.out, X5.out⟩
            case measure => simp [intOf]; omega
          · have HF := Lib.hid (fe1_hit HDn.out HA.out hck)
            have hle2 := ck_le x
            obtain ⟨E, hE⟩ : ∃ E, ck x = E := ⟨_, rfl⟩
            rw [hE] at CK HF hck hle2
            have HL := Lib.hid (show paL bs = [] by unfold paL; rw [HE.out, HF.out, if_neg hck])
            have hne : ¬ ((E : Nat) : Int) = 0 := by omega
            clear hck hE hle2
            obtain ⟨op, a, b', c', im⟩ := x
            simp only [iv] at IO CK
            go_wp2_with (first
              | (go_at_call 39; (with_reducible refine IO.out.mono ?_); rintro e w2 ⟨rfl, hb2⟩; have X2 := Lib.hid (HW.out.trans (hb2.mono hws)); obtain ⟨w3, hw3⟩ : ∃ w3, w3 = w2.alloc (Obj.cells #[.int .u8 (op : Int), .int .u8 (a : Int), .int .u8 (b' : Int), .int .u8 (c' : Int), .int .u32 (im : Int)] 24) := ⟨_, rfl⟩; have X3 := Lib.hid (show Below w.heap.size w w3 by rw [hw3]; exact X2.out.alloc X2.out.size _); have T3 := Lib.hid (T.out.out X3.out); have HW3 := Lib.hid hw3; clear hb2 hw3)
              | (go_at_call 13; rw [← HW3.out]; (with_reducible refine (CK.out _ T3).mono ?_); rintro e w4 ⟨rfl, hb4⟩; have X4 := Lib.hid (X3.out.trans (hb4.mono X3.out.size)); clear hb4))
            go_ret2
            rw [HE.out, HF.out, HL.out]
            exact ⟨_, rfl, Or.nil _ _, X4.out⟩
        · obtain rfl : n = N := by omega
          have HT := Lib.hid (show (dI bs).take n = dI bs from List.take_of_length_le (by rw [HDL.out]; omega))
          have HF := Lib.hid (fe1_zero (show ∀ i ∈ dI bs, ck i = 0 by have := HA.out; rwa [HT.out] at this))
          have HL := Lib.hid (show paL bs = dI bs by unfold paL; rw [HE.out, HF.out]; rfl)
          go_wp2_with fail
          go_ret2
          rw [HE.out, HF.out, HL.out, ← HT.out]
          exact ⟨_, rfl, HO.out, HW.out⟩
  · have HE := Lib.hid (show paE bs = 3 by unfold paE; rw [hl, if_pos h8])
    have HL := Lib.hid (show paL bs = [] by unfold paL; rw [HE.out]; rfl)
    have g1 : ¬ ((k % 8 : Nat) : Int) = 0 := by omega
    clear hl h
    go_enter Tryd.func17, Tryd.ntmps17
    go_wp2_with fail
    go_ret2
    rw [HE.out, HL.out]
    exact ⟨_, rfl, Or.nil _ _, by go_grown⟩
end
end Go.Proofs.YtcedjjolikmbbaaDoor
