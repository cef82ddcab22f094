/- The contracts of the small functions: lenFits, fieldSize, kindAt, allZero, belongs, leadsTo; the document's Size, Kind. Condition: the fields can be read. -/
import Derived.Test.YtnkjlocjfljjlaaTWords
import Derived.Deep.QuietTactic
import Derived.BigQuiet
namespace Go.Proofs.Ytnkjlocjfljjlaa
open Go.RowKit
set_option maxRecDepth 100000

theorem kinds (k : Int) : k = 1 ∨ k = 2 ∨ k = 3 ∨ k = 4 ∨ k = 5 ∨ k = 6 ∨ k = 7 ∨ ((k == 1) = false ∧ (k == 2) = false ∧ (k == 3) = false ∧ (k == 4) = false ∧ (k == 5) = false ∧ (k == 6) = false ∧ (k == 7) = false) := by
  simp only [beq_eq_false_iff_ne, ne_eq]
  omega

def lenF (f : Fd) : Bool := decide (1 ≤ f.len ∧ f.len ≤ 16)
def fsB (f : Fd) : Bool := decide (fsz f ≠ 0)
def allz (l : List Int) : Bool := l.all fun x => decide (x = 0)
theorem li_new {w : World} {g : Nat} (hg : w.heap.size = g) (l : List Int) (hl : Fit l) (n : Nat) (hn : l.length = n) (hm : n ≤ 9223372036854775807) (cs : Array Value) (hcs : cs = (ic l).toArray) :
    Li (w.alloc (.cells cs 3)) (some ⟨g, 0, none⟩) n n l := by
  subst hcs hg
  refine ⟨fun i x hi => ⟨w.heap.size, 0, rfl, by simp, ?_⟩, hl, hn, Nat.le_refl _, hm⟩
  have := (Blk.new w 3 (ic l).toArray).cell i
  rw [Nat.zero_add]
  rw [this]
  simp [ic, hi]
theorem li_1 {w : World} {g : Nat} (hg : w.heap.size = g) (a : Int) (hl : Fit [a]) : Li (w.alloc (.cells #[.int .i64 a] 3)) (some ⟨g, 0, none⟩) 1 1 [a] := li_new hg _ hl 1 rfl (by omega) _ rfl
theorem li_2 {w : World} {g : Nat} (hg : w.heap.size = g) (a b : Int) (hl : Fit [a, b]) : Li (w.alloc (.cells #[.int .i64 a, .int .i64 b] 3)) (some ⟨g, 0, none⟩) 2 2 [a, b] := li_new hg _ hl 2 rfl (by omega) _ rfl
theorem li_3 {w : World} {g : Nat} (hg : w.heap.size = g) (a b c : Int) (hl : Fit [a, b, c]) : Li (w.alloc (.cells #[.int .i64 a, .int .i64 b, .int .i64 c] 3)) (some ⟨g, 0, none⟩) 3 3 [a, b, c] := li_new hg _ hl 3 rfl (by omega) _ rfl
theorem li_4 {w : World} {g : Nat} (hg : w.heap.size = g) (a b c d : Int) (hl : Fit [a, b, c, d]) : Li (w.alloc (.cells #[.int .i64 a, .int .i64 b, .int .i64 c, .int .i64 d] 3)) (some ⟨g, 0, none⟩) 4 4 [a, b, c, d] := li_new hg _ hl 4 rfl (by omega) _ rfl
theorem fit1 {a : Int} (ha : Rg a) : Fit [a] := by
  intro x hx
  simp at hx
  subst hx
  exact ha
theorem fit_cons {a : Int} {l : List Int} (ha : Rg a) (hl : Fit l) : Fit (a :: l) := by
  intro x hx
  rcases List.mem_cons.1 hx with rfl | h
  · exact ha
  · exact hl x h

section
variable {w : World}
theorem lenFits_any (f : Fd) : Calls Try.prog 47 #[fv f] w fun e w' => e = .returned (.bool (lenF f)) ∧ Below w.heap.size w w' := by
  obtain ⟨kd, ln, ty, lk, ky⟩ := f
  unfold fv
  by_cases h1 : 1 ≤ ln
  · by_cases h2 : ln ≤ 16
    · have HL := Lib.hid (show lenF ⟨kd, ln, ty, lk, ky⟩ = true by simp [lenF, h1, h2])
      go_enter Try.func47, Try.ntmps47
      go_wp2_with fail
      go_ret
      rw [HL.out]
      refine ⟨rfl, ?_⟩
      (repeat' (first | exact Below.refl _ _ | assumption | (refine Below.alloc ?_ (by (try simp) <;> omega) _)))
    · have HL := Lib.hid (show lenF ⟨kd, ln, ty, lk, ky⟩ = false by simp [lenF]; omega)
      go_enter Try.func47, Try.ntmps47
      go_wp2_with fail
      go_ret
      rw [HL.out]
      refine ⟨rfl, ?_⟩
      (repeat' (first | exact Below.refl _ _ | assumption | (refine Below.alloc ?_ (by (try simp) <;> omega) _)))
  · have HL := Lib.hid (show lenF ⟨kd, ln, ty, lk, ky⟩ = false by simp [lenF]; omega)
    go_enter Try.func47, Try.ntmps47
    go_wp2_with fail
    go_ret
    rw [HL.out]
    refine ⟨rfl, ?_⟩
    (repeat' (first | exact Below.refl _ _ | assumption | (refine Below.alloc ?_ (by (try simp) <;> omega) _)))
theorem fieldSize_any (f : Fd) : Calls Try.prog 28 #[fv f] w fun e w' => e = .returned (.tuple #[.int .i64 (fsz f), .bool (fsB f)]) ∧ Below w.heap.size w w' := by
  obtain ⟨kd, ln, ty, lk, ky⟩ := f
  unfold fv
  rcases kinds kd with rfl | rfl | rfl | rfl | rfl | rfl | rfl | ⟨n1, n2, n3, n4, n5, n6, n7⟩
  · by_cases h1 : 1 ≤ ln ∧ ln ≤ 16
    · obtain ⟨h1, h2⟩ := h1
      have HL := Lib.hid (show lenF ⟨1, ln, ty, lk, ky⟩ = true by simp [lenF, h1, h2])
      have HZ := Lib.hid (show fsz ⟨1, ln, ty, lk, ky⟩ = 8 * ln by simp [fsz, h1, h2])
      have HY := Lib.hid (show fsB ⟨1, ln, ty, lk, ky⟩ = true by simp [fsB, fsz, h1, h2]; omega)
      go_enter Try.func28, Try.ntmps28
      go_wp2_with (go_at_call 47; refine (lenFits_any ⟨1, ln, ty, lk, ky⟩).mono ?_; rintro e w1 ⟨rfl, hb⟩; rw [HL.out]; have cb := (hb.cell (p := ⟨w.heap.size, 1, none⟩) (by simp)); have HB := Lib.hid hb; clear hb)
      go_ret2
      rw [HZ.out, HY.out]
      refine ⟨rfl, ?_⟩
      have := HB.out
      exact Below.trans (b := w.alloc _) (by (repeat' (first | exact Below.refl _ _ | assumption | (refine Below.alloc ?_ (by (try simp) <;> omega) _)))) (this.mono (by simp))
    · have HL := Lib.hid (show lenF ⟨1, ln, ty, lk, ky⟩ = false by simp [lenF]; omega)
      have HZ := Lib.hid (show fsz ⟨1, ln, ty, lk, ky⟩ = 0 by unfold fsz; simp only; repeat' split <;> omega)
      have HY := Lib.hid (show fsB ⟨1, ln, ty, lk, ky⟩ = false by unfold fsB; rw [HZ.out]; rfl)
      clear h1
      go_enter Try.func28, Try.ntmps28
      go_wp2_with (go_at_call 47; refine (lenFits_any ⟨1, ln, ty, lk, ky⟩).mono ?_; rintro e w1 ⟨rfl, hb⟩; rw [HL.out]; have HB := Lib.hid hb; clear hb)
      go_ret2
      rw [HZ.out, HY.out]
      refine ⟨rfl, ?_⟩
      have := HB.out
      exact Below.trans (b := w.alloc _) (by (repeat' (first | exact Below.refl _ _ | assumption | (refine Below.alloc ?_ (by (try simp) <;> omega) _)))) (this.mono (by simp))
  case' inr.inr.inr.inr.inr.inr.inr =>
    have HZ := Lib.hid (show fsz ⟨kd, ln, ty, lk, ky⟩ = 0 by
      simp at n1 n2 n3 n4 n5 n6 n7
      unfold fsz
      simp only
      repeat' split <;> omega)
    have HY := Lib.hid (show fsB ⟨kd, ln, ty, lk, ky⟩ = false by unfold fsB; rw [HZ.out]; rfl)
  case' inr.inl => have HZ := Lib.hid (show fsz ⟨2, ln, ty, lk, ky⟩ = 8 by rfl); have HY := Lib.hid (show fsB ⟨2, ln, ty, lk, ky⟩ = true by rfl)
  case' inr.inr.inl => have HZ := Lib.hid (show fsz ⟨3, ln, ty, lk, ky⟩ = 16 by rfl); have HY := Lib.hid (show fsB ⟨3, ln, ty, lk, ky⟩ = true by rfl)
  case' inr.inr.inr.inl => have HZ := Lib.hid (show fsz ⟨4, ln, ty, lk, ky⟩ = 24 by rfl); have HY := Lib.hid (show fsB ⟨4, ln, ty, lk, ky⟩ = true by rfl)
  case' inr.inr.inr.inr.inl => have HZ := Lib.hid (show fsz ⟨5, ln, ty, lk, ky⟩ = 8 by rfl); have HY := Lib.hid (show fsB ⟨5, ln, ty, lk, ky⟩ = true by rfl)
  case' inr.inr.inr.inr.inr.inl => have HZ := Lib.hid (show fsz ⟨6, ln, ty, lk, ky⟩ = 8 by rfl); have HY := Lib.hid (show fsB ⟨6, ln, ty, lk, ky⟩ = true by rfl)
  case' inr.inr.inr.inr.inr.inr.inl => have HZ := Lib.hid (show fsz ⟨7, ln, ty, lk, ky⟩ = 8 by rfl); have HY := Lib.hid (show fsB ⟨7, ln, ty, lk, ky⟩ = true by rfl)
  all_goals
    go_enter Try.func28, Try.ntmps28
    go_wp2_with fail
    go_ret2
    rw [HZ.out, HY.out]
    refine ⟨rfl, ?_⟩
    (repeat' (first | exact Below.refl _ _ | assumption | (refine Below.alloc ?_ (by (try simp) <;> omega) _)))
theorem rsize_any (f : Fd) : Calls Try.prog 29 #[fv f] w fun e w' => e = .returned (.int .i64 (fsz f)) ∧ Below w.heap.size w w' := by
  obtain ⟨kd, ln, ty, lk, ky⟩ := f
  unfold fv
  rcases kinds kd with rfl | rfl | rfl | rfl | rfl | rfl | rfl | ⟨n1, n2, n3, n4, n5, n6, n7⟩
  · by_cases h1 : 1 ≤ ln
    · by_cases h2 : ln ≤ 16
      · have HZ := Lib.hid (show fsz ⟨1, ln, ty, lk, ky⟩ = 8 * ln by simp [fsz, h1, h2])
        go_enter Try.func29, Try.ntmps29
        go_wp2_with fail
        go_ret
        rw [HZ.out]
        refine ⟨rfl, ?_⟩
        (repeat' (first | exact Below.refl _ _ | assumption | (refine Below.alloc ?_ (by (try simp) <;> omega) _)))
      · have HZ := Lib.hid (show fsz ⟨1, ln, ty, lk, ky⟩ = 0 by unfold fsz; simp only; repeat' split <;> omega)
        go_enter Try.func29, Try.ntmps29
        go_wp2_with fail
        go_ret
        rw [HZ.out]
        refine ⟨rfl, ?_⟩
        (repeat' (first | exact Below.refl _ _ | assumption | (refine Below.alloc ?_ (by (try simp) <;> omega) _)))
    · have HZ := Lib.hid (show fsz ⟨1, ln, ty, lk, ky⟩ = 0 by unfold fsz; simp only; repeat' split <;> omega)
      go_enter Try.func29, Try.ntmps29
      go_wp2_with fail
      go_ret
      rw [HZ.out]
      refine ⟨rfl, ?_⟩
      (repeat' (first | exact Below.refl _ _ | assumption | (refine Below.alloc ?_ (by (try simp) <;> omega) _)))
  case' inr.inr.inr.inr.inr.inr.inr =>
    have HZ := Lib.hid (show fsz ⟨kd, ln, ty, lk, ky⟩ = 0 by
      simp at n1 n2 n3 n4 n5 n6 n7
      unfold fsz
      simp only
      repeat' split <;> omega)
    by_cases h5 : 5 ≤ kd
    case' pos => have h7 : ¬ kd ≤ 7 := by simp at n5 n6 n7; omega
  case' inr.inl => have HZ := Lib.hid (show fsz ⟨2, ln, ty, lk, ky⟩ = 8 by rfl)
  case' inr.inr.inl => have HZ := Lib.hid (show fsz ⟨3, ln, ty, lk, ky⟩ = 16 by rfl)
  case' inr.inr.inr.inl => have HZ := Lib.hid (show fsz ⟨4, ln, ty, lk, ky⟩ = 24 by rfl)
  case' inr.inr.inr.inr.inl => have HZ := Lib.hid (show fsz ⟨5, ln, ty, lk, ky⟩ = 8 by rfl)
  case' inr.inr.inr.inr.inr.inl => have HZ := Lib.hid (show fsz ⟨6, ln, ty, lk, ky⟩ = 8 by rfl)
  case' inr.inr.inr.inr.inr.inr.inl => have HZ := Lib.hid (show fsz ⟨7, ln, ty, lk, ky⟩ = 8 by rfl)
  all_goals
    go_enter Try.func29, Try.ntmps29
    go_wp2_with fail
    go_ret
    rw [HZ.out]
    refine ⟨rfl, ?_⟩
    (repeat' (first | exact Below.refl _ _ | assumption | (refine Below.alloc ?_ (by (try simp) <;> omega) _)))
theorem kat_neg {fs : List Fd} {i : Int} (h : i < 0) : kat fs i = 0 := by unfold kat; rw [if_pos h]
theorem kat_at {fs : List Fd} {k : Nat} {f : Fd} (h : fs[k]? = some f) : kat fs (k : Int) = f.kind := by
  unfold kat
  rw [if_neg (by omega)]
  simp [h]
theorem kat_far {fs : List Fd} {k : Nat} (h : fs.length ≤ k) : kat fs (k : Int) = 0 := by
  unfold kat
  rw [if_neg (by omega)]
  simp [List.getElem?_eq_none h]
theorem kindAt_any (t : Ty) (FA : Option Addr) (fk fc : Nat) (h : Lf w FA fk fc t.fields) (i : Int) :
    Calls Try.prog 59 #[.agg #[.string t.name, .bool t.value, .bool t.refs, .slice FA fk fc], .int .i64 i] w fun e w' => e = .returned (.int .i64 (kat t.fields i)) ∧ Below w.heap.size w w' := by
  have HL := Lib.hid h.len
  have hle := h.le
  have hmx := h.max
  have H := Lib.hid h
  clear h
  by_cases hneg : i < 0
  · have HK := Lib.hid (kat_neg (fs := t.fields) hneg)
    go_enter Try.func59, Try.ntmps59
    go_wp2_with fail
    go_ret
    rw [HK.out]
    refine ⟨rfl, ?_⟩
    (repeat' (first | exact Below.refl _ _ | assumption | (refine Below.alloc ?_ (by (try simp) <;> omega) _)))
  · obtain ⟨k, rfl⟩ : ∃ k : Nat, i = (k : Int) := ⟨i.toNat, by omega⟩
    by_cases hk : k < fk
    · obtain ⟨b, o, f, rfl, hf, hok, hb, c0, c1, c2, c3, c4⟩ := H.out.at k hk
      have HK := Lib.hid (kat_at hf.out)
      clear c1 c2 c3 c4
      go_enter Try.func59, Try.ntmps59
      go_wp2_with fail
      go_ret
      rw [HK.out]
      refine ⟨rfl, ?_⟩
      (repeat' (first | exact Below.refl _ _ | assumption | (refine Below.alloc ?_ (by (try simp) <;> omega) _)))
    · have HK := Lib.hid (kat_far (fs := t.fields) (k := k) (by rw [HL.out]; omega))
      go_enter Try.func59, Try.ntmps59
      go_wp2_with fail
      go_ret
      rw [HK.out]
      refine ⟨rfl, ?_⟩
      (repeat' (first | exact Below.refl _ _ | assumption | (refine Below.alloc ?_ (by (try simp) <;> omega) _)))
theorem rkind_any (t : Ty) (FA : Option Addr) (fk fc : Nat) (h : Lf w FA fk fc t.fields) (i : Int) :
    Calls Try.prog 56 #[.agg #[.string t.name, .bool t.value, .bool t.refs, .slice FA fk fc], .int .i64 i] w fun e w' => e = .returned (.int .i64 (kat t.fields i)) ∧ Below w.heap.size w w' := by
  have HL := Lib.hid h.len
  have hle := h.le
  have hmx := h.max
  have H := Lib.hid h
  clear h
  by_cases hneg : i < 0
  · have HK := Lib.hid (kat_neg (fs := t.fields) hneg)
    go_enter Try.func56, Try.ntmps56
    go_wp2_with fail
    go_ret
    rw [HK.out]
    refine ⟨rfl, ?_⟩
    (repeat' (first | exact Below.refl _ _ | assumption | (refine Below.alloc ?_ (by (try simp) <;> omega) _)))
  · obtain ⟨k, rfl⟩ : ∃ k : Nat, i = (k : Int) := ⟨i.toNat, by omega⟩
    by_cases hk : k < fk
    · obtain ⟨b, o, f, rfl, hf, hok, hb, c0, c1, c2, c3, c4⟩ := H.out.at k hk
      have HK := Lib.hid (kat_at hf.out)
      clear c1 c2 c3 c4
      go_enter Try.func56, Try.ntmps56
      go_wp2_with fail
      go_ret
      rw [HK.out]
      refine ⟨rfl, ?_⟩
      (repeat' (first | exact Below.refl _ _ | assumption | (refine Below.alloc ?_ (by (try simp) <;> omega) _)))
    · have HK := Lib.hid (kat_far (fs := t.fields) (k := k) (by rw [HL.out]; omega))
      go_enter Try.func56, Try.ntmps56
      go_wp2_with fail
      go_ret
      rw [HK.out]
      refine ⟨rfl, ?_⟩
      (repeat' (first | exact Below.refl _ _ | assumption | (refine Below.alloc ?_ (by (try simp) <;> omega) _)))
theorem allZero_any (A : Option Addr) (k cap : Nat) (l : List Int) (h : Li w A k cap l) :
    Calls Try.prog 58 #[.slice A k cap] w fun e w' => e = .returned (.bool (allz l)) ∧ Below w.heap.size w w' := by
  have hle := h.le
  have hmx := h.max
  have HL := Lib.hid h.len
  have HR := Lib.hid h
  clear h
  go_enter Try.func58, Try.ntmps58
  go_wp2_with fail
  go_loopw [7] (fun i wr => ∃ j : Nat, j ≤ k ∧ i = .int .i64 j ∧ Hid (∀ (t : Nat) (x : Int), t < j → l[t]? = some x → x = 0) ∧ Hid (Below w.heap.size w wr)) (fun i _ => k - (intOf i).toNat)
  case atStart => exact ⟨0, Nat.zero_le _, rfl, fun t x ht => absurd ht (by omega), Below.refl _ _⟩
  case round =>
    obtain ⟨j, hj, rfl, HJ, HW⟩ := hrel
    by_cases hlt : j < k
    · obtain ⟨b, o, x, rfl, HX, hx1, hx2, hb, hcell⟩ := (HR.out.below HW.out (Nat.le_refl _)).intAt j hlt
      have hji : (j : Int) < (k : Int) := by omega
      by_cases hx0 : x = 0
      · subst hx0
        go_wp2_with fail
        go_roundw
        case rel =>
          refine ⟨j + 1, by omega, by go_num, ?_, HW.out⟩
          intro t y ht hy
          rcases Nat.lt_or_ge t j with h | h
          · exact HJ.out t y h hy
          · obtain rfl : t = j := by omega
            rw [HX.out] at hy
            injection hy with hy
            exact hy.symm
        case measure => simp [intOf]; omega
      · have HE := Lib.hid (show allz l = false by
          unfold allz
          rw [List.all_eq_false]
          exact ⟨x, List.mem_of_getElem? HX.out, by simpa using hx0⟩)
        have hq : (x != 0) = true := by simp [hx0]
        go_wp2_with fail
        go_ret
        rw [HE.out]
        exact ⟨rfl, HW.out⟩
    · obtain rfl : j = k := by omega
      have HE := Lib.hid (show allz l = true by
        unfold allz
        rw [List.all_eq_true]
        intro x hx
        obtain ⟨i, hi⟩ := List.mem_iff_getElem?.1 hx
        have hlt := (List.getElem?_eq_some_iff.1 hi).1
        rw [HL.out] at hlt
        simpa using HJ.out i x hlt hi)
      go_wp2_with fail
      go_ret
      rw [HE.out]
      exact ⟨rfl, HW.out⟩
end
end Go.Proofs.Ytnkjlocjfljjlaa
