/- TypesChecks and TypesLayouts: the walks. Condition: the argument can be read. -/
import Derived.Test.YtnkjlocjfljjlaaTShown
import Derived.Test.YtnkjlocjfljjlaaTRCheck
import Derived.Test.YtnkjlocjfljjlaaTRLayout
import Derived.Test.YtnkjlocjfljjlaaTOpen
namespace Go.Proofs.Ytnkjlocjfljjlaa
open Go.RowKit
set_option maxRecDepth 100000
set_option maxHeartbeats 4000000
theorem checks_walk (A : Option Addr) (n cap : Nat) (w : World) (h : ∃ ts, Lt w A n cap ts) :
    Calls Try.prog 3 #[.slice A n cap] w fun e w' => e = .returned (.bool true) ∧ Below w.heap.size w w' := by
  obtain ⟨ts, h⟩ := h
  have H := Lib.hid h
  clear h
  go_enter Try.func3, Try.ntmps3
  go_wp2_with (go_at_call 11; refine (shown_any).mono ?_; rintro e w1 ⟨rfl, h1⟩; have W1 := Lib.hid h1; clear h1)
  go_wp2_with (go_at_call 12; refine (check_any _ n cap ts (H.out.below W1.out (Nat.le_refl _))).mono ?_; rintro e w2 ⟨rfl, h2⟩; have W2 := Lib.hid (W1.out.trans (h2.mono W1.out.size)); clear h2)
  go_wp2_with (go_at_call 13; refine (rcheck_any _ n cap ts (H.out.below W2.out (Nat.le_refl _))).mono ?_; rintro e w3 ⟨rfl, h3⟩; have W3 := Lib.hid (W2.out.trans (h3.mono W2.out.size)); clear h3)
  go_ret
  exact ⟨by simp, W3.out⟩
theorem laV_fit (fs : List Fd) : Fit (laV fs) := by
  intro x hx
  unfold laV at hx
  split at hx
  · rename_i h
    have hz := laE_zero h
    obtain ⟨k, hk⟩ := List.mem_iff_getElem?.1 hx
    have hl : k < fs.length := by
      have := (List.getElem?_eq_some_iff.1 hk).1
      rwa [offs_len] at this
    rw [offs_at fs 8 k hl] at hk
    injection hk with hk
    have := szs_le (fs.take k)
    rw [List.length_take] at this
    omega
  · cases hx
theorem layouts_walk (t : Ty) (FA : Option Addr) (fk fc : Nat) (w : World) (h : t.name.size ≤ 9223372036854775807 ∧ Lf w FA fk fc t.fields) :
    Calls Try.prog 4 #[.agg #[.string t.name, .bool t.value, .bool t.refs, .slice FA fk fc]] w fun e w' => e = .returned (.bool true) ∧ Below w.heap.size w w' := by
  obtain ⟨_, h⟩ := h
  obtain ⟨tn, tv, tr, fs⟩ := t
  simp only at h ⊢
  have H := Lib.hid h
  clear h
  obtain ⟨w0, hw0⟩ : ∃ w0, w0 = w.alloc (Obj.cells #[.string tn, .bool tv, .bool tr, .slice FA fk fc] 32) := ⟨_, rfl⟩
  have B0 := Lib.hid (show Blk w0 w.heap.size 32 #[.string tn, .bool tv, .bool tr, .slice FA fk fc] by rw [hw0]; exact Blk.new _ _ _)
  have L0 := Lib.hid (show Below w.heap.size w w0 by rw [hw0]; (repeat' (first | exact Below.refl _ _ | assumption | (refine Below.alloc ?_ (by (try simp) <;> omega) _))))
  have S0 : w0.heap.size = w.heap.size + 1 := by rw [hw0]; simp
  have HW0 := Lib.hid hw0
  have SS := Lib.hid S0
  clear hw0 S0
  go_enter Try.func4, Try.ntmps4
  go_wp2_with (go_at_call 11; rw [← HW0.out]; refine (shown_any).mono ?_; rintro e w1 ⟨rfl, h1⟩; have W1 := Lib.hid h1; obtain ⟨d0, d1, d2, d3⟩ := four B0.out h1 (by rw [SS.out]; omega); have X1 := Lib.hid (L0.out.trans (h1.mono (by rw [SS.out]; omega))); clear h1)
  go_wp2_with (go_at_call 14; refine (layout_any tn tv tr FA fk fc fs (H.out.below X1.out (Nat.le_refl _))).mono ?_; rintro e w2 ⟨v2, rfl, o2, h2⟩; have W2 := Lib.hid (W1.out.trans (h2.mono W1.out.size)); have X2 := Lib.hid (X1.out.trans (h2.mono X1.out.size)); obtain ⟨e0, e1, e2, e3⟩ := four B0.out W2.out (by rw [SS.out]; omega); have O2 := Lib.hid o2; clear h2 o2)
  go_wp2_with (go_at_call 15; refine (rlayout_any tn tv tr FA fk fc fs (H.out.below X2.out (Nat.le_refl _))).mono ?_; rintro e w3 ⟨v3, rfl, o3, h3⟩; have X3 := Lib.hid (X2.out.trans (h3.mono X2.out.size)); obtain ⟨A2, k2, c2, rfl, l2⟩ := (Oi.keep O2.out h3 (Nat.le_refl _)).form (laV_fit fs); obtain ⟨A3, k3, c3, rfl, l3⟩ := o3.form (laV_fit fs); have LL := Lib.hid (And.intro l2 l3); clear h3 o3 l2 l3)
  go_wp2_with (go_at_call 16; refine (same_any A2 A3 k2 c2 k3 c3 (laV fs) (laV fs) LL.out.1 LL.out.2).mono ?_; rintro e w4 ⟨rfl, h4⟩; rw [decide_eq_true (show laV fs = laV fs from rfl)]; have X4 := Lib.hid (X3.out.trans (h4.mono X3.out.size)); clear h4)
  go_ret
  exact ⟨by simp, X4.out⟩
end Go.Proofs.Ytnkjlocjfljjlaa
