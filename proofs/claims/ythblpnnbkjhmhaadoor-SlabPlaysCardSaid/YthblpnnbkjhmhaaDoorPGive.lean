/- The contract of the pool's Give. Condition: the pool's block is known. -/
import Derived.Test.YthblpnnbkjhmhaaDoorPTaken
import Derived.StillTailTactics
import Derived.Deep.RegionWith
namespace Go.Proofs.YthblpnnbkjhmhaaDoor.Pool
open Go.RowKit

/-- A page of a pool turned. -/
theorem Pl.put0 {w : World} {p n : Nat} {t : Nat → Bool} (h : Pl w p n t) (k : Nat) (b : Bool) (hk : k < n) (h64 : k < 64) : Pl (w.setCell ⟨p, 1, none⟩ (.int .u64 (num (upd t (k % 64) b) 64 : Nat))) p n (upd t k b) := by
  refine ⟨?_, h.small, fun i hi => ?_⟩
  · have := h.blk.put 1 (.int .u64 (num (upd t (k % 64) b) 64 : Nat))
    have e1 : k % 64 = k := by omega
    have e2 : num (sh (upd t k b) 64) 64 = num (sh t 64) 64 := num_congr fun i _ => by
      unfold sh upd
      rw [if_neg (by omega)]
    rw [e1] at this ⊢
    unfold words
    rw [e2]
    exact this
  · unfold upd
    rw [if_neg (by omega)]
    exact h.off i hi
theorem Pl.put1 {w : World} {p n : Nat} {t : Nat → Bool} (h : Pl w p n t) (k : Nat) (b : Bool) (hk : k < n) (h64 : 64 ≤ k) : Pl (w.setCell ⟨p, 2, none⟩ (.int .u64 (num (upd (sh t 64) (k % 64) b) 64 : Nat))) p n (upd t k b) := by
  have hs := h.small
  refine ⟨?_, h.small, fun i hi => ?_⟩
  · have := h.blk.put 2 (.int .u64 (num (upd (sh t 64) (k % 64) b) 64 : Nat))
    have e1 : num (upd (sh t 64) (k % 64) b) 64 = num (sh (upd t k b) 64) 64 := num_congr fun i _ => by
      unfold sh upd
      by_cases e : i = k % 64
      · rw [if_pos e, if_pos (by omega)]
      · rw [if_neg e, if_neg (by omega)]
    have e2 : num (upd t k b) 64 = num t 64 := num_congr fun i _ => by
      unfold upd
      rw [if_neg (by omega)]
    rw [e1] at this ⊢
    unfold words
    rw [e2]
    exact this
  · unfold upd
    rw [if_neg (by omega)]
    exact h.off i hi

theorem Only.drew (g : Nat) (w : World) (m : Nat) : Only g w (w.drewN m) := ⟨rfl, rfl, rfl, rfl, fun _ _ => rfl⟩
theorem wr0 : IntKind.i64.wrap 0 = 0 := by decide
theorem wr1 : IntKind.i64.wrap 1 = 1 := by decide

section
variable {w : World}
theorem give_ok (p n : Nat) (t : Nat → Bool) (k : Nat) (h : Pl w p n t) (hk : k < n) (ht : t k = true) :
    Calls Tryd.prog 37 #[.pointer (some ⟨p, 0, none⟩), .int .i64 k] w fun e w' => e = .returned (.int .i64 0) ∧ Pl w' p n (upd t k false) ∧ Only p w w' := by
  have hs := h.small
  have h1 := h.c1
  have h2 := h.c2
  have f1 := h.blk.frozen 1
  have f2 := h.blk.frozen 2
  have H := Lib.hid h
  have HT := Lib.hid ht
  clear h ht
  by_cases h64 : k < 64
  · have hq : (k : Int).tdiv 64 = 0 := by rw [Int.tdiv_eq_ediv_of_nonneg (by omega)]; omega
    have hb := m_andNot t k
    have hw := wr0
    go_enter Tryd.func37, Tryd.ntmps37
    go_wp2_with fail
    refine (has_yes _ _ _ _ H.out.po hk).mono ?_
    rintro e w' ⟨rfl, rfl⟩
    go_wp2_with fail
    refine (taken_yes _ _ _ _ H.out hk).mono ?_
    rw [HT.out]
    rintro e w' ⟨rfl, m, rfl⟩
    go_wp2_with fail
    go_region_with (go_at_call 47; refine (mask_any k (by omega)).mono ?_; rintro e w' ⟨rfl, rfl⟩)
    all_goals
      go_wp2
      go_ret
      exact ⟨rfl, (H.out.drew _).put0 k false hk h64, (Only.drew _ _ _).trans (Only.setCellAt _ _ _ _)⟩
  · have hq : (k : Int).tdiv 64 = 1 := by rw [Int.tdiv_eq_ediv_of_nonneg (by omega)]; omega
    have hb := m_andNot (sh t 64) k
    have hw := wr1
    go_enter Tryd.func37, Tryd.ntmps37
    go_wp2_with fail
    refine (has_yes _ _ _ _ H.out.po hk).mono ?_
    rintro e w' ⟨rfl, rfl⟩
    go_wp2_with fail
    refine (taken_yes _ _ _ _ H.out hk).mono ?_
    rw [HT.out]
    rintro e w' ⟨rfl, m, rfl⟩
    go_wp2_with fail
    go_region_with (go_at_call 47; refine (mask_any k (by omega)).mono ?_; rintro e w' ⟨rfl, rfl⟩)
    all_goals
      go_wp2
      go_ret
      exact ⟨rfl, (H.out.drew _).put1 k false hk (by omega), (Only.drew _ _ _).trans (Only.setCellAt _ _ _ _)⟩

theorem give_arg (a : Option Addr) (n : Nat) (t : Nat → Bool) (page : Int) (h : Po w a n t) (hk : page < 0 ∨ (n : Int) ≤ page) :
    Calls Tryd.prog 37 #[.pointer a, .int .i64 page] w fun e w' => e = .returned (.int .i64 1) ∧ w = w' := by
  have H := Lib.hid h
  have HK := Lib.hid hk
  clear h hk
  go_enter Tryd.func37, Tryd.ntmps37
  go_wp2_with fail
  refine (has_no _ _ _ _ H.out HK.out).mono ?_
  rintro e w' ⟨rfl, rfl⟩
  go_wp2
  go_ret
  exact ⟨rfl, rfl⟩
theorem give_none (p n : Nat) (t : Nat → Bool) (k : Nat) (h : Pl w p n t) (hk : k < n) (ht : t k = false) :
    Calls Tryd.prog 37 #[.pointer (some ⟨p, 0, none⟩), .int .i64 k] w fun e w' => e = .returned (.int .i64 6) ∧ Pl w' p n t ∧ Only p w w' := by
  have H := Lib.hid h
  have HT := Lib.hid ht
  clear h ht
  go_enter Tryd.func37, Tryd.ntmps37
  go_wp2_with fail
  refine (has_yes _ _ _ _ H.out.po hk).mono ?_
  rintro e w' ⟨rfl, rfl⟩
  go_wp2_with fail
  refine (taken_yes _ _ _ _ H.out hk).mono ?_
  rw [HT.out]
  rintro e w' ⟨rfl, m, rfl⟩
  go_wp2
  go_ret
  exact ⟨rfl, H.out.drew _, Only.drew _ _ _⟩

/-- The error of giving a page, and the pool behind it. -/
def gvE (n : Nat) (t : Nat → Bool) (page : Int) : Int := if page < 0 ∨ (n : Int) ≤ page then 1 else if t page.toNat then 0 else 6
def gvT (n : Nat) (t : Nat → Bool) (page : Int) : Nat → Bool := if gvE n t page = 0 then upd t page.toNat false else t
theorem give_any (p n : Nat) (t : Nat → Bool) (page : Int) (h : Pl w p n t) :
    Calls Tryd.prog 37 #[.pointer (some ⟨p, 0, none⟩), .int .i64 page] w fun e w' => e = .returned (.int .i64 (gvE n t page)) ∧ Pl w' p n (gvT n t page) ∧ Only p w w' := by
  by_cases hk : page < 0 ∨ (n : Int) ≤ page
  · have e : gvE n t page = 1 := by unfold gvE; rw [if_pos hk]
    unfold gvT
    rw [e, if_neg (by decide)]
    exact (give_arg _ n t page h.po hk).mono fun _ _ ⟨he, hw⟩ => by subst hw; exact ⟨he, h, Only.refl _ _⟩
  · obtain ⟨k, rfl⟩ := Int.eq_ofNat_of_zero_le (show 0 ≤ page by omega)
    have hkn : k < n := by omega
    cases ht : t k with
    | true =>
      have e : gvE n t (k : Int) = 0 := by unfold gvE; rw [if_neg hk]; simp [ht]
      unfold gvT
      rw [e, if_pos rfl]
      exact give_ok p n t k h hkn ht
    | false =>
      have e : gvE n t (k : Int) = 6 := by unfold gvE; rw [if_neg hk]; simp [ht]
      unfold gvT
      rw [e, if_neg (by decide)]
      exact give_none p n t k h hkn ht
end
end Go.Proofs.YthblpnnbkjhmhaaDoor.Pool
