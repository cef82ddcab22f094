/- The contracts of the document's answers that make a new list: Lay, Store, Fill; and Bytes, which cuts one. Condition: the list's cells are known. -/
import Derived.Test.YtbdnijpbgbplaaaDoorRef
namespace Go.Proofs.YtbdnijpbgbplaaaDoor
open Go.RowKit

/-- A memory with k bytes h laid down at a place. -/
def layF (f : Nat → Int) (at_ : Nat) (h : Nat → Int) (k : Nat) : Nat → Int := fun j => if at_ ≤ j ∧ j < at_ + k then h (j - at_) else f j
theorem layF_zero (f : Nat → Int) (at_ : Nat) (h : Nat → Int) : layF f at_ h 0 = f := by
  funext j; unfold layF; rw [if_neg (by omega)]
theorem layF_succ (f : Nat → Int) (at_ : Nat) (h : Nat → Int) (k : Nat) : (fun j => if j = at_ + k then h k else layF f at_ h k j) = layF f at_ h (k + 1) := by
  funext j
  unfold layF
  by_cases e : j = at_ + k
  · subst e
    rw [if_pos rfl, if_pos (by omega)]
    congr 1
    omega
  · rw [if_neg e]
    by_cases h : at_ ≤ j ∧ j < at_ + k
    · rw [if_pos h, if_pos (by omega)]
    · rw [if_neg h, if_neg (by omega)]

/-- What a new list is known to be. -/
def NewSl (w : World) (N : Nat) (F : Nat → Int) (e : Ending) (w' : World) : Prop :=
  ∃ g c, e = .returned (.slice (some ⟨g, 0, none⟩) N c) ∧ Sl w' w.heap.size g N c F ∧ Below w.heap.size w w'

/-- Small bytes that are read: a list that is nil where it is empty, or begins at a block's head. -/
def Few (w : World) (A : Option Addr) (k : Nat) (h : Nat → Int) : Prop := ∀ i, i < k → ∃ q, A = some ⟨q, 0, none⟩ ∧ q < w.heap.size ∧ w.cell? ⟨q, i, none⟩ = some (.int .u8 (h i))

theorem row_news {w : World} {B g N c : Nat} {f : Nat → Int} (h : Sl w B g N c f) : ∀ j u, (row N f).toList[j]? = some u → w.cell? (Addr.add ⟨g, 0, none⟩ j) = some u := by
  intro j u hu
  have hj : j < N := by
    rcases Nat.lt_or_ge j N with hlt | hge
    · exact hlt
    · rw [Array.getElem?_toList, Array.getElem?_eq_none (by rw [row_size]; exact hge)] at hu; cases hu
  rw [Array.getElem?_toList, row_at _ _ _ hj] at hu
  have ea : Addr.add ⟨g, 0, none⟩ j = ⟨g, j, none⟩ := by unfold Addr.add; split <;> simp_all
  rw [ea, h.cell j hj, hu]
theorem row_ones (N : Nat) (f : Nat → Int) : ∀ u ∈ (row N f).toList, u.oneCell' = true := by
  intro u hu
  simp [row] at hu
  obtain ⟨_, _, rfl⟩ := hu
  rfl

section
variable {w : World}
set_option maxRecDepth 100000 in
theorem lay_any (B g N c : Nat) (f : Nat → Int) (at_ : Nat) (A : Option Addr) (k cp : Nat) (h : Nat → Int) (hN : N ≤ 65536) (hS : Sl w B g N c f) (hp : Few w A k h) (hfit : at_ + k ≤ N) :
    Calls Tryd.prog 25 #[.slice (some ⟨g, 0, none⟩) N c, .int .i64 at_, .slice A k cp] w (NewSl w N (layF f at_ h k)) := by
  obtain ⟨i0, hi, hz0, hz1, hz2⟩ := info_parts Tryd.info5
  have HI := Lib.hid hi
  have HZ0 := Lib.hid hz0
  have HZ1 := Lib.hid hz1
  have HZ2 := Lib.hid hz2
  have HS := Lib.hid hS
  have HP := Lib.hid hp
  clear hS hp hi hz0 hz1 hz2
  have HO := Lib.hid (World.ownsRow_lit (base := w.heap.size) (e := 5) (size := 1) w #[] 0 (Nat.le_refl _) (by decide) rfl)
  have N1 := Lib.hid (row_news (HS.out.alloc (.cells #[] 5)))
  have N2 := Lib.hid (row_ones N f)
  go_enter Tryd.func25, Tryd.ntmps25
  go_wp2_with (at_builtin; refine wpList_append_own _ rfl (.tmp 9) (.tmp 10) 29 rfl w.heap.size 5 i0 (.int .u8 0) 1 1 Tryd.underlying29 HI.out HZ0.out HZ1.out HZ2.out rfl (by decide) _ 0 [] rfl HO.out ⟨g, 0, none⟩ N c (row N f).toList rfl (by simp [row]) N1.out N2.out (by unfold maxLen; omega) (by omega) (by simp) ?_)
  intro v' w1 hown hgrow hnil
  have hv : ∃ g' c', v' = .slice (some ⟨g', 0, none⟩) N c' := by
    rcases hown.2 with ⟨h', _⟩ | ⟨g', cap', cur, h', _⟩
    · exact absurd h' hnil
    · exact ⟨g', cap', by simpa using h'⟩
  obtain ⟨g', c', hv⟩ := hv
  have HL : Hid (Sl w1 w.heap.size g' N c' f) := by
    show Sl w1 w.heap.size g' N c' f
    unfold Sl
    rw [hv] at hown
    simpa using hown
  have HB : Hid (Below w.heap.size w w1) := ((Below.refl _ _).alloc (Nat.le_refl _) (.cells #[] 5)).grown hgrow (by simp) (fun q hq => by simp [Value.ownBlock] at hq; omega)
  rw [hv]
  clear hv hown hgrow hnil HO HI HZ0 HZ1 HZ2
  go_wp2_with fail
  go_loopw [8] (fun i wr => ∃ m : Nat, m ≤ k ∧ i = .int .i64 m ∧ Sl wr w.heap.size g' N c' (layF f at_ h m) ∧ Below w.heap.size w wr) (fun i _ => k - (intOf i).toNat)
  case atStart => exact ⟨0, Nat.zero_le _, rfl, by rw [layF_zero]; exact HL.out, HB.out⟩
  case round =>
    obtain ⟨m, hm, rfl, hR, hb⟩ := hrel
    have HR := Lib.hid hR
    have HB' := Lib.hid hb
    clear hR hb
    by_cases hlt : m < k
    · obtain ⟨q, hA, hq, hcq⟩ := HP.out m hlt
      rw [hA]
      have hc1 := (HB'.out.cell (p := ⟨q, m, none⟩) hq).trans hcq
      have hc2 := HR.out.cell (at_ + m) (by omega)
      have hfz := HR.out.frozen (at_ + m)
      clear hcq hA
      go_wp2
      go_roundw
      case rel =>
        refine ⟨m + 1, by omega, by go_num, ?_, ?_⟩
        · rw [← layF_succ]
          exact HR.out.put (at_ + m) (h m)
        · exact HB'.out.setCell (p := ⟨g', at_ + m, none⟩) HR.out.lt.1 _
      case measure => simp [intOf]; omega
    · obtain rfl : k = m := by omega
      go_wp2
      go_ret
      exact ⟨g', c', rfl, HR.out, HB'.out⟩
end
end Go.Proofs.YtbdnijpbgbplaaaDoor
