/- What a law's walk asks: the slices that it is handed; strings of bytes. No condition. -/
import Derived.Test.YtnkjlocjfljjlaaWRTakeInts
import Derived.Laws.BytesArg
import Derived.Deep.Slices
import Derived.ChangeArms
import Derived.ProofKit
import Derived.OpenShut
namespace Go.Proofs.Ytnkjlocjfljjlaa
open Go.RowKit Go.Deep

theorem cells8 : Try.prog.cellsOf 5 = 1 := by kernel_rfl
theorem cells64 : Try.prog.cellsOf 3 = 1 := by kernel_rfl
def byteOf (c : Option Value) : Nat := match c with | some (.int .u8 v) => v.toNat | _ => 0
def numOf (c : Option Value) : Int := match c with | some (.int .i64 v) => v | _ => 0

theorem range_at {α : Type} (n : Nat) (f : Nat → α) (i : Nat) (y : α) (h : ((List.range n).map f)[i]? = some y) : i < n ∧ y = f i := by
  rcases Nat.lt_or_ge i n with hlt | hge
  · simp [hlt] at h
    exact ⟨hlt, h.symm⟩
  · rw [List.getElem?_eq_none (by simpa using hge)] at h; cases h

theorem bytes_of {H : Type} {enc : TypeId × Value → H} {W : World} {base : Nat} {sp : Nat → Bool} {held : Bool} {fuel : Nat} {A : Option Addr} {len cap : Nat} {x : DataW H × List MemPlace}
    (h : DataW.trod enc Try.prog W base sp held fuel 40 (Value.cells (.slice A len cap)).toList = some x) : ∃ bs, Rd W A len cap bs := by
  rcases open_slice Try.underlying40 h with ⟨h0, _⟩ | ⟨a, l, c, m, n, D, Pl, hcs, _, hl, hm, hmm, _, hi⟩
  · simp [Value.cells] at h0
    obtain ⟨rfl, rfl, rfl⟩ := h0
    exact ⟨[], fun i y hi => by simp at hi, rfl, Nat.le_refl _, by omega, fun _ => rfl⟩
  · simp [Value.cells] at hcs
    obtain ⟨rfl, rfl, rfl⟩ := hcs
    have hmx : cap ≤ 9223372036854775807 := by simpa [maxLen] using hm
    have hlm : len ≤ m := by rw [hmm]; split <;> omega
    rw [cells8] at hi
    by_cases hz : len = 0
    · subst hz
      exact ⟨[], fun i y hi => by simp at hi, rfl, hl, hmx, fun e => by cases e⟩
    obtain ⟨cs0, hc0, _⟩ := hi 0 (by omega)
    obtain ⟨_, hl0, hat0⟩ := World.cells?_some hc0
    obtain ⟨b, o, spot⟩ := a
    have hspot : spot = none := by
      have h1 := hat0 0 (by omega)
      rw [List.getElem?_eq_getElem (show 0 < cs0.length by omega)] at h1
      simpa [Addr.add] using World.cell?_spot h1
    subst hspot
    refine ⟨(List.range len).map fun i => byteOf (W.cell? ⟨b, o + i, none⟩), fun i y hy => ?_, by simp, hl, hmx, fun e => by cases e⟩
    obtain ⟨hil, rfl⟩ := range_at _ _ _ _ hy
    obtain ⟨cs, hc, hd⟩ := hi i (by omega)
    obtain ⟨_, hcl, hat⟩ := World.cells?_some hc
    obtain ⟨v, e0, _, w1⟩ := DataW.trod_int Try.underlying5 hd
    subst e0
    have a0 := hat 0 (by simp)
    simp at a0
    have ea : Addr.add (Addr.add ⟨b, o, none⟩ i) 0 = ⟨b, o + i, none⟩ := by
      unfold Addr.add
      by_cases h1 : i = 0 <;> simp [h1]
    rw [ea] at a0
    have hb : b < W.heap.size := by
      rcases Nat.lt_or_ge b W.heap.size with hlt | hge
      · exact hlt
      · unfold World.cell? at a0
        rw [Array.getElem?_eq_none hge] at a0
        cases a0
    have hv := bounds_u8 w1
    have hby : byteOf (some (.int .u8 v)) = v.toNat := rfl
    rw [a0, hby]
    exact ⟨b, o, rfl, hb, by rw [show ((v.toNat : Nat) : Int) = v by omega]; exact a0, by omega⟩

theorem ints_of {H : Type} {enc : TypeId × Value → H} {W : World} {base : Nat} {sp : Nat → Bool} {held : Bool} {fuel : Nat} {A : Option Addr} {len cap : Nat} {x : DataW H × List MemPlace}
    (h : DataW.trod enc Try.prog W base sp held fuel 33 (Value.cells (.slice A len cap)).toList = some x) : ∃ l, Li W A len cap l := by
  rcases open_slice Try.underlying33 h with ⟨h0, _⟩ | ⟨a, l, c, m, n, D, Pl, hcs, _, hl, hm, hmm, _, hi⟩
  · simp [Value.cells] at h0
    obtain ⟨rfl, rfl, rfl⟩ := h0
    exact ⟨[], fun i y hi => by simp at hi, fun x hx => by simp at hx, rfl, Nat.le_refl _, by omega⟩
  · simp [Value.cells] at hcs
    obtain ⟨rfl, rfl, rfl⟩ := hcs
    have hmx : cap ≤ 9223372036854775807 := by simpa [maxLen] using hm
    have hlm : len ≤ m := by rw [hmm]; split <;> omega
    rw [cells64] at hi
    by_cases hz : len = 0
    · subst hz
      exact ⟨[], fun i y hi => by simp at hi, fun x hx => by simp at hx, rfl, hl, hmx⟩
    obtain ⟨cs0, hc0, _⟩ := hi 0 (by omega)
    obtain ⟨_, hl0, hat0⟩ := World.cells?_some hc0
    obtain ⟨b, o, spot⟩ := a
    have hspot : spot = none := by
      have h1 := hat0 0 (by omega)
      rw [List.getElem?_eq_getElem (show 0 < cs0.length by omega)] at h1
      simpa [Addr.add] using World.cell?_spot h1
    subst hspot
    have at_ : ∀ i, i < len → ∃ v : Int, W.cell? ⟨b, o + i, none⟩ = some (.int .i64 v) ∧ (Lit.int .i64 v).wf = true := by
      intro i hil
      obtain ⟨cs, hc, hd⟩ := hi i (by omega)
      obtain ⟨_, hcl, hat⟩ := World.cells?_some hc
      obtain ⟨v, e0, _, w1⟩ := DataW.trod_int Try.underlying3 hd
      subst e0
      have a0 := hat 0 (by simp)
      simp at a0
      have ea : Addr.add (Addr.add ⟨b, o, none⟩ i) 0 = ⟨b, o + i, none⟩ := by
        unfold Addr.add
        by_cases h1 : i = 0 <;> simp [h1]
      rw [ea] at a0
      exact ⟨v, a0, w1⟩
    refine ⟨(List.range len).map fun i => numOf (W.cell? ⟨b, o + i, none⟩), fun i y hy => ?_, fun x hx => ?_, by simp, hl, hmx⟩
    · obtain ⟨hil, rfl⟩ := range_at _ _ _ _ hy
      obtain ⟨v, a0, _⟩ := at_ i hil
      have hb : b < W.heap.size := by
        rcases Nat.lt_or_ge b W.heap.size with hlt | hge
        · exact hlt
        · unfold World.cell? at a0
          rw [Array.getElem?_eq_none hge] at a0
          cases a0
      have hby : numOf (some (.int .i64 v)) = v := rfl
      rw [a0, hby]
      exact ⟨b, o, rfl, hb, a0⟩
    · simp only [List.mem_map, List.mem_range] at hx
      obtain ⟨i, hil, rfl⟩ := hx
      obtain ⟨v, a0, w1⟩ := at_ i hil
      have hby : numOf (some (.int .i64 v)) = v := rfl
      rw [a0, hby]
      exact bounds_i64 w1

theorem run_strA {w : World} {A : Option Addr} {k cap : Nat} {bs : List Nat} (h : Rd w A k cap bs) :
    (convert 40 9 (.slice A k cap)).run Try.prog w = .ok (.string (sb bs)) w := by
  rcases Nat.eq_zero_or_pos k with h0 | hp
  · have hb : bs = [] := List.eq_nil_of_length_eq_zero (by rw [h.len]; exact h0)
    subst hb
    subst h0
    cases A with
    | none => exact run_convert_bytes_nil (P := Try.prog) w 40 5 Try.underlying40 Try.underlying5 0 cap 9 Try.underlying9
    | some a => exact run_convert_bytes_back (P := Try.prog) w 40 9 5 a cap [] Try.underlying40 Try.underlying5 Try.underlying9 (by intro j hj; simp at hj)
  · exact run_str h hp
/-- A cut ahead of a slice. -/
theorem Rd.upto {w : World} {A : Option Addr} {k cap : Nat} {bs : List Nat} (h : Rd w A k cap bs) (c : Nat) (hc : c ≤ k) : Rd w A c cap (bs.take c) := by
  have hl := h.len
  have hle := h.le
  refine ⟨fun i y hi => ?_, by simp; omega, by omega, h.max, h.nil⟩
  have hic : i < c := by
    rcases Nat.lt_or_ge i c with hlt | hge
    · exact hlt
    · rw [List.getElem?_eq_none (by simp; omega)] at hi; cases hi
  rw [List.getElem?_take, if_pos hic] at hi
  exact h.cells i y hi
theorem txV_byt (bs : List Nat) (h : Byt bs) : Byt (txV bs) := by
  unfold txV
  split
  · exact byt_app (num_byt _) h
  · intro x hx; cases hx
theorem isV_byt (l : List Int) : Byt (isV l) := by
  unfold isV
  split
  · exact byt_app (num_byt _) (flat_byt _)
  · intro x hx; cases hx
theorem zs_fit {l : List Nat} (h : ∀ x ∈ l, x ≤ 2147483647) : Fit (zs l) := by
  intro x hx
  simp only [zs, List.mem_map] at hx
  obtain ⟨n, hn, rfl⟩ := hx
  have := h n hn
  omega
theorem iV_fit {bs : List Nat} (h : Byt bs) : Fit (zs (iV bs)) := by
  rcases i_cases bs h with ⟨_, _, h1, _⟩ | ⟨_, _, h1, _⟩
  · exact zs_fit h1
  · rw [h1]; intro x hx; cases hx
end Go.Proofs.Ytnkjlocjfljjlaa
