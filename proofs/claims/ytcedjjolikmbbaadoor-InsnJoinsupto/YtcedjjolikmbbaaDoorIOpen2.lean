/- Bytes and instructions that a law is handed, as the walks ask them. No condition. -/
import Derived.Test.YtcedjjolikmbbaaDoorIRows
import Derived.Test.YtcedjjolikmbbaaDoorIOpen
import Derived.Laws.BytesArg
import Derived.Deep.Slices
namespace Go.Proofs.YtcedjjolikmbbaaDoor
open Go.RowKit Go.Deep
set_option maxRecDepth 100000
theorem cells8 : Tryd.prog.cellsOf 5 = 1 := by kernel_rfl
def byteOf (c : Option Value) : Nat := match c with | some (.int .u8 v) => v.toNat | _ => 0

theorem range_at {α : Type} (n : Nat) (f : Nat → α) (i : Nat) (y : α) (h : ((List.range n).map f)[i]? = some y) : i < n ∧ y = f i := by
  rcases Nat.lt_or_ge i n with hlt | hge
  · simp [hlt] at h
    exact ⟨hlt, h.symm⟩
  · rw [List.getElem?_eq_none (by simpa using hge)] at h; cases h

theorem bytes_of {H : Type} {enc : TypeId × Value → H} {W : World} {base : Nat} {sp : Nat → Bool} {held : Bool} {fuel : Nat} {A : Option Addr} {len cap : Nat} {x : DataW H × List MemPlace}
    (h : DataW.trod enc Tryd.prog W base sp held fuel 40 (Value.cells (.slice A len cap)).toList = some x) : ∃ bs, Rd W A len cap bs := by
  rcases open_slice Tryd.underlying40 h with ⟨h0, _⟩ | ⟨a, l, c, m, n, D, Pl, hcs, _, hl, hm, hmm, _, hi⟩
  · simp [Value.cells] at h0
    obtain ⟨rfl, rfl, rfl⟩ := h0
    exact ⟨[], fun i y hi => by simp at hi, rfl, Nat.le_refl _, by omega, fun _ => rfl⟩
  · simp [Value.cells] at hcs
    obtain ⟨rfl, rfl, rfl⟩ := hcs
    have hmx : cap ≤ 9223372036854775807 := by simpa [maxLen] using hm
    have hlm : len ≤ m := by rw [hmm]; split <;> omega
    rw [cells8] at hi
    by_cases hz : len = 0
    · subst hz
      exact ⟨[], fun i y hi => by simp at hi, rfl, hl, hmx, fun e => by cases e⟩
    obtain ⟨cs0, hc0, _⟩ := hi 0 (by omega)
    obtain ⟨_, hl0, hat0⟩ := World.cells?_some hc0
    obtain ⟨b, o, spot⟩ := a
    have hspot : spot = none := by
      have h1 := hat0 0 (by omega)
      rw [List.getElem?_eq_getElem (show 0 < cs0.length by omega)] at h1
      simpa [Addr.add] using World.cell?_spot h1
    subst hspot
    refine ⟨(List.range len).map fun i => byteOf (W.cell? ⟨b, o + i, none⟩), fun i y hy => ?_, by simp, hl, hmx, fun e => by cases e⟩
    obtain ⟨hil, rfl⟩ := range_at _ _ _ _ hy
    obtain ⟨cs, hc, hd⟩ := hi i (by omega)
    obtain ⟨_, hcl, hat⟩ := World.cells?_some hc
    obtain ⟨v, e0, _, w1⟩ := DataW.trod_int Tryd.underlying5 hd
    subst e0
    have a0 := hat 0 (by simp)
    simp at a0
    have ea : Addr.add (Addr.add ⟨b, o, none⟩ i) 0 = ⟨b, o + i, none⟩ := by
      unfold Addr.add
      by_cases h1 : i = 0 <;> simp [h1]
    rw [ea] at a0
    have hb : b < W.heap.size := by
      rcases Nat.lt_or_ge b W.heap.size with hlt | hge
      · exact hlt
      · unfold World.cell? at a0
        rw [Array.getElem?_eq_none hge] at a0
        cases a0
    have hv := bounds_u8 w1
    have hby : byteOf (some (.int .u8 v)) = v.toNat := rfl
    rw [a0, hby]
    exact ⟨b, o, rfl, hb, by rw [show ((v.toNat : Nat) : Int) = v by omega]; exact a0, by omega⟩

theorem list_of {α : Type} (R : Nat → α → Prop) : ∀ n : Nat, (∀ i, i < n → ∃ x, R i x) → ∃ l : List α, l.length = n ∧ ∀ i x, l[i]? = some x → R i x
  | 0, _ => ⟨[], rfl, fun i x hx => by simp at hx⟩
  | n + 1, h => by
    obtain ⟨l, hl, hr⟩ := list_of R n fun i hi => h i (by omega)
    obtain ⟨x, hx⟩ := h n (by omega)
    refine ⟨l ++ [x], by simp [hl], fun i y hy => ?_⟩
    rcases Nat.lt_or_ge i n with hlt | hge
    · rw [List.getElem?_append_left (by omega)] at hy
      exact hr i y hy
    · have hi := (List.getElem?_eq_some_iff.1 hy).1
      simp [hl] at hi
      obtain rfl : i = n := by omega
      rw [List.getElem?_append_right (by omega)] at hy
      simp [hl] at hy
      exact hy ▸ hx
theorem add2 (b o k j : Nat) : Addr.add (Addr.add ⟨b, o, none⟩ k) j = ⟨b, o + k + j, none⟩ := by
  unfold Addr.add
  by_cases h1 : k = 0 <;> by_cases h2 : j = 0 <;> simp [h1, h2]
theorem insns_of {H : Type} {enc : TypeId × Value → H} {W : World} {base : Nat} {sp : Nat → Bool} {held : Bool} {fuel : Nat} {A : Option Addr} {len cap : Nat} {x : DataW H × List MemPlace}
    (h : DataW.trod enc Tryd.prog W base sp held fuel 39 (Value.cells (.slice A len cap)).toList = some x) : ∃ l, Ri W A len cap l := by
  rcases open_slice Tryd.underlying39 h with ⟨h0, _⟩ | ⟨a, l, c, m, n, D, Pl, hcs, _, hl, hm, hmm, _, hi⟩
  · simp [Value.cells] at h0
    obtain ⟨rfl, rfl, rfl⟩ := h0
    exact ⟨[], fun i y hi => by simp at hi, rfl, Nat.le_refl _, by omega⟩
  · simp [Value.cells] at hcs
    obtain ⟨rfl, rfl, rfl⟩ := hcs
    have hmx : cap ≤ 9223372036854775807 := by simpa [maxLen] using hm
    have hlm : len ≤ m := by rw [hmm]; split <;> omega
    rw [cells5I] at hi
    by_cases hz : len = 0
    · subst hz
      exact ⟨[], fun i y hi => by simp at hi, rfl, hl, hmx⟩
    obtain ⟨cs0, hc0, _⟩ := hi 0 (by omega)
    obtain ⟨_, hl0, hat0⟩ := World.cells?_some hc0
    obtain ⟨b, o, spot⟩ := a
    have hspot : spot = none := by
      have h1 := hat0 0 (by omega)
      rw [List.getElem?_eq_getElem (show 0 < cs0.length by omega)] at h1
      simpa [Addr.add] using World.cell?_spot h1
    subst hspot
    obtain ⟨fs, hfl, hfs⟩ := list_of (fun i (f : In) => b < W.heap.size ∧ f.ok ∧
        W.cell? ⟨b, o + i * 5, none⟩ = some (.int .u8 f.op) ∧ W.cell? ⟨b, o + i * 5 + 1, none⟩ = some (.int .u8 f.a) ∧ W.cell? ⟨b, o + i * 5 + 2, none⟩ = some (.int .u8 f.b) ∧
        W.cell? ⟨b, o + i * 5 + 3, none⟩ = some (.int .u8 f.c) ∧ W.cell? ⟨b, o + i * 5 + 4, none⟩ = some (.int .u32 f.im)) len (fun i hil => by
      obtain ⟨cs, hc, hd⟩ := hi i (by omega)
      obtain ⟨_, hcl, hat⟩ := World.cells?_some hc
      obtain ⟨f, hf, rfl⟩ := insn_cells hd
      have a0 := hat 0 (by decide)
      have a1 := hat 1 (by decide)
      have a2 := hat 2 (by decide)
      have a3 := hat 3 (by decide)
      have a4 := hat 4 (by decide)
      rw [add2] at a0 a1 a2 a3 a4
      have hb : b < W.heap.size := by
        rcases Nat.lt_or_ge b W.heap.size with hlt | hge
        · exact hlt
        · unfold World.cell? at a0
          rw [Array.getElem?_eq_none hge] at a0
          cases a0
      exact ⟨f, hb, hf, a0, a1, a2, a3, a4⟩)
    exact ⟨fs, fun i f hif => ⟨b, o, rfl, hfs i f hif⟩, hfl, hl, hmx⟩
theorem bytes8I : Tryd.prog.bytesOf 24 = 8 := by kernel_rfl
/-- With the form's own reach. -/
theorem insns_sized {H : Type} {enc : TypeId × Value → H} {W : World} {base : Nat} {sp : Nat → Bool} {held : Bool} {fuel : Nat} {A : Option Addr} {len cap : Nat} {d : DataW H} {ps : List MemPlace}
    (h : DataW.trod enc Tryd.prog W base sp held fuel 39 (Value.cells (.slice A len cap)).toList = some (d, ps))
    (hw : ∀ elems spare, d = .slice elems spare → (elems.length + spare.length) * Tryd.prog.bytesOf 24 ≤ reachBytes) : (∃ l, Ri W A len cap l) ∧ len ≤ 17592186043904 := by
  refine ⟨insns_of h, ?_⟩
  rcases open_slice Tryd.underlying39 h with ⟨h0, _⟩ | ⟨a, l, c, m, n, D, Pl, hcs, _, hl, hm, hmm, hx, _⟩
  · simp [Value.cells] at h0
    omega
  · simp [Value.cells] at hcs
    obtain ⟨rfl, rfl, rfl⟩ := hcs
    injection hx with hx _
    have := hw _ _ hx
    rw [bytes8I] at this
    simp [reachBytes] at this
    omega
end Go.Proofs.YtcedjjolikmbbaaDoor
