/- The types that a law is handed, as the walk asks them. No condition. -/
import Derived.Test.YtnkjlocjfljjlaaTWords
import Derived.Deep.Slices
import Derived.ChangeArms
import Derived.ProofKit
import Derived.OpenShut
import Derived.Lib.SmallJoins
namespace Go.Proofs.Ytnkjlocjfljjlaa
open Go.RowKit Go.Deep
set_option maxRecDepth 100000

theorem cells53 : Try.prog.cellsOf 53 = 5 := by kernel_rfl
theorem cells32 : Try.prog.cellsOf 32 = 4 := by kernel_rfl
theorem cellsI : Try.prog.cellsOf 3 = 1 := by kernel_rfl
theorem cellsS : Try.prog.cellsOf 9 = 1 := by kernel_rfl
theorem cellsB : Try.prog.cellsOf 4 = 1 := by kernel_rfl
theorem cellsF : Try.prog.cellsOf 30 = 1 := by kernel_rfl
theorem list_of {α : Type} (R : Nat → α → Prop) : ∀ n : Nat, (∀ i, i < n → ∃ x, R i x) → ∃ l : List α, l.length = n ∧ ∀ i x, l[i]? = some x → R i x
  | 0, _ => ⟨[], rfl, fun i x hx => by simp at hx⟩
  | n + 1, h => by
    obtain ⟨l, hl, hr⟩ := list_of R n fun i hi => h i (by omega)
    obtain ⟨x, hx⟩ := h n (by omega)
    refine ⟨l ++ [x], by simp [hl], fun i y hy => ?_⟩
    rcases Nat.lt_or_ge i n with hlt | hge
    · rw [List.getElem?_append_left (by omega)] at hy
      exact hr i y hy
    · have hi := (List.getElem?_eq_some_iff.1 hy).1
      simp [hl] at hi
      obtain rfl : i = n := by omega
      rw [List.getElem?_append_right (by omega)] at hy
      simp [hl] at hy
      exact hy ▸ hx
theorem add2 (b o k j : Nat) : Addr.add (Addr.add ⟨b, o, none⟩ k) j = ⟨b, o + k + j, none⟩ := by
  unfold Addr.add
  by_cases h1 : k = 0 <;> by_cases h2 : j = 0 <;> simp [h1, h2]
theorem blk_lt {W : World} {b o : Nat} {v : Value} (h : W.cell? ⟨b, o, none⟩ = some v) : b < W.heap.size := by
  rcases Nat.lt_or_ge b W.heap.size with hlt | hge
  · exact hlt
  · unfold World.cell? at h
    rw [Array.getElem?_eq_none hge] at h
    cases h
theorem rg_of {n : Int} (h : (Lit.int .i64 n).wf = true) : Rg n := bounds_i64 h
section
variable {H : Type} {enc : TypeId × Value → H} {W : World} {base : Nat} {sp : Nat → Bool} {held : Bool} {fuel : Nat} {x : DataW H × List MemPlace}
theorem fields_of {cs : List Value} (h : DataW.trod enc Try.prog W base sp held fuel 30 cs = some x) : ∃ FA fk fc fs, cs = [.slice FA fk fc] ∧ Lf W FA fk fc fs := by
  rcases open_slice Try.underlying30 h with ⟨h0, _⟩ | ⟨a, l, c, m, n, D, Pl, hcs, _, hl, hm, hmm, _, hi⟩
  · exact ⟨none, 0, 0, [], h0, fun i y hi => by simp at hi, rfl, Nat.le_refl _, by omega⟩
  · have hmx : c ≤ 9223372036854775807 := by simpa [maxLen] using hm
    have hlm : l ≤ m := by rw [hmm]; split <;> omega
    rw [cells53] at hi
    by_cases hz : l = 0
    · subst hz
      exact ⟨some a, 0, c, [], hcs, fun i y hi => by simp at hi, rfl, hl, hmx⟩
    obtain ⟨cs0, hc0, _⟩ := hi 0 (by omega)
    obtain ⟨_, hl0, hat0⟩ := World.cells?_some hc0
    obtain ⟨b, o, spot⟩ := a
    have hspot : spot = none := by
      have h1 := hat0 0 (by omega)
      rw [List.getElem?_eq_getElem (show 0 < cs0.length by omega)] at h1
      simpa [Addr.add] using World.cell?_spot h1
    subst hspot
    obtain ⟨fs, hfl, hfs⟩ := list_of (fun i (f : Fd) => b < W.heap.size ∧ f.ok ∧
        W.cell? ⟨b, o + i * 5, none⟩ = some (.int .i64 f.kind) ∧ W.cell? ⟨b, o + i * 5 + 1, none⟩ = some (.int .i64 f.len) ∧ W.cell? ⟨b, o + i * 5 + 2, none⟩ = some (.int .i64 f.ty) ∧
        W.cell? ⟨b, o + i * 5 + 3, none⟩ = some (.int .i64 f.link) ∧ W.cell? ⟨b, o + i * 5 + 4, none⟩ = some (.int .i64 f.key)) l (fun i hil => by
      obtain ⟨cs, hc, hd⟩ := hi i (by omega)
      obtain ⟨_, hcl, hat⟩ := World.cells?_some hc
      obtain ⟨xs, n', _, _, _, hxl, hf⟩ := DataW.trod_struct Try.underlying53 hd
      match cs, hcl, hat, hf with
      | [v0, v1, v2, v3, v4], _, hat, hf =>
        have hx : ∀ j, j < 5 → ∃ y, xs[j]? = some y := fun j hj => ⟨xs[j]'(by simp at hxl; omega), List.getElem?_eq_getElem (by simp at hxl; omega)⟩
        obtain ⟨y0, hy0⟩ := hx 0 (by decide)
        obtain ⟨y1, hy1⟩ := hx 1 (by decide)
        obtain ⟨y2, hy2⟩ := hx 2 (by decide)
        obtain ⟨y3, hy3⟩ := hx 3 (by decide)
        obtain ⟨y4, hy4⟩ := hx 4 (by decide)
        obtain ⟨n0, e0, _, w0⟩ := DataW.trod_int Try.underlying3 ((hf 0 _ rfl).trans hy0)
        obtain ⟨n1, e1, _, w1⟩ := DataW.trod_int Try.underlying3 ((hf 1 _ rfl).trans hy1)
        obtain ⟨n2, e2, _, w2⟩ := DataW.trod_int Try.underlying3 ((hf 2 _ rfl).trans hy2)
        obtain ⟨n3, e3, _, w3⟩ := DataW.trod_int Try.underlying3 ((hf 3 _ rfl).trans hy3)
        obtain ⟨n4, e4, _, w4⟩ := DataW.trod_int Try.underlying3 ((hf 4 _ rfl).trans hy4)
        simp [cellsI] at e0 e1 e2 e3 e4
        subst e0 e1 e2 e3 e4
        have a0 := hat 0 (by decide)
        have a1 := hat 1 (by decide)
        have a2 := hat 2 (by decide)
        have a3 := hat 3 (by decide)
        have a4 := hat 4 (by decide)
        rw [add2] at a0 a1 a2 a3 a4
        exact ⟨⟨n0, n1, n2, n3, n4⟩, blk_lt a0, ⟨rg_of w0, rg_of w1, rg_of w2, rg_of w3, rg_of w4⟩, a0, a1, a2, a3, a4⟩)
    exact ⟨some ⟨b, o, none⟩, l, c, fs, hcs, fun i f hif => ⟨b, o, rfl, hfs i f hif⟩, hfl, hl, hmx⟩
theorem types_of {A : Option Addr} {len cap : Nat}
    (h : DataW.trod enc Try.prog W base sp held fuel 22 (Value.cells (.slice A len cap)).toList = some x) : ∃ ts, Lt W A len cap ts := by
  rcases open_slice Try.underlying22 h with ⟨h0, _⟩ | ⟨a, l, c, m, n, D, Pl, hcs, _, hl, hm, hmm, _, hi⟩
  · simp [Value.cells] at h0
    obtain ⟨rfl, rfl, rfl⟩ := h0
    exact ⟨[], fun i y hi => by simp at hi, rfl, Nat.le_refl _, by omega⟩
  · simp [Value.cells] at hcs
    obtain ⟨rfl, rfl, rfl⟩ := hcs
    have hmx : cap ≤ 9223372036854775807 := by simpa [maxLen] using hm
    have hlm : len ≤ m := by rw [hmm]; split <;> omega
    rw [cells32] at hi
    by_cases hz : len = 0
    · subst hz
      exact ⟨[], fun i y hi => by simp at hi, rfl, hl, hmx⟩
    obtain ⟨cs0, hc0, _⟩ := hi 0 (by omega)
    obtain ⟨_, hl0, hat0⟩ := World.cells?_some hc0
    obtain ⟨b, o, spot⟩ := a
    have hspot : spot = none := by
      have h1 := hat0 0 (by omega)
      rw [List.getElem?_eq_getElem (show 0 < cs0.length by omega)] at h1
      simpa [Addr.add] using World.cell?_spot h1
    subst hspot
    obtain ⟨ts, htl, hts⟩ := list_of (fun i (t : Ty) => ∃ FA fk fc, b < W.heap.size ∧ t.name.size ≤ 9223372036854775807 ∧
        W.cell? ⟨b, o + i * 4, none⟩ = some (.string t.name) ∧ W.cell? ⟨b, o + i * 4 + 1, none⟩ = some (.bool t.value) ∧ W.cell? ⟨b, o + i * 4 + 2, none⟩ = some (.bool t.refs) ∧
        W.cell? ⟨b, o + i * 4 + 3, none⟩ = some (.slice FA fk fc) ∧ Lf W FA fk fc t.fields) len (fun i hil => by
      obtain ⟨cs, hc, hd⟩ := hi i (by omega)
      obtain ⟨_, hcl, hat⟩ := World.cells?_some hc
      obtain ⟨xs, n', _, _, _, hxl, hf⟩ := DataW.trod_struct Try.underlying32 hd
      match cs, hcl, hat, hf with
      | [v0, v1, v2, v3], _, hat, hf =>
        have hx : ∀ j, j < 4 → ∃ y, xs[j]? = some y := fun j hj => ⟨xs[j]'(by simp at hxl; omega), List.getElem?_eq_getElem (by simp at hxl; omega)⟩
        obtain ⟨y0, hy0⟩ := hx 0 (by decide)
        obtain ⟨y1, hy1⟩ := hx 1 (by decide)
        obtain ⟨y2, hy2⟩ := hx 2 (by decide)
        obtain ⟨y3, hy3⟩ := hx 3 (by decide)
        obtain ⟨s0, e0, _, w0⟩ := DataW.trod_string Try.underlying9 ((hf 0 _ rfl).trans hy0)
        obtain ⟨b1, e1, _⟩ := DataW.trod_bool Try.underlying4 ((hf 1 _ rfl).trans hy1)
        obtain ⟨b2, e2, _⟩ := DataW.trod_bool Try.underlying4 ((hf 2 _ rfl).trans hy2)
        obtain ⟨FA, fk, fc, fs, e3, hLf⟩ := fields_of ((hf 3 _ rfl).trans hy3)
        simp [cellsS, cellsB, cellsF] at e0 e1 e2 e3
        subst e0 e1 e2 e3
        have a0 := hat 0 (by decide)
        have a1 := hat 1 (by decide)
        have a2 := hat 2 (by decide)
        have a3 := hat 3 (by decide)
        rw [add2] at a0 a1 a2 a3
        exact ⟨⟨s0, b1, b2, fs⟩, FA, fk, fc, blk_lt a0, by simpa [maxLen] using w0, a0, a1, a2, a3, hLf⟩)
    refine ⟨ts, fun i t hit => ?_, htl, hl, hmx⟩
    obtain ⟨FA, fk, fc, r⟩ := hts i t hit
    exact ⟨b, o, FA, fk, fc, rfl, r⟩
theorem type_of {r : Reach} {b0 : Nat} {v : Value} {d : DataW H} {p : List MemPlace} (hv : Value.okWide Try.prog W r b0 32 v) (h : DataW.Trod enc Try.prog W base sp held 32 v d p) :
    ∃ (t : Ty) (FA : Option Addr) (fk fc : Nat), v = .agg #[.string t.name, .bool t.value, .bool t.refs, .slice FA fk fc] ∧ t.name.size ≤ 9223372036854775807 ∧ Lf W FA fk fc t.fields := by
  obtain ⟨v0, v1, v2, v3, y0, y1, y2, y3, n, rfl, _, _, t0, t1, t2, t3⟩ := Go.Joins.open_agg4 Try.underlying32 (by kernel_rfl) cells32 hv h
  obtain ⟨s0, e0, _, w0⟩ := DataW.trod_string Try.underlying9 t0
  obtain ⟨b1, e1, _⟩ := DataW.trod_bool Try.underlying4 t1
  obtain ⟨b2, e2, _⟩ := DataW.trod_bool Try.underlying4 t2
  obtain ⟨FA, fk, fc, fs, e3, hLf⟩ := fields_of t3
  simp at e0 e1 e2 e3
  subst e0 e1 e2 e3
  exact ⟨⟨s0, b1, b2, fs⟩, FA, fk, fc, rfl, by simpa [maxLen] using w0, hLf⟩
end
end Go.Proofs.Ytnkjlocjfljjlaa
