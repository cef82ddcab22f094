/- Rows of fields and of types that a call lays: as lists of cells, and read again. No condition. -/
import Derived.Test.YtnkjlocjfljjlaaTLayout
namespace Go.Proofs.Ytnkjlocjfljjlaa
open Go.RowKit

def fc5 (f : Fd) : List Value := [.int .i64 f.kind, .int .i64 f.len, .int .i64 f.ty, .int .i64 f.link, .int .i64 f.key]
def fcs (fs : List Fd) : List Value := fs.flatMap fc5
theorem fcs_len (fs : List Fd) : (fcs fs).length = fs.length * 5 := by
  induction fs with
  | nil => rfl
  | cons f r ih => simp only [fcs, List.flatMap_cons, List.length_append, List.length_cons] at ih ⊢; rw [ih]; simp [fc5]; omega
theorem fcs_app (a b : List Fd) : fcs (a ++ b) = fcs a ++ fcs b := by simp [fcs]
theorem fcs_one (fs : List Fd) : ∀ u ∈ fcs fs, u.oneCell' = true := by
  intro u hu
  simp only [fcs, List.mem_flatMap] at hu
  obtain ⟨f, _, h⟩ := hu
  simp [fc5] at h
  rcases h with rfl | rfl | rfl | rfl | rfl <;> rfl
theorem fcs_at : ∀ {fs : List Fd} {i : Nat} {f : Fd}, fs[i]? = some f → ∀ j u, (fc5 f)[j]? = some u → (fcs fs)[i * 5 + j]? = some u
  | [], i, f, h, _, _, _ => by simp at h
  | a :: r, 0, f, h, j, u, hu => by
    simp at h
    subst h
    have hj : j < 5 := by
      have := (List.getElem?_eq_some_iff.1 hu).1
      simpa [fc5] using this
    simp only [fcs, List.flatMap_cons, Nat.zero_mul, Nat.zero_add]
    rw [List.getElem?_append_left (by simp [fc5]; exact hj)]
    exact hu
  | a :: r, i + 1, f, h, j, u, hu => by
    have := fcs_at (fs := r) (i := i) (by simpa using h) j u hu
    simp only [fcs, List.flatMap_cons] at this ⊢
    rw [List.getElem?_append_right (by simp [fc5]; omega)]
    have e : (i + 1) * 5 + j - (fc5 a).length = i * 5 + j := by simp [fc5]; omega
    rw [e]
    exact this
/-- A type with the slice that its fields lie in. -/
structure Tq where
  t : Ty
  A : Option Addr
  k : Nat
  c : Nat
def tc4 (q : Tq) : List Value := [.string q.t.name, .bool q.t.value, .bool q.t.refs, .slice q.A q.k q.c]
def tcs (l : List Tq) : List Value := l.flatMap tc4
theorem tcs_len (l : List Tq) : (tcs l).length = l.length * 4 := by
  induction l with
  | nil => rfl
  | cons f r ih => simp only [tcs, List.flatMap_cons, List.length_append, List.length_cons] at ih ⊢; rw [ih]; simp [tc4]; omega
theorem tcs_app (a b : List Tq) : tcs (a ++ b) = tcs a ++ tcs b := by simp [tcs]
theorem tcs_one (l : List Tq) : ∀ u ∈ tcs l, u.oneCell' = true := by
  intro u hu
  simp only [tcs, List.mem_flatMap] at hu
  obtain ⟨f, _, h⟩ := hu
  simp [tc4] at h
  rcases h with rfl | rfl | rfl | rfl <;> rfl
theorem tcs_at : ∀ {l : List Tq} {i : Nat} {q : Tq}, l[i]? = some q → ∀ j u, (tc4 q)[j]? = some u → (tcs l)[i * 4 + j]? = some u
  | [], i, f, h, _, _, _ => by simp at h
  | a :: r, 0, f, h, j, u, hu => by
    simp at h
    subst h
    have hj : j < 4 := by
      have := (List.getElem?_eq_some_iff.1 hu).1
      simpa [tc4] using this
    simp only [tcs, List.flatMap_cons, Nat.zero_mul, Nat.zero_add]
    rw [List.getElem?_append_left (by simp [tc4]; exact hj)]
    exact hu
  | a :: r, i + 1, f, h, j, u, hu => by
    have := tcs_at (l := r) (i := i) (by simpa using h) j u hu
    simp only [tcs, List.flatMap_cons] at this ⊢
    rw [List.getElem?_append_right (by simp [tc4]; omega)]
    have e : (i + 1) * 4 + j - (tc4 a).length = i * 4 + j := by simp [tc4]; omega
    rw [e]
    exact this
theorem Lf.of {w : World} {g n cap : Nat} {fs : List Fd} (hg : g < w.heap.size) (h : ∀ j u, (fcs fs)[j]? = some u → w.cell? ⟨g, j, none⟩ = some u) (hok : ∀ f ∈ fs, f.ok) (hn : fs.length = n) (hc : n ≤ cap) (hm : cap ≤ 9223372036854775807) : Lf w (some ⟨g, 0, none⟩) n cap fs :=
  ⟨fun i f hf => ⟨g, 0, rfl, hg, hok f (List.mem_of_getElem? hf), by rw [Nat.zero_add]; exact h _ _ (fcs_at hf 0 _ rfl), by rw [Nat.zero_add]; exact h _ _ (fcs_at hf 1 _ rfl), by rw [Nat.zero_add]; exact h _ _ (fcs_at hf 2 _ rfl), by rw [Nat.zero_add]; exact h _ _ (fcs_at hf 3 _ rfl), by rw [Nat.zero_add]; exact h _ _ (fcs_at hf 4 _ rfl)⟩, hn, hc, hm⟩
theorem Lt.of {w : World} {g n cap : Nat} {l : List Tq} (hg : g < w.heap.size) (h : ∀ j u, (tcs l)[j]? = some u → w.cell? ⟨g, j, none⟩ = some u) (hq : ∀ q ∈ l, q.t.name.size ≤ 9223372036854775807 ∧ Lf w q.A q.k q.c q.t.fields) (hn : l.length = n) (hc : n ≤ cap) (hm : cap ≤ 9223372036854775807) : Lt w (some ⟨g, 0, none⟩) n cap (l.map (·.t)) :=
  ⟨fun i t ht => by
    simp only [List.getElem?_map, Option.map_eq_some_iff] at ht
    obtain ⟨q, hqi, rfl⟩ := ht
    have := hq q (List.mem_of_getElem? hqi)
    refine ⟨g, 0, q.A, q.k, q.c, rfl, hg, this.1, ?_, ?_, ?_, ?_, this.2⟩
    · rw [Nat.zero_add]; exact h _ _ (tcs_at hqi 0 _ rfl)
    · rw [Nat.zero_add]; exact h _ _ (tcs_at hqi 1 _ rfl)
    · rw [Nat.zero_add]; exact h _ _ (tcs_at hqi 2 _ rfl)
    · rw [Nat.zero_add]; exact h _ _ (tcs_at hqi 3 _ rfl), by rw [List.length_map]; exact hn, hc, hm⟩
theorem Lf.blk {w : World} {g n : Nat} {fs : List Fd} {cs : Array Value} {t : TypeId} (hb : Blk w g t cs) (hcs : cs = (fcs fs).toArray) (hok : ∀ f ∈ fs, f.ok) (hn : fs.length = n) (hm : n ≤ 9223372036854775807) : Lf w (some ⟨g, 0, none⟩) n n fs :=
  Lf.of hb.lt (fun j u hu => by rw [hb.cell, hcs]; simpa using hu) hok hn (Nat.le_refl _) hm
theorem Lt.blk {w : World} {g n : Nat} {l : List Tq} {cs : Array Value} {t : TypeId} (hb : Blk w g t cs) (hcs : cs = (tcs l).toArray) (hq : ∀ q ∈ l, q.t.name.size ≤ 9223372036854775807 ∧ Lf w q.A q.k q.c q.t.fields) (hn : l.length = n) (hm : n ≤ 9223372036854775807) : Lt w (some ⟨g, 0, none⟩) n n (l.map (·.t)) :=
  Lt.of hb.lt (fun j u hu => by rw [hb.cell, hcs]; simpa using hu) hq hn (Nat.le_refl _) hm
end Go.Proofs.Ytnkjlocjfljjlaa
