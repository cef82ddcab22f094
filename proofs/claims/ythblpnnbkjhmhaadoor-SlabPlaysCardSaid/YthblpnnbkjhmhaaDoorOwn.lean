/- Words for rows of one-cell values that a call itself made: the cells as a function from places to values. No condition. -/
import Derived.Test.YthblpnnbkjhmhaaDoorWords
import Derived.Laws.AppendOwn
import Derived.OwnWalk
namespace Go.Proofs.YthblpnnbkjhmhaaDoor
open Go.RowKit

/-- The first N values. -/
def vals (N : Nat) (h : Nat → Value) : List Value := (List.range N).map h
theorem vals_len (N : Nat) (h : Nat → Value) : (vals N h).length = N := by simp [vals]
theorem vals_at (N : Nat) (h : Nat → Value) (i : Nat) (hi : i < N) : (vals N h)[i]? = some (h i) := by simp [vals, hi]
theorem vals_snoc (N : Nat) (h : Nat → Value) : vals N h ++ [h N] = vals (N + 1) h := by simp [vals, List.range_succ]
theorem vals_congr {N : Nat} {h h' : Nat → Value} (e : ∀ i, i < N → h i = h' i) : vals N h = vals N h' := by
  unfold vals
  apply List.map_congr_left
  intro i hi
  exact e i (by simpa using hi)
theorem vals_set (N : Nat) (h : Nat → Value) (i : Nat) (u : Value) : (vals N h).set i u = vals N (fun j => if j = i then u else h j) := by
  apply List.ext_getElem?
  intro j
  rw [List.getElem?_set, vals_len]
  by_cases hj : j < N
  · rw [vals_at _ _ j hj, vals_at _ _ j hj]
    by_cases e : i = j
    · subst e; simp [hj]
    · have e' : ¬ j = i := fun h => e h.symm
      simp [e, e']
  · have h1 : (vals N h)[j]? = none := by simp [vals]; omega
    have h2 : (vals N (fun j => if j = i then u else h j))[j]? = none := by simp [vals]; omega
    rw [h1, h2]
    split <;> simp_all
theorem vals_replicate (N : Nat) (v : Value) : List.replicate N v = vals N fun _ => v := by
  apply List.ext_getElem?
  intro j
  by_cases hj : j < N
  · rw [vals_at _ _ j hj]; simp [hj]
  · simp [vals, hj]

/-- A row of N values, h, that the call itself made: its array is block g, from block B on. -/
def Ow (w : World) (B : Nat) (e : TypeId) (g N c : Nat) (h : Nat → Value) : Prop := w.ownsRow B e 1 (.slice (some ⟨g, 0, none⟩) N c) N (vals N h)
section
variable {w w' : World} {B g N c : Nat} {e : TypeId} {h : Nat → Value}
theorem Ow.cell (o : Ow w B e g N c h) (i : Nat) (hi : i < N) : w.cell? ⟨g, i, none⟩ = some (h i) := by
  have := World.ownsRow.cellAt o i (by omega)
  rw [this, vals_at _ _ _ hi]
theorem Ow.frozen (o : Ow w B e g N c h) (i : Nat) : w.frozen? ⟨g, i, none⟩ = false := World.ownsRow.frozenAt o i
theorem Ow.lt (o : Ow w B e g N c h) : B ≤ g ∧ g < w.heap.size := World.ownsRow.lt o g rfl
theorem Ow.cap (o : Ow w B e g N c h) : N ≤ c := by
  rcases o.2 with ⟨h', _⟩ | ⟨g', cap', cur, h', _, _, hnc, _⟩
  · simp at h'
  · simp only [Value.slice.injEq, Option.some.injEq, Addr.mk.injEq, and_true, true_and] at h'
    obtain ⟨rfl, rfl⟩ := h'
    exact hnc
theorem Ow.block (o : Ow w B e g N c h) (eq : w'.heap[g]? = w.heap[g]?) : Ow w' B e g N c h := by
  refine ⟨o.1, ?_⟩
  rcases o.2 with ⟨h', _⟩ | ⟨g', cap', cur, h', h1, h2, h3⟩
  · simp at h'
  · refine .inr ⟨g', cap', cur, h', h1, ?_, h3⟩
    simp only [Value.slice.injEq, Option.some.injEq, Addr.mk.injEq, and_true, true_and] at h'
    obtain ⟨rfl, rfl⟩ := h'
    exact eq.trans h2
theorem Ow.below {B' : Nat} (o : Ow w B e g N c h) (hb : Below B' w w') (hg : g < B') : Ow w' B e g N c h := o.block (hb.block g hg)
theorem Ow.only {g' : Nat} (o : Ow w B e g N c h) (hb : Only g' w w') (hg : g ≠ g') : Ow w' B e g N c h := o.block (hb.block g hg)
theorem Ow.drew (o : Ow w B e g N c h) (m : Nat) : Ow (w.drewN m) B e g N c h := o.block rfl
theorem Ow.alloc (o : Ow w B e g N c h) (ob : Obj) : Ow (w.alloc ob) B e g N c h := World.ownsRow.alloc o ob
theorem Ow.congr {h' : Nat → Value} (o : Ow w B e g N c h) (eq : ∀ i, i < N → h i = h' i) : Ow w B e g N c h' := by
  unfold Ow; rw [← vals_congr eq]; exact o
theorem Ow.less {B' : Nat} (o : Ow w B e g N c h) (hB : B' ≤ B) : Ow w B' e g N c h := by
  refine ⟨o.1, ?_⟩
  rcases o.2 with ⟨h', _⟩ | ⟨g', cap', cur, h', h1, h2⟩
  · simp at h'
  · exact .inr ⟨g', cap', cur, h', by omega, h2⟩
theorem Ow.put (o : Ow w B e g N c h) (i : Nat) (u : Value) : Ow (w.setCell ⟨g, i, none⟩ u) B e g N c (fun j => if j = i then u else h j) := by
  have := (World.ownsRow.stored o i u).1
  rw [vals_set] at this
  exact this
/-- What an append leaves, where it is not nil. -/
theorem Ow.of_own {v : Value} {xs : List Value} (o : w.ownsRow B e 1 v N xs) (hx : xs = vals N h) (hn : 0 < N) : ∃ g c, v = .slice (some ⟨g, 0, none⟩) N c ∧ Ow w B e g N c h := by
  subst hx
  rcases o.2 with ⟨_, h'⟩ | ⟨g', cap', cur, h', h1⟩
  · have := vals_len N h
    rw [h'] at this
    simp at this
    omega
  · exact ⟨g', cap', h', by unfold Ow; rw [← h']; exact o⟩
/-- The cells of a row, as 'wpList_append_own' asks them of its source. -/
theorem Ow.news (o : Ow w B e g N c h) : ∀ j u, (vals N h)[j]? = some u → w.cell? (Addr.add ⟨g, 0, none⟩ j) = some u := by
  intro j u hu
  have hj : j < N := by
    rcases Nat.lt_or_ge j N with hlt | hge
    · exact hlt
    · simp [vals, hge] at hu
  rw [vals_at _ _ _ hj] at hu
  have ea : Addr.add ⟨g, 0, none⟩ j = ⟨g, j, none⟩ := by unfold Addr.add; split <;> simp_all
  rw [ea, o.cell j hj, hu]
end
theorem vals_ones (N : Nat) (h : Nat → Value) (hh : ∀ i, (h i).oneCell' = true) : ∀ u ∈ vals N h, u.oneCell' = true := by
  intro u hu
  simp [vals] at hu
  obtain ⟨i, _, rfl⟩ := hu
  exact hh i
/-- The one cell of a block that was just laid. -/
theorem one_news (w : World) (v : Value) (t : TypeId) : ∀ j u, [v][j]? = some u → (w.alloc (.cells #[v] t)).cell? (Addr.add ⟨w.heap.size, 0, none⟩ j) = some u := by
  intro j u hu
  match j, hu with
  | 0, hu =>
    have e : v = u := by simpa using hu
    rw [← e]
    simp [Addr.add]
end Go.Proofs.YthblpnnbkjhmhaaDoor
