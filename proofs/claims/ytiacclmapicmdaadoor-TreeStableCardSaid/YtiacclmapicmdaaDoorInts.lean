/- Slices of places in memory: such that can be read, rows that a call made, append of the one to the other. No condition. -/
import Derived.Test.YtiacclmapicmdaaDoorProg
import Derived.Test.YtiacclmapicmdaaDoorWords
import Derived.Laws.AppendOwn
import Derived.Laws.AppendOwnNone
import Derived.OwnWalk
import Derived.Deep.AppendLies
namespace Go.Proofs.YtiacclmapicmdaaDoor
open Go.RowKit

theorem intInfo : (Tryd.prog.info? 3).map (fun i => (i.zero, i.size, i.bytes)) = some (some (.int .i64 0), 1, 8) := by kernel_rfl
def intx (xs : List Nat) : List Value := xs.map fun a => Value.int .i64 (a : Nat)
theorem intx_len (xs : List Nat) : (intx xs).length = xs.length := by simp [intx]
theorem intx_app (xs ys : List Nat) : intx (xs ++ ys) = intx xs ++ intx ys := by simp [intx]
theorem intx_one (xs : List Nat) : ∀ u ∈ intx xs, u.oneCell' = true := by
  intro u hu
  simp [intx] at hu
  obtain ⟨a, _, rfl⟩ := hu
  rfl
theorem intx_at {xs : List Nat} {j : Nat} {u : Value} (h : (intx xs)[j]? = some u) : ∃ y, xs[j]? = some y ∧ u = .int .i64 (y : Nat) := by
  simp [intx] at h
  obtain ⟨y, h1, h2⟩ := h
  exact ⟨y, h1, h2.symm⟩

/-- Blocks from b on, but for t. -/
structure Bx where
  b : Nat
  t : Nat
/-- A slice that holds xs, in such blocks. -/
def Sx (w : World) (B : Bx) (A : Option Addr) (xs : List Nat) : Prop := ∀ j x, xs[j]? = some x → ∃ b o, A = some ⟨b, o, none⟩ ∧ (B.b ≤ b ∧ b ≠ B.t) ∧ b < w.heap.size ∧ w.cell? ⟨b, o + j, none⟩ = some (.int .i64 (x : Nat))
/-- Nothing that was there in such blocks has turned. -/
def Kx (B : Bx) (w w' : World) : Prop := w.heap.size ≤ w'.heap.size ∧ ∀ k, (B.b ≤ k ∧ k ≠ B.t) → k < w.heap.size → w'.heap[k]? = w.heap[k]?
/-- A row of places that the call itself made, from block B on. -/
structure Rx (w : World) (B : Nat) (A : Option Addr) (cap : Nat) (xs : List Nat) : Prop where
  row : w.ownsRow B 3 1 (.slice A xs.length cap) xs.length (intx xs)
section
variable {w w' w'' : World} {B : Bx} {b cap : Nat} {A : Option Addr} {xs : List Nat}
theorem Kx.below (h : Below w.heap.size w w') : Kx B w w' := ⟨h.size, fun k _ hk => h.block k hk⟩
theorem Kx.refl : Kx B w w := ⟨Nat.le_refl _, fun _ _ _ => rfl⟩
theorem Kx.trans (h : Kx B w w') (k : Kx B w' w'') : Kx B w w'' := ⟨Nat.le_trans h.1 k.1, fun i h1 h2 => (k.2 i h1 (Nat.lt_of_lt_of_le h2 h.1)).trans (h.2 i h1 h2)⟩
theorem Kx.cell (h : Kx B w w') {b o : Nat} (h1 : B.b ≤ b ∧ b ≠ B.t) (h2 : b < w.heap.size) : w'.cell? ⟨b, o, none⟩ = w.cell? ⟨b, o, none⟩ := World.cell?_of_block (h.2 b h1 h2)
theorem Sx.keep (h : Sx w B A xs) (hk : Kx B w w') : Sx w' B A xs := fun j x hx => by
  obtain ⟨b, o, e, h1, h2, h3⟩ := h j x hx
  exact ⟨b, o, e, h1, Nat.lt_of_lt_of_le h2 hk.1, (hk.cell h1 h2).trans h3⟩
theorem Sx.nil (w : World) (B : Bx) (A : Option Addr) : Sx w B A [] := fun _ _ h => by simp at h
theorem Sx.drop {b o : Nat} (h : Sx w B (some ⟨b, o, none⟩) xs) (k : Nat) : Sx w B (some ⟨b, o + k, none⟩) (xs.drop k) := fun j x hx => by
  rw [List.getElem?_drop] at hx
  obtain ⟨b', o', e, h1, h2, h3⟩ := h (k + j) x hx
  cases e
  exact ⟨b, o + k, rfl, h1, h2, by rw [Nat.add_assoc]; exact h3⟩
theorem Sx.take (h : Sx w B A xs) (k : Nat) : Sx w B A (xs.take k) := fun j x hx => by
  rw [List.getElem?_take] at hx
  split at hx
  · exact h j x hx
  · cases hx
theorem Rx.keep (h : Rx w b A cap xs) (e : ∀ k, b ≤ k → k < w.heap.size → w'.heap[k]? = w.heap[k]?) : Rx w' b A cap xs := by
  refine ⟨⟨h.row.1, ?_⟩⟩
  rcases h.row.2 with h' | ⟨g, c, cur, h1, h2, h3, h4⟩
  · exact .inl h'
  · have hlt : g < w.heap.size := (Array.getElem?_eq_some_iff.1 h3).1
    exact .inr ⟨g, c, cur, h1, h2, (e g h2 hlt).trans h3, h4⟩
theorem Rx.below (h : Rx w b A cap xs) (hb : Below w.heap.size w w') : Rx w' b A cap xs := h.keep fun k _ h2 => hb.block k h2
theorem Rx.nil (w : World) (b : Nat) : Rx w b none 0 [] := ⟨World.ownsRow_nil w b 3 1⟩
theorem Rx.own (h : Rx w b A cap xs) : ∀ r, (Value.slice A xs.length cap).ownBlock = some r → b ≤ r := fun r e => (World.ownsRow.lt h.row r e).1
theorem ownsRow_less {b' n : Nat} {e : TypeId} {size : Nat} {v : Value} {ys : List Value} (h : w.ownsRow b e size v n ys) (hb : b' ≤ b) : w.ownsRow b' e size v n ys := by
  refine ⟨h.1, ?_⟩
  rcases h.2 with h' | ⟨g, c, cur, h1, h2, h3⟩
  · exact .inl h'
  · exact .inr ⟨g, c, cur, h1, by omega, h3⟩
theorem Rx.less {b' : Nat} (h : Rx w b A cap xs) (hb : b' ≤ b) : Rx w b' A cap xs := ⟨ownsRow_less h.row hb⟩
theorem Rx.caps (h : Rx w b A cap xs) : xs.length ≤ cap ∧ (A = none → cap = 0) ∧ cap ≤ maxLen := by
  rcases h.row.2 with ⟨h1, h2⟩ | ⟨g, c, cur, h1, _, _, h4, h5, _⟩
  · simp only [Value.slice.injEq] at h1
    refine ⟨by omega, fun _ => h1.2.2, by rw [h1.2.2]; unfold maxLen; omega⟩
  · simp only [Value.slice.injEq, true_and] at h1
    obtain ⟨rfl, rfl⟩ := h1
    exact ⟨h4, fun e => (by cases e), h5⟩
theorem Rx.sx (h : Rx w b A cap xs) (hB : ∀ k, b ≤ k → B.b ≤ k ∧ k ≠ B.t) : Sx w B A xs := fun j x hx => by
  have hj := (List.getElem?_eq_some_iff.1 hx).1
  rcases h.row.2 with ⟨h1, h2⟩ | ⟨g, c, cur, h1, h2, h3, h4, h5, h6, h7⟩
  · omega
  · have hlt : g < w.heap.size := (Array.getElem?_eq_some_iff.1 h3).1
    have hr := h.row
    rw [h1] at hr
    simp only [Value.slice.injEq, true_and] at h1
    obtain ⟨rfl, rfl⟩ := h1
    refine ⟨g, 0, rfl, hB g h2, hlt, ?_⟩
    rw [Nat.zero_add, World.ownsRow.cellAt hr j (by omega)]
    simp [intx, hx]
theorem Rx.of {v : Value} {n : Nat} (h : w.ownsRow b 3 1 v n (intx xs)) : ∃ A cap, v = .slice A xs.length cap ∧ n = xs.length ∧ Rx w b A cap xs := by
  have hl : xs.length = n := by have := h.1; simp [intx] at this; exact this
  subst hl
  rcases h.2 with ⟨h1, h0⟩ | ⟨g, c, cur, h1, h2⟩
  · rw [h0]
    exact ⟨none, 0, h1, rfl, ⟨by rw [h0]; rw [← h0]; rw [h0, ← h1, ← h0]; exact h⟩⟩
  · exact ⟨some ⟨g, 0, none⟩, c, h1, rfl, ⟨by rw [← h1]; exact h⟩⟩
theorem below_grown {B : Nat} {row : Option Nat} (hg : w.grownBy w' row) (hB : B ≤ w.heap.size) (hr : ∀ r, row = some r → B ≤ r) : Below B w w' := (Below.refl B w).grown hg hB hr
end
theorem addr_plus (b o j : Nat) : Addr.add ⟨b, o, none⟩ j = ⟨b, o + j, none⟩ := by unfold Addr.add; split <;> simp_all
theorem sx_one (w : World) (B : Bx) (a : Nat) (h : B.b ≤ w.heap.size ∧ B.t < w.heap.size) : Sx (w.alloc (.cells #[.int .i64 (a : Nat)] 3)) B (some ⟨w.heap.size, 0, none⟩) [a] := fun j x hx => by
  match j, hx with
  | 0, hx =>
    have e : a = x := by simpa using hx
    subst e
    exact ⟨w.heap.size, 0, rfl, ⟨h.1, by omega⟩, by simp, (Blk.new w 3 #[.int .i64 (a : Nat)]).cell 0⟩
/-- append of a slice of places, nil or not, onto a row that the call made. -/
theorem wpList_xapp {w : World} {ops : Array Oper} {rest : List Oper} {o : Oper} {a : Act} {Q : Exit → Act → World → Prop} (hgd : o.guard = none) (s x : Operand)
    (ho : o.op = .call { callee := .builtin .append, args := #[s, x], argTypes := #[44, 44] })
    (base : Nat) (B : Bx) (n m c : Nat) (v : Value) (xs news : List Nat) (A : Option Addr) (hs : a.eval s = v) (hown : w.ownsRow base 3 1 v n (intx xs)) (hx : a.eval x = .slice A m c)
    (hsg : Sx w B A news) (hm : news.length = m) (hz : A = none → c = 0) (hb : n + m ≤ 100000) (hbase : base ≤ w.heap.size)
    (h : ∀ v' w', w'.ownsRow base 3 1 v' (n + m) (intx (xs ++ news)) → w.grownBy w' v.ownBlock → wpList Tryd.prog ops Q rest (a.put o.dst v') w') : wpList Tryd.prog ops Q (o :: rest) a w := by
  obtain ⟨i0, hi, hz0, hz1, hz2⟩ := info_parts intInfo
  cases A with
  | none =>
    have hn : news = [] := by
      cases news with
      | nil => rfl
      | cons y ys =>
        obtain ⟨b, o, e, _⟩ := hsg 0 y rfl
        cases e
    subst hn
    have hm0 : m = 0 := hm.symm
    subst hm0
    rw [hz rfl] at hx
    refine wpList_append_own_none hgd s x 44 ho base 3 i0 1 Tryd.underlying44 hi v n (intx xs) hs hown hx (h v w ?_ ⟨rfl, rfl, rfl, Nat.le_refl _, fun _ _ _ => rfl⟩)
    rw [List.append_nil]
    exact hown
  | some ad =>
    refine wpList_append_own w hgd s x 44 ho base 3 i0 (.int .i64 0) 1 8 Tryd.underlying44 hi hz0 hz1 hz2 rfl (by decide) v n (intx xs) hs hown ad m c (intx news) hx (by rw [intx_len, hm, Nat.mul_one]) ?_ (intx_one _) (by unfold maxLen; omega) (by omega) hbase ?_
    · intro j u hu
      obtain ⟨y, hy, rfl⟩ := intx_at hu
      obtain ⟨b, o, e, _, _, hc⟩ := hsg j y hy
      cases e
      rw [addr_plus]
      exact hc
    · intro v' w' h1 h2 _
      rw [← intx_app] at h1
      exact h v' w' h1 h2
end Go.Proofs.YtiacclmapicmdaaDoor
