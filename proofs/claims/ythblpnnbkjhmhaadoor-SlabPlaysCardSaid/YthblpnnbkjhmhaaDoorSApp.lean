/- append of a slice of places, nil or not, onto a row that the call made. No condition. -/
import Derived.Test.YthblpnnbkjhmhaaDoorSRFree
import Derived.Laws.AppendOwnNone
namespace Go.Proofs.YthblpnnbkjhmhaaDoor
open Go.RowKit

theorem sg_row {w : World} {B : Bd} {B' n cap : Nat} {A : Option Addr} {xs : List Nat} (h : w.ownsRow B' 3 1 (.slice A n cap) n (ints xs)) (hB : ∀ k, B' ≤ k → B.b ≤ k ∧ k ≠ B.t) : Sg w B A xs ∧ xs.length = n ∧ n ≤ cap ∧ (A = none → cap = 0) := by
  have hl : xs.length = n := by have := h.1; simp [ints] at this; exact this
  refine ⟨Sg.of_row h hB, hl, ?_, ?_⟩
  · rcases h.2 with ⟨h1, h2⟩ | ⟨g, c, cur, h1, _, _, h4, _⟩
    · omega
    · simp only [Value.slice.injEq, true_and] at h1
      obtain ⟨_, rfl⟩ := h1
      exact h4
  · rintro rfl
    rcases h.2 with ⟨h1, h2⟩ | ⟨g, c, cur, h1, _⟩
    · simp only [Value.slice.injEq, true_and] at h1
      exact h1.2
    · simp at h1
theorem ints_app (xs ys : List Nat) : ints (xs ++ ys) = ints xs ++ ints ys := by simp [ints]
theorem ints_len (xs : List Nat) : (ints xs).length = xs.length := by simp [ints]
theorem wpList_app {w : World} {ops : Array Oper} {rest : List Oper} {o : Oper} {a : Act} {Q : Exit → Act → World → Prop} (hgd : o.guard = none) (s x : Operand)
    (ho : o.op = .call { callee := .builtin .append, args := #[s, x], argTypes := #[34, 34] })
    (base : Nat) (B : Bd) (n m c : Nat) (v : Value) (xs news : List Nat) (A : Option Addr) (hs : a.eval s = v) (hown : w.ownsRow base 3 1 v n (ints xs)) (hx : a.eval x = .slice A m c)
    (hsg : Sg w B A news) (hm : news.length = m) (hz : A = none → c = 0) (hb : n + m ≤ 1000) (hbase : base ≤ w.heap.size)
    (h : ∀ v' w', w'.ownsRow base 3 1 v' (n + m) (ints (xs ++ news)) → w.grownBy w' v.ownBlock → wpList Tryd.prog ops Q rest (a.put o.dst v') w') : wpList Tryd.prog ops Q (o :: rest) a w := by
  obtain ⟨i0, hi, hz0, hz1, hz2⟩ := info_parts Tryd.info3
  cases A with
  | none =>
    have hn : news = [] := by
      cases news with
      | nil => rfl
      | cons y ys =>
        obtain ⟨b, o, e, _⟩ := hsg 0 y rfl
        cases e
    subst hn
    have hm0 : m = 0 := hm.symm
    subst hm0
    rw [hz rfl] at hx
    refine wpList_append_own_none hgd s x 34 ho base 3 i0 1 Tryd.underlying34 hi v n (ints xs) hs hown hx (h v w ?_ ⟨rfl, rfl, rfl, Nat.le_refl _, fun _ _ _ => rfl⟩)
    rw [List.append_nil]
    exact hown
  | some ad =>
    refine wpList_append_own w hgd s x 34 ho base 3 i0 (.int .i64 0) 1 8 Tryd.underlying34 hi hz0 hz1 hz2 rfl (by decide) v n (ints xs) hs hown ad m c (ints news) hx (by rw [ints_len, hm, Nat.mul_one]) ?_ (ints_one _) (by unfold maxLen; omega) (by omega) hbase ?_
    · intro j u hu
      obtain ⟨y, hy, rfl⟩ := ints_at hu
      obtain ⟨b, o, e, _, _, hc⟩ := hsg j y hy
      cases e
      rw [addr_add]
      exact hc
    · intro v' w' h1 h2 _
      rw [← ints_app] at h1
      exact h v' w' h1 h2
end Go.Proofs.YthblpnnbkjhmhaaDoor
