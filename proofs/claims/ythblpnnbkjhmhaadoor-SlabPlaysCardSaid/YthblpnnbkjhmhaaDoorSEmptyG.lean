/- Freeing: what is taken behind it; a slab of which nothing is taken; the count of a run of takings. No condition. -/
import Derived.Test.YthblpnnbkjhmhaaDoorSRows
import Derived.Deep.RegionLaw
import Derived.Deep.AppendLies
namespace Go.Proofs.YthblpnnbkjhmhaaDoor
open Go.RowKit

section
variable {n : Nat} {s : St}
theorem isB_iff (hI : Inv0 n s) (x : Nat) : isB n s x = true ↔ Tkn s (x / 512) x := by
  constructor
  · intro h
    obtain ⟨a, c, l, e, _, hs, hc0, hm, hal⟩ := isB_spec h
    obtain rfl : x = a := by omega
    have hC : IsC c := by have := hI.cls (x / 512); rw [hs] at this; rcases this with h | h; exact absurd h hc0; exact h
    obtain ⟨hj, hbk⟩ := blk_of hC hm
    unfold Tkn
    rw [hs]
    exact ⟨mem_blks.2 ⟨_, hj, hbk⟩, hal⟩
  · intro h
    exact (isB_tkn hI h).1
theorem frS_tkn (hI : Inv n s) {x : Nat} (hx : Tkn s (x / 512) x) (i b : Nat) : Tkn (frS n s x) i b ↔ Tkn s i b ∧ b ≠ x := by
  obtain ⟨b1, _, b3⟩ := isB_tkn hI.toInv0 hx
  have e1 : frS n s x = givG s (x / 512) x := by unfold frS; rw [b1, Int.toNat_natCast]; rfl
  have hoth : i ≠ x / 512 → Tkn s i b → b ≠ x := by
    rintro h1 h2 rfl
    exact h1 (isB_tkn hI.toInv0 h2).2.2.symm
  rw [e1]
  unfold givG
  generalize hs : s (x / 512) = pg
  obtain ⟨c, l⟩ := pg
  dsimp only
  have hx1 := hx.1
  have hx2 := hx.2
  rw [hs] at hx1 hx2
  cases hF : allF (x / 512) c (x :: l) with
  | true =>
    simp only [if_true]
    by_cases e : i = x / 512
    · subst e
      unfold Tkn
      rw [put_same, hs]
      constructor
      · rintro ⟨h, _⟩
        rw [blks_zero] at h
        cases h
      · rintro ⟨⟨h1, h2⟩, h3⟩
        unfold allF at hF
        rw [List.all_eq_true] at hF
        have := hF b h1
        simp [h3, h2] at this
    · have : Tkn (put s (x / 512) (0, [])) i b ↔ Tkn s i b := by unfold Tkn; rw [put_other _ _ e]
      rw [this]
      exact ⟨fun h => ⟨h, hoth e h⟩, fun h => h.1⟩
  | false =>
    simp only [Bool.false_eq_true, if_false]
    by_cases e : i = x / 512
    · subst e
      unfold Tkn
      rw [put_same, hs]
      simp only [List.mem_cons, not_or]
      constructor
      · rintro ⟨h1, h2, h3⟩; exact ⟨⟨h1, h3⟩, h2⟩
      · rintro ⟨⟨h1, h3⟩, h2⟩; exact ⟨h1, h2, h3⟩
    · have : Tkn (put s (x / 512) (c, x :: l)) i b ↔ Tkn s i b := by unfold Tkn; rw [put_other _ _ e]
      rw [this]
      exact ⟨fun h => ⟨h, hoth e h⟩, fun h => h.1⟩
theorem st0_of (hI : Inv n s) (h : ∀ i a, ¬ Tkn s i a) : s = st0 := by
  have h1 : ∀ i, (s i).1 = 0 := by
    intro i
    rcases Nat.eq_zero_or_pos (s i).1 with e | e
    · exact e
    · obtain ⟨a, ha, hb⟩ := hI.some i (by omega)
      exact absurd ⟨ha, hb⟩ (h i a)
  funext i
  exact Prod.ext (h1 i) (hI.none i (h1 i))
theorem usd0 : ∀ n, usd st0 n = 0
  | 0 => rfl
  | n + 1 => by unfold usd; rw [usd0 n]; simp [st0]
theorem pgs0 : ∀ n, pgs st0 n = 0
  | 0 => rfl
  | n + 1 => by unfold pgs; rw [pgs0 n]; simp [st0]

/-- All that is taken, each once. -/
structure All (s : St) (ats : List Nat) : Prop where
  tkn : ∀ i a, Tkn s i a ↔ a ∈ ats ∧ i = a / 512
  once : ats.Nodup
theorem All.nil : All st0 [] := ⟨fun i a => ⟨fun h => by have := h.1; simp [st0, blks_zero] at this, fun h => (nomatch h.1)⟩, List.nodup_nil⟩
theorem All.take {size : Int} {k a : Nat} {l ats : List Nat} {s1 : St} (h : All s ats) (hg : Got n s size k a l s1) (hI : Inv n s) : All (alS n s size) (ats ++ [a]) := by
  refine ⟨fun i b => ?_, ?_⟩
  · constructor
    · intro hb
      rcases hg.back hb with h1 | rfl
      · obtain ⟨h2, h3⟩ := (h.tkn i b).1 h1
        exact ⟨List.mem_append.2 (.inl h2), h3⟩
      · refine ⟨by simp, ?_⟩
        have hI' : Inv0 n (alS n s size) := by rw [hg.st]; exact inv0_pop hg.inv hg.at_
        exact (isB_tkn hI' hb).2.2.symm
    · rintro ⟨h1, rfl⟩
      rcases List.mem_append.1 h1 with h1 | h1
      · exact (hg.keep ((h.tkn _ b).2 ⟨h1, rfl⟩)).1
      · simp at h1
        subst h1
        rw [hg.page.1]
        exact hg.tkn
  · rw [List.nodup_append]
    refine ⟨h.once, by simp, ?_⟩
    intro x hx y hy
    simp at hy
    subst hy
    exact hg.new hI ((h.tkn _ x).2 ⟨hx, rfl⟩)
theorem All.give {ats : List Nat} (h : All s ats) (hI : Inv n s) {k x : Nat} (hk : ats[k]? = some x) : All (frS n s x) (ats.take k ++ ats.drop (k + 1)) ∧ Tkn s (x / 512) x := by
  have hlt := (List.getElem?_eq_some_iff.1 hk).1
  have hxe := (List.getElem?_eq_some_iff.1 hk).2
  have hsp : ats = ats.take k ++ x :: ats.drop (k + 1) := by
    rw [← hxe, ← List.drop_eq_getElem_cons hlt, List.take_append_drop]
  have hon := h.once
  rw [hsp, List.nodup_append] at hon
  obtain ⟨n1, n2, n3⟩ := hon
  obtain ⟨n4, n5⟩ := List.nodup_cons.1 n2
  have hxm : x ∈ ats := List.mem_of_getElem? hk
  have hx := (h.tkn _ x).2 ⟨hxm, rfl⟩
  refine ⟨⟨fun i b => ?_, ?_⟩, hx⟩
  · rw [frS_tkn hI hx, h.tkn i b]
    have hm : b ∈ ats ↔ b ∈ ats.take k ∨ b = x ∨ b ∈ ats.drop (k + 1) := by
      constructor
      · intro hb; rw [hsp] at hb; simpa using hb
      · intro hb; rw [hsp]; simpa using hb
    rw [hm, List.mem_append]
    constructor
    · rintro ⟨⟨h1 | h1 | h1, h2⟩, h3⟩
      · exact ⟨.inl h1, h2⟩
      · exact absurd h1 h3
      · exact ⟨.inr h1, h2⟩
    · rintro ⟨h1 | h1, h2⟩
      · exact ⟨⟨.inl h1, h2⟩, n3 b h1 x (by simp)⟩
      · exact ⟨⟨.inr (.inr h1), h2⟩, fun e => n4 (e ▸ h1)⟩
  · rw [List.nodup_append]
    exact ⟨n1, n5, fun a ha b hb => n3 a ha b (List.mem_cons_of_mem _ hb)⟩

/-- A run of takings: the state, how many were had. -/
def runs (n : Nat) (z : Nat → Int) : Nat → St × Nat
  | 0 => (st0, 0)
  | k + 1 => (alS n (runs n z k).1 (z k), if alE n (runs n z k).1 (z k) = 0 then (runs n z k).2 + 1 else (runs n z k).2)
theorem runs_le (n : Nat) (z : Nat → Int) : ∀ k, (runs n z k).2 ≤ k
  | 0 => Nat.le_refl _
  | k + 1 => by
    have := runs_le n z k
    unfold runs
    dsimp only
    split <;> omega
end
theorem sizes_fun {w : World} {A : Option Addr} {len : Nat} (h : Sizes w A len) : ∃ z : Nat → Nat, ∀ i, i < len → ∃ b o, A = some ⟨b, o, none⟩ ∧ b < w.heap.size ∧ w.cell? ⟨b, o + i, none⟩ = some (.int .u16 (z i : Nat)) ∧ z i < 65536 := by
  classical
  refine ⟨fun i => if hi : i < len then Classical.choose (Classical.choose_spec (Classical.choose_spec (h i hi))) else 0, fun i hi => ?_⟩
  refine ⟨Classical.choose (h i hi), Classical.choose (Classical.choose_spec (h i hi)), ?_⟩
  have := Classical.choose_spec (Classical.choose_spec (Classical.choose_spec (h i hi)))
  simp only [hi, dite_true]
  exact this

/-- append, as one step of a region that draws. -/
theorem step_append_own {P : Program} (w : World) {ops : Array Oper} {o : Oper} {a : Act} {K : Act → World → Prop} {Q : Exit → Act → World → Prop} {E : Prop} (hgd : o.guard = none) (s x : Operand) (t : TypeId)
    (ho : o.op = .call { callee := .builtin .append, args := #[s, x], argTypes := #[t, t] })
    (base : Nat) (e : TypeId) (i : TypeInfo) (z : Value) (size bytes : Nat) (ht : P.underlying t = some (.slice e)) (hi : P.info? e = some i) (hz : i.zero = some z)
    (hsize : i.size = size) (hby : i.bytes = bytes) (hzs : z.cells.size = size) (hsz : 0 < size)
    (v : Value) (n : Nat) (xs : List Value) (hs : a.eval s = v) (hown : w.ownsRow base e size v n xs)
    (ad : Addr) (m c : Nat) (news : List Value) (hx : a.eval x = .slice (some ad) m c) (hl : news.length = m * size) (hnews : ∀ j u, news[j]? = some u → w.cell? (ad.add j) = some u) (h1 : ∀ u ∈ news, u.oneCell' = true)
    (h63 : n + m ≤ maxLen) (hbytes : (n + m) * bytes ≤ 140737488355328) (hbase : base ≤ w.heap.size)
    (h : ∀ v' w', w'.ownsRow base e size v' (n + m) (xs ++ news) → w.grownBy w' v.ownBlock → K (a.put o.dst v') w') :
    if Region.wanted o (yielded ops a.tmps) = true then Oper.wp P o a w K Q else E := by
  have hw : Region.wanted o (yielded ops a.tmps) = true := by simp [Region.wanted, hgd]
  rw [if_pos hw]
  exact wp_append_own w s x t ho base e i z size bytes ht hi hz hsize hby hzs hsz v n xs hs hown ad m c news hx hl hnews h1 h63 hbytes hbase fun v' w' h2 h3 _ => h v' w' h2 h3
theorem row_form {w : World} {B n : Nat} {e : TypeId} {v : Value} {xs : List Value} (h : w.ownsRow B e 1 v n xs) : ∃ A c, v = .slice A n c := by
  rcases h.2 with ⟨rfl, rfl⟩ | ⟨g, c, cur, h1, _⟩
  · exact ⟨none, 0, rfl⟩
  · exact ⟨_, c, h1⟩
theorem row_at2 {w : World} {B n cap : Nat} {A : Option Addr} {xs : List Nat} (h : w.ownsRow B 3 1 (.slice A n cap) n (ints xs)) (hn : 0 < n) : ∃ g, A = some ⟨g, 0, none⟩ ∧ n ≤ cap ∧ g < w.heap.size ∧ B ≤ g ∧ xs.length = n ∧ ∀ (j x : Nat), xs[j]? = some x → w.cell? ⟨g, j, none⟩ = some (.int .i64 (x : Nat)) := by
  have hl : xs.length = n := by have := h.1; simp [ints] at this; exact this
  have h0 := h
  rcases h.2 with ⟨_, h0'⟩ | ⟨g, c, cur, h1, h2, h3, h4, _⟩
  · omega
  · simp only [Value.slice.injEq, true_and] at h1
    obtain ⟨rfl, rfl⟩ := h1
    refine ⟨g, rfl, h4, (Array.getElem?_eq_some_iff.1 h3).1, h2, hl, fun j x hx => ?_⟩
    have hj := (List.getElem?_eq_some_iff.1 hx).1
    rw [World.ownsRow.cellAt h0 j (by omega)]
    simp [ints, hx]
theorem row_keep {w w' : World} {B n : Nat} {e : TypeId} {v : Value} {xs : List Value} (h : w.ownsRow B e 1 v n xs) (hk : ∀ k, B ≤ k → k < w.heap.size → w'.heap[k]? = w.heap[k]?) : w'.ownsRow B e 1 v n xs := by
  refine ⟨h.1, ?_⟩
  rcases h.2 with h' | ⟨g, c, cur, h1, h2, h3, h4⟩
  · exact .inl h'
  · exact .inr ⟨g, c, cur, h1, h2, (hk g h2 (Array.getElem?_eq_some_iff.1 h3).1).trans h3, h4⟩
/-- The new row of no values. -/
theorem row_none (w : World) (B : Nat) (hB : B ≤ w.heap.size) : ((w.alloc (.cells #[] 3)).drew).ownsRow B 3 1 (.slice (some ⟨w.heap.size, 0, none⟩) 0 0) 0 [] :=
  ⟨rfl, .inr ⟨w.heap.size, 0, #[], rfl, hB, heap_alloc_new w _, Nat.le_refl _, by unfold maxLen; omega, rfl, rfl⟩⟩
theorem addr_add (g o j : Nat) : Addr.add ⟨g, o, none⟩ j = ⟨g, o + j, none⟩ := by
  unfold Addr.add
  by_cases h : j = 0 <;> simp [h]
theorem ints_one (xs : List Nat) : ∀ u ∈ ints xs, u.oneCell' = true := by
  intro u hu
  simp [ints] at hu
  obtain ⟨a, _, rfl⟩ := hu
  rfl
theorem ints_at {xs : List Nat} {j : Nat} {u : Value} (h : (ints xs)[j]? = some u) : ∃ x, xs[j]? = some x ∧ u = .int .i64 (x : Nat) := by
  simp [ints] at h
  obtain ⟨x, h1, h2⟩ := h
  exact ⟨x, h1, h2.symm⟩
end Go.Proofs.YthblpnnbkjhmhaaDoor
