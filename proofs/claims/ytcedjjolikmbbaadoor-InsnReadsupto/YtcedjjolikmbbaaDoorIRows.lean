/- Words for slices of instructions: one that can be read, a row that the call made, append of one. No condition. -/
import Derived.Test.YtcedjjolikmbbaaDoorIWords
import Derived.Test.YtcedjjolikmbbaaDoorWWords
import Derived.Deep.AppendLies
import Derived.Laws.MakeOwn
namespace Go.Proofs.YtcedjjolikmbbaaDoor
open Go.RowKit

def i5 (i : In) : List Value := [.int .u8 i.op, .int .u8 i.a, .int .u8 i.b, .int .u8 i.c, .int .u32 i.im]
def ics (l : List In) : List Value := l.flatMap i5
theorem ics_len (l : List In) : (ics l).length = l.length * 5 := by
  induction l with
  | nil => rfl
  | cons f r ih => simp only [ics, List.flatMap_cons, List.length_append, List.length_cons] at ih ⊢; rw [ih]; simp [i5]; omega
theorem ics_app (a b : List In) : ics (a ++ b) = ics a ++ ics b := by simp [ics]
theorem ics_one (l : List In) : ∀ u ∈ ics l, u.oneCell' = true := by
  intro u hu
  simp only [ics, List.mem_flatMap] at hu
  obtain ⟨f, _, h⟩ := hu
  simp [i5] at h
  rcases h with rfl | rfl | rfl | rfl | rfl <;> rfl
theorem ics_at : ∀ {l : List In} {i : Nat} {f : In}, l[i]? = some f → ∀ j u, (i5 f)[j]? = some u → (ics l)[i * 5 + j]? = some u
  | [], i, f, h, _, _, _ => by simp at h
  | a :: r, 0, f, h, j, u, hu => by
    simp at h
    subst h
    have hj : j < 5 := by
      have := (List.getElem?_eq_some_iff.1 hu).1
      simpa [i5] using this
    simp only [ics, List.flatMap_cons, Nat.zero_mul, Nat.zero_add]
    rw [List.getElem?_append_left (by simp [i5]; exact hj)]
    exact hu
  | a :: r, i + 1, f, h, j, u, hu => by
    have := ics_at (l := r) (i := i) (by simpa using h) j u hu
    simp only [ics, List.flatMap_cons] at this ⊢
    rw [List.getElem?_append_right (by simp [i5]; omega)]
    have e : (i + 1) * 5 + j - (i5 a).length = i * 5 + j := by simp [i5]; omega
    rw [e]
    exact this
/-- A slice of k instructions, l, that can be read. -/
structure Ri (w : World) (A : Option Addr) (k cap : Nat) (l : List In) : Prop where
  cells : ∀ (i : Nat) (f : In), l[i]? = some f → ∃ b o, A = some ⟨b, o, none⟩ ∧ b < w.heap.size ∧ f.ok ∧
    w.cell? ⟨b, o + i * 5, none⟩ = some (.int .u8 f.op) ∧ w.cell? ⟨b, o + i * 5 + 1, none⟩ = some (.int .u8 f.a) ∧ w.cell? ⟨b, o + i * 5 + 2, none⟩ = some (.int .u8 f.b) ∧
    w.cell? ⟨b, o + i * 5 + 3, none⟩ = some (.int .u8 f.c) ∧ w.cell? ⟨b, o + i * 5 + 4, none⟩ = some (.int .u32 f.im)
  len : l.length = k
  le : k ≤ cap
  max : cap ≤ 9223372036854775807
/-- A row of instructions that the call made from block B on. -/
def Or (w : World) (B : Nat) (v : Value) (l : List In) : Prop := w.ownsRow B 24 5 v l.length (ics l)
section
variable {w w' : World} {A : Option Addr} {k cap B B' : Nat} {l : List In} {v : Value}
theorem Ri.below (h : Ri w A k cap l) (hb : Below B w w') (hB : w.heap.size ≤ B) : Ri w' A k cap l :=
  ⟨fun i y hi => by
    obtain ⟨b, o, e, hl, hok, c0, c1, c2, c3, c4⟩ := h.cells i y hi
    have go : ∀ q, w'.cell? ⟨b, q, none⟩ = w.cell? ⟨b, q, none⟩ := fun q => hb.cell (p := ⟨b, q, none⟩) (by simp only; omega)
    exact ⟨b, o, e, Nat.lt_of_lt_of_le hl hb.size, hok, (go _).trans c0, (go _).trans c1, (go _).trans c2, (go _).trans c3, (go _).trans c4⟩, h.len, h.le, h.max⟩
theorem Ri.at (h : Ri w A k cap l) (i : Nat) (hi : i < k) : ∃ (b o : Nat) (f : In), A = some ⟨b, o, none⟩ ∧ Hid (l[i]? = some f) ∧ f.ok ∧ b < w.heap.size ∧
    w.cell? ⟨b, o + i * 5, none⟩ = some (.int .u8 f.op) ∧ w.cell? ⟨b, o + i * 5 + 1, none⟩ = some (.int .u8 f.a) ∧ w.cell? ⟨b, o + i * 5 + 2, none⟩ = some (.int .u8 f.b) ∧
    w.cell? ⟨b, o + i * 5 + 3, none⟩ = some (.int .u8 f.c) ∧ w.cell? ⟨b, o + i * 5 + 4, none⟩ = some (.int .u32 f.im) := by
  have hl := h.len
  obtain ⟨b, o, e, hb, hok, c⟩ := h.cells i (l[i]'(by omega)) (List.getElem?_eq_getElem _)
  exact ⟨b, o, _, e, List.getElem?_eq_getElem _, hok, hb, c⟩
theorem Ri.ok (h : Ri w A k cap l) : ∀ i ∈ l, i.ok := by
  intro x hx
  obtain ⟨i, hi⟩ := List.mem_iff_getElem?.1 hx
  obtain ⟨_, _, _, _, hy, _⟩ := h.cells i x hi
  exact hy
theorem Or.keepB (h : Or w B v l) (e : ∀ g, v.ownBlock = some g → w'.heap[g]? = w.heap[g]?) : Or w' B v l := by
  refine ⟨h.1, ?_⟩
  rcases h.2 with h1 | ⟨g, cap, cur, h1, h2, h3, rest⟩
  · exact .inl h1
  · exact .inr ⟨g, cap, cur, h1, h2, (e g (by rw [h1]; rfl)).trans h3, rest⟩
theorem Or.lt (h : Or w B v l) {g : Nat} (hg : v.ownBlock = some g) : B ≤ g ∧ g < w.heap.size := World.ownsRow.lt h g hg
theorem Or.keep (h : Or w B v l) (hb : Below B' w w') (hB : w.heap.size ≤ B') : Or w' B v l := h.keepB fun g hg => hb.block g (Nat.lt_of_lt_of_le (h.lt hg).2 hB)
theorem Or.alloc (h : Or w B v l) (o : Obj) : Or (w.alloc o) B v l := World.ownsRow.alloc h o
theorem Or.nil (w : World) (B : Nat) : Or w B (.slice none 0 0) [] := World.ownsRow_nil _ _ _ _
theorem Or.form (h : Or w B v l) (hok : ∀ f ∈ l, f.ok) : ∃ A k c, v = .slice A k c ∧ Ri w A k c l := by
  rcases h.2 with ⟨h1, h2⟩ | ⟨g, cap, cur, h1, hb, hg, hle, hmax, hsz, htk⟩
  · have : l = [] := List.eq_nil_of_length_eq_zero h2
    subst this
    exact ⟨none, 0, 0, h1, fun i f hi => by simp at hi, rfl, Nat.le_refl _, by omega⟩
  · have hgl := (Array.getElem?_eq_some_iff.1 hg).1
    refine ⟨some ⟨g, 0, none⟩, l.length, cap, h1, ⟨fun i f hi => ?_, rfl, hle, by simpa [maxLen] using hmax⟩⟩
    have go : ∀ q u, (i5 f)[q]? = some u → w.cell? ⟨g, i * 5 + q, none⟩ = some u := fun q u hu => by
      have := h.cells (g := g) (by rw [h1]; rfl) (i * 5 + q) u (ics_at hi q u hu)
      rw [addr_add, Nat.zero_add] at this
      exact this
    refine ⟨g, 0, rfl, hgl, hok f (List.mem_of_getElem? hi), ?_, ?_, ?_, ?_, ?_⟩
    · simpa using go 0 _ rfl
    · simpa using go 1 _ rfl
    · simpa using go 2 _ rfl
    · simpa using go 3 _ rfl
    · simpa using go 4 _ rfl
/-- A row of bytes keeps its bytes, whatever comes behind. -/
theorem Ob.keep {bs : List Nat} (h : Ob w B v bs) (hb : Below B' w w') (hB : w.heap.size ≤ B') : Ob w' B v bs := by
  refine ⟨h.1, ?_⟩
  rcases h.2 with h1 | ⟨g, cap, cur, h1, h2, h3, rest⟩
  · exact .inl h1
  · exact .inr ⟨g, cap, cur, h1, h2, (hb.block g (Nat.lt_of_lt_of_le (Array.getElem?_eq_some_iff.1 h3).1 hB)).trans h3, rest⟩
end
theorem infoI5 : (Tryd.prog.info? 24).map (fun i => (i.zero, i.size, i.bytes)) = some (some (.agg #[.int .u8 0, .int .u8 0, .int .u8 0, .int .u8 0, .int .u32 0]), 5, 8) := by kernel_rfl
/-- l = append(l, i), i in a block of its own. -/
theorem wpList_insapp {w : World} {ops : Array Oper} {rest : List Oper} {o : Oper} {a : Act} {Q : Exit → Act → World → Prop} (hgd : o.guard = none) (s x : Operand)
    (ho : o.op = .call { callee := .builtin .append, args := #[s, x], argTypes := #[39, 39] })
    (base : Nat) (v : Value) (l : List In) (hs : a.eval s = v) (hown : Or w base v l) (f : In) (g0 : Nat) (hg0 : w.heap.size = g0) (hx : a.eval x = .slice (some ⟨g0, 0, none⟩) 1 1)
    (hbig : l.length ≤ 100000) (hbase : base ≤ w.heap.size)
    (h : ∀ v' w', Or w' base v' (l ++ [f]) → Below base w w' → wpList Tryd.prog ops Q rest (a.put o.dst v') w') : wpList Tryd.prog ops Q (o :: rest) a (w.alloc (.cells #[.int .u8 f.op, .int .u8 f.a, .int .u8 f.b, .int .u8 f.c, .int .u32 f.im] 24)) := by
  obtain ⟨i0, hi, hz0, hz1, hz2⟩ := info_parts infoI5
  subst hg0
  refine wpList_append_lies _ hgd s x 39 ho base 24 i0 _ 5 8 Tryd.underlying39 hi hz0 hz1 hz2 (by kernel_rfl) (by decide) v l.length (ics l) hs (hown.alloc _) ⟨w.heap.size, 0, none⟩ 1 1 (i5 f) hx rfl (fun j u hu => ?_) (fun u hu => ics_one [f] u (by simpa [ics] using hu)) (by decide) (by unfold maxLen; omega) (by omega) (by simp; omega) (w.heap.size + 1) (by simp) ?_
  · rw [addr_add, (Blk.new w 24 _).cell]
    simpa [i5] using hu
  · intro g cap w' h1 h2 h3 h4
    have hor : Or w' base (.slice (some ⟨g, 0, none⟩) (l.length + 1) cap) (l ++ [f]) := by
      unfold Or
      rw [ics_app, List.length_append]
      simpa [ics] using h1
    refine h _ w' hor ?_
    exact (Below.refl base w).grown ((World.grownBy_alloc w _ _).trans h2) hbase fun k hk => (hown.lt hk).1
theorem wpList_app2 {w : World} {ops : Array Oper} {rest : List Oper} {o : Oper} {a : Act} {Q : Exit → Act → World → Prop} (hgd : o.guard = none) (s x : Operand) (tx : TypeId)
    (ho : o.op = .call { callee := .builtin .append, args := #[s, x], argTypes := #[40, tx] })
    (base : Nat) (v : Value) (xs : List Nat) (hs : a.eval s = v) (hown : Ob w base v xs) (xv : Value) (news : List Nat) (hx : a.eval x = xv)
    (hsrc : Src Tryd.prog 1 tx xv news.length (bc news) w) (hbig : xs.length + news.length ≤ 140737488400000) (hbase : base ≤ w.heap.size)
    (h : ∀ v' w', Ob w' base v' (xs ++ news) → w.grownBy w' v.ownBlock → Below base w w' → wpList Tryd.prog ops Q rest (a.put o.dst v') w') : wpList Tryd.prog ops Q (o :: rest) a w := by
  obtain ⟨v', w', hr, h2, h3⟩ := run_app base tx o.type v xs hown xv news hsrc hbig hbase
  have hb : Below base w w' := (Below.refl base w).grown h3 hbase fun k hk => hown.block hk
  refine wpList_plain hgd fun _ hK => ?_
  unfold Oper.wp execOp
  simp only [ho, resolve, invoke, builtin, Sem.run_bind, Sem.run_pure, Result.andThen_ok, List.map_toArray, List.map_cons, List.map_nil, hs, hx, hr]
  exact hK _ _ (h v' w' h2 h3 hb)
theorem Blk.grow {w w' : World} {row : Option Nat} {g : Nat} {t : TypeId} {cs : Array Value} (h : Blk w g t cs) (hg : w.grownBy w' row) (hne : row ≠ some g) : Blk w' g t cs := (hg.block g h.lt (fun e => hne e.symm)).trans h
theorem Ob.off {w : World} {B g : Nat} {v : Value} {bs : List Nat} {cs : Array Value} (h : Ob w B v bs) (k : Blk w g 24 cs) : v.ownBlock ≠ some g := fun e => by
  rcases h.2 with ⟨h1, _⟩ | ⟨g', cap, cur, h1, _, h3, _⟩
  · rw [h1] at e; cases e
  · rw [h1] at e
    simp only [Value.ownBlock, Option.some.injEq] at e
    subst e
    unfold Blk at k
    rw [k] at h3
    injection h3 with h3
    injection h3 with _ h4
    exact absurd h4 (by decide)
theorem Ob.far {w : World} {B : Nat} {v : Value} {bs : List Nat} (h : Ob w B v bs) : v.ownBlock ≠ some w.heap.size := fun e => by
  have := (World.ownsRow.lt h _ e).2
  omega
theorem src_new (w : World) (ys : List Nat) (n g : Nat) (hn : ys.length = n) (hg : w.heap.size = g) (cs : Array Value) (hc : cs = (bc ys).toArray) : Src Tryd.prog 1 40 (.slice (some ⟨g, 0, none⟩) n n) ys.length (bc ys) (w.alloc (.cells cs 5)) := by
  subst hn hg hc
  refine Src.ofSlice _ Tryd.underlying40 ⟨w.heap.size, 0, none⟩ ys.length ys.length (bc ys) (by rw [bc_len, Nat.mul_one]) (fun j u hu => ?_) (bc_one _)
  rw [addr_add, Nat.zero_add, (Blk.new w 5 _).cell]
  simpa using hu
end Go.Proofs.YtcedjjolikmbbaaDoor
