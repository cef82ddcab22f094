/- Rows of fields and of types that grow. No condition. -/
import Derived.Test.YtnkjlocjfljjlaaTRows
import Derived.Deep.AppendLies
namespace Go.Proofs.Ytnkjlocjfljjlaa
open Go.RowKit

theorem infoF : (Try.prog.info? 53).map (fun i => (i.zero, i.size, i.bytes)) = some (some (.agg #[.int .i64 0, .int .i64 0, .int .i64 0, .int .i64 0, .int .i64 0]), 5, 40) := by kernel_rfl
theorem infoT4 : (Try.prog.info? 32).map (fun i => (i.zero, i.size, i.bytes)) = some (some (.agg #[.string ⟨#[]⟩, .bool false, .bool false, .slice none 0 0]), 4, 48) := by kernel_rfl
def Of (w : World) (B : Nat) (v : Value) (fs : List Fd) : Prop := w.ownsRow B 53 5 v fs.length (fcs fs)
def Ot (w : World) (B : Nat) (v : Value) (l : List Tq) : Prop := w.ownsRow B 32 4 v l.length (tcs l)
section
variable {w w' : World} {B B' : Nat} {v : Value} {fs : List Fd} {l : List Tq} {row : Option Nat}
theorem Of.keepB (h : Of w B v fs) (e : ∀ g, v.ownBlock = some g → w'.heap[g]? = w.heap[g]?) : Of w' B v fs := by
  refine ⟨h.1, ?_⟩
  rcases h.2 with h1 | ⟨g, cap, cur, h1, h2, h3, rest⟩
  · exact .inl h1
  · exact .inr ⟨g, cap, cur, h1, h2, (e g (by rw [h1]; rfl)).trans h3, rest⟩
theorem Ot.keepB (h : Ot w B v l) (e : ∀ g, v.ownBlock = some g → w'.heap[g]? = w.heap[g]?) : Ot w' B v l := by
  refine ⟨h.1, ?_⟩
  rcases h.2 with h1 | ⟨g, cap, cur, h1, h2, h3, rest⟩
  · exact .inl h1
  · exact .inr ⟨g, cap, cur, h1, h2, (e g (by rw [h1]; rfl)).trans h3, rest⟩
theorem Of.lt (h : Of w B v fs) {g : Nat} (hg : v.ownBlock = some g) : B ≤ g ∧ g < w.heap.size := World.ownsRow.lt h g hg
theorem Ot.lt (h : Ot w B v l) {g : Nat} (hg : v.ownBlock = some g) : B ≤ g ∧ g < w.heap.size := World.ownsRow.lt h g hg
theorem Of.keep (h : Of w B v fs) (hb : Below B' w w') (hB : w.heap.size ≤ B') : Of w' B v fs := h.keepB fun g hg => hb.block g (Nat.lt_of_lt_of_le (h.lt hg).2 hB)
theorem Ot.keep (h : Ot w B v l) (hb : Below B' w w') (hB : w.heap.size ≤ B') : Ot w' B v l := h.keepB fun g hg => hb.block g (Nat.lt_of_lt_of_le (h.lt hg).2 hB)
theorem Of.alloc (h : Of w B v fs) (o : Obj) : Of (w.alloc o) B v fs := World.ownsRow.alloc h o
theorem Ot.alloc (h : Ot w B v l) (o : Obj) : Ot (w.alloc o) B v l := World.ownsRow.alloc h o
theorem Of.nil (w : World) (B : Nat) : Of w B (.slice none 0 0) [] := World.ownsRow_nil _ _ _ _
theorem Ot.nil (w : World) (B : Nat) : Ot w B (.slice none 0 0) [] := World.ownsRow_nil _ _ _ _
theorem Of.less (h : Of w B v fs) (hB : B' ≤ B) : Of w B' v fs := by
  refine ⟨h.1, ?_⟩
  rcases h.2 with h1 | ⟨g, cap, cur, h1, hb, rest⟩
  · exact .inl h1
  · exact .inr ⟨g, cap, cur, h1, by omega, rest⟩
/-- As a slice that can be read. -/
theorem Of.form (h : Of w B v fs) (hok : ∀ f ∈ fs, f.ok) : ∃ A k c, v = .slice A k c ∧ Lf w A k c fs ∧ ∀ b o, A = some ⟨b, o, none⟩ → B ≤ b ∧ b < w.heap.size := by
  rcases h.2 with ⟨h1, h2⟩ | ⟨g, cap, cur, h1, hb, hg, hle, hmax, hsz, htk⟩
  · have : fs = [] := List.eq_nil_of_length_eq_zero h2
    subst this
    exact ⟨none, 0, 0, h1, ⟨fun i f hi => by simp at hi, rfl, Nat.le_refl _, by omega⟩, fun b o e => by cases e⟩
  · have hgl := (Array.getElem?_eq_some_iff.1 hg).1
    refine ⟨some ⟨g, 0, none⟩, fs.length, cap, h1, Lf.of hgl (fun j u hu => ?_) hok rfl hle (by simpa [maxLen] using hmax), fun b o e => ?_⟩
    · have := h.cells (g := g) (by rw [h1]; rfl) j u hu
      rw [addr_add, Nat.zero_add] at this
      exact this
    · injection e with e
      injection e with e1
      omega
theorem Ot.form (h : Ot w B v l) (hq : ∀ q ∈ l, q.t.name.size ≤ 9223372036854775807 ∧ Lf w q.A q.k q.c q.t.fields) : ∃ A k c, v = .slice A k c ∧ Lt w A k c (l.map (·.t)) := by
  rcases h.2 with ⟨h1, h2⟩ | ⟨g, cap, cur, h1, hb, hg, hle, hmax, hsz, htk⟩
  · have : l = [] := List.eq_nil_of_length_eq_zero h2
    subst this
    exact ⟨none, 0, 0, h1, ⟨fun i f hi => by simp at hi, rfl, Nat.le_refl _, by omega⟩⟩
  · have hgl := (Array.getElem?_eq_some_iff.1 hg).1
    refine ⟨some ⟨g, 0, none⟩, l.length, cap, h1, Lt.of hgl (fun j u hu => ?_) hq rfl hle (by simpa [maxLen] using hmax)⟩
    have := h.cells (g := g) (by rw [h1]; rfl) j u hu
    rw [addr_add, Nat.zero_add] at this
    exact this
theorem Lf.grown {A : Option Addr} {k cap : Nat} (h : Lf w A k cap fs) (hg : w.grownBy w' row) (hr : ∀ b o, A = some ⟨b, o, none⟩ → row ≠ some b) : Lf w' A k cap fs :=
  ⟨fun i y hi => by
    obtain ⟨b, o, e, hl, hok, c0, c1, c2, c3, c4⟩ := h.cells i y hi
    have go : ∀ q, w'.cell? ⟨b, q, none⟩ = w.cell? ⟨b, q, none⟩ := fun q => hg.cell_far ⟨b, q, none⟩ hl (fun e2 => hr b o e e2.symm)
    exact ⟨b, o, e, Nat.lt_of_lt_of_le hl hg.size, hok, (go _).trans c0, (go _).trans c1, (go _).trans c2, (go _).trans c3, (go _).trans c4⟩, h.len, h.le, h.max⟩
end
/-- fields = append(fields, f), f in a block of its own. -/
theorem wpList_fapp {w : World} {ops : Array Oper} {rest : List Oper} {o : Oper} {a : Act} {Q : Exit → Act → World → Prop} (hgd : o.guard = none) (s x : Operand)
    (ho : o.op = .call { callee := .builtin .append, args := #[s, x], argTypes := #[30, 30] })
    (base : Nat) (v : Value) (fs : List Fd) (hs : a.eval s = v) (hown : Of w base v fs) (f : Fd) (g0 : Nat) (hg0 : w.heap.size = g0) (hx : a.eval x = .slice (some ⟨g0, 0, none⟩) 1 1)
    (hbig : fs.length ≤ 100000) (hbase : base ≤ w.heap.size)
    (h : ∀ g cap w', Of w' base (.slice (some ⟨g, 0, none⟩) (fs.length + 1) cap) (fs ++ [f]) → w.grownBy w' v.ownBlock → (v.ownBlock = some g ∨ w.heap.size < g) → g < w'.heap.size → wpList Try.prog ops Q rest (a.put o.dst (.slice (some ⟨g, 0, none⟩) (fs.length + 1) cap)) w') : wpList Try.prog ops Q (o :: rest) a (w.alloc (.cells #[.int .i64 f.kind, .int .i64 f.len, .int .i64 f.ty, .int .i64 f.link, .int .i64 f.key] 53)) := by
  obtain ⟨i0, hi, hz0, hz1, hz2⟩ := info_parts infoF
  subst hg0
  refine wpList_append_lies _ hgd s x 30 ho base 53 i0 _ 5 40 Try.underlying30 hi hz0 hz1 hz2 (by kernel_rfl) (by decide) v fs.length (fcs fs) hs (hown.alloc _) ⟨w.heap.size, 0, none⟩ 1 1 (fc5 f) hx rfl (fun j u hu => ?_) (fun u hu => fcs_one [f] u (by simpa [fcs] using hu)) (by decide) (by unfold maxLen; omega) (by omega) (by simp; omega) (w.heap.size + 1) (by simp) ?_
  · rw [addr_add, (Blk.new w 53 _).cell]
    simpa [fc5] using hu
  · intro g cap w' h1 h2 h3 h4
    refine h g cap w' ?_ ((World.grownBy_alloc w _ _).trans h2) (h3.imp id fun e => by omega) h4
    unfold Of
    rw [fcs_app, List.length_append]
    simpa [fcs] using h1
/-- l = append(l, t), t in a block of its own. -/
theorem wpList_tapp {w : World} {ops : Array Oper} {rest : List Oper} {o : Oper} {a : Act} {Q : Exit → Act → World → Prop} (hgd : o.guard = none) (s x : Operand)
    (ho : o.op = .call { callee := .builtin .append, args := #[s, x], argTypes := #[22, 22] })
    (base : Nat) (v : Value) (l : List Tq) (hs : a.eval s = v) (hown : Ot w base v l) (q : Tq) (g0 : Nat) (hg0 : w.heap.size = g0) (hx : a.eval x = .slice (some ⟨g0, 0, none⟩) 1 1)
    (hbig : l.length ≤ 100000) (hbase : base ≤ w.heap.size)
    (h : ∀ g cap w', Ot w' base (.slice (some ⟨g, 0, none⟩) (l.length + 1) cap) (l ++ [q]) → w.grownBy w' v.ownBlock → (v.ownBlock = some g ∨ w.heap.size < g) → g < w'.heap.size → wpList Try.prog ops Q rest (a.put o.dst (.slice (some ⟨g, 0, none⟩) (l.length + 1) cap)) w') : wpList Try.prog ops Q (o :: rest) a (w.alloc (.cells #[.string q.t.name, .bool q.t.value, .bool q.t.refs, .slice q.A q.k q.c] 32)) := by
  obtain ⟨i0, hi, hz0, hz1, hz2⟩ := info_parts infoT4
  subst hg0
  refine wpList_append_lies _ hgd s x 22 ho base 32 i0 _ 4 48 Try.underlying22 hi hz0 hz1 hz2 (by kernel_rfl) (by decide) v l.length (tcs l) hs (hown.alloc _) ⟨w.heap.size, 0, none⟩ 1 1 (tc4 q) hx rfl (fun j u hu => ?_) (fun u hu => tcs_one [q] u (by simpa [tcs] using hu)) (by decide) (by unfold maxLen; omega) (by omega) (by simp; omega) (w.heap.size + 1) (by simp) ?_
  · rw [addr_add, (Blk.new w 32 _).cell]
    simpa [tc4] using hu
  · intro g cap w' h1 h2 h3 h4
    refine h g cap w' ?_ ((World.grownBy_alloc w _ _).trans h2) (h3.imp id fun e => by omega) h4
    unfold Ot
    rw [tcs_app, List.length_append]
    simpa [tcs] using h1
end Go.Proofs.Ytnkjlocjfljjlaa
