/- The cases of the two rebalancings, step by step as the document has them. No condition on the program. -/
import Derived.Test.YtiacclmapicmdaaDoorTrSteps
namespace Go.Proofs.YtiacclmapicmdaaDoor

/-- The uncle is red. -/
theorem add_red {s : Tr} {f g : Fr} {u : List Fr} {t : T} {x p : Nat} (h : Rp s (f :: g :: u) t x p) :
    Rp (((s.paint f.k false).paint g.o.root false).paint g.k true) u (.mk g.d true (.mk f.d false t f.k f.o) g.k (g.o.col false)) g.k (s.par g.k) := by
  have h1 := (h.colUp false).out
  have h2 := (h1.other false).out
  have h3 := h2.col true
  rw [T.col_mk] at h3
  simpa only [Tr.par_paint] using h3
/-- The leaf stands on the inner side: its parent is rotated. -/
theorem add_in {s : Tr} {f g : Fr} {u : List Fr} {t : T} {x p : Nat} (h : Rp s (f :: g :: u) t x p) (ht : t.isE = false) (hd : f.d = !g.d) :
    Rp (s.turn f.k g.d) (⟨g.d, t.red, x, t.on (!g.d)⟩ :: g :: u) (.mk g.d f.c f.o f.k (t.on g.d)) f.k x := by
  have h1 := h.out
  have e := T.as_mk ht g.d
  have hx := h.root
  rw [hd, T.mk_not] at h1
  generalize t.on g.d = a, t.on (!g.d) = b, t.red = c at e ⊢
  rw [← hx] at e
  rw [e] at h1
  have h2 := h1.turn.in_
  have e2 := h2.root
  rw [T.root_mk] at e2
  rw [e2] at h2
  exact h2
/-- The leaf stands on the outer side: colors, and the grandparent is rotated. -/
theorem add_out {s : Tr} {f g : Fr} {u : List Fr} {t : T} {x p : Nat} (h : Rp s (f :: g :: u) t x p) (hd : f.d = g.d) :
    Rp (((s.paint f.k false).paint g.k true).turn g.k (!g.d)) u (.mk g.d false t f.k (.mk g.d true f.o g.k g.o)) f.k (s.par g.k) := by
  have h1 := (h.colUp false).out
  have h2 := (h1.colUp true).out
  dsimp only at h2
  rw [← T.mk_not g.d, hd, ← T.mk_not g.d false f.o t f.k] at h2
  have h3 := h2.turn
  rw [T.mk_not, T.mk_not] at h3
  simpa only [Tr.par_paint] using h3
/-- 1: the sibling is red. -/
theorem del_one {s : Tr} {f : Fr} {u : List Fr} {t : T} {x p : Nat} (h : Rp s (f :: u) t x p) (hw : f.o.red = true) :
    Rp (((s.paint f.o.root false).paint f.k true).turn f.k f.d) (⟨f.d, true, f.k, f.o.on f.d⟩ :: ⟨f.d, false, f.o.root, f.o.on (!f.d)⟩ :: u) t x p := by
  have h1 := ((h.other false).colUp true).out
  have e := T.as_mk (red_isE hw) f.d
  generalize f.o.on f.d = a, f.o.on (!f.d) = b, f.o.root = k, f.o.red = c at e h1 ⊢
  simp only [e, T.col_mk] at h1
  have h2 := h1.turn.in_
  have e2 := h2.root
  rw [T.root_mk] at e2
  rw [e2] at h2
  have h3 := h2.in_
  have e3 := h3.root
  rw [e3, ← h.root] at h3
  rw [h.fr.1]
  exact h3
/-- 2: both children of the sibling are black. -/
theorem del_two {s : Tr} {f : Fr} {u : List Fr} {t : T} {x p : Nat} (h : Rp s (f :: u) t x p) :
    Rp (s.paint f.o.root true) u (.mk f.d f.c t f.k (f.o.col true)) f.k (s.par f.k) := by
  have h1 := (h.other true).out
  simpa only [Tr.par_paint] using h1
/-- 3, its first half: the sibling's child on the other side is black. -/
theorem del_near {s : Tr} {f : Fr} {u : List Fr} {t : T} {x p : Nat} (h : Rp s (f :: u) t x p) (hn : (f.o.on f.d).red = true) :
    Rp (((s.paint (f.o.on f.d).root false).paint f.o.root true).turn f.o.root (!f.d)) (⟨f.d, f.c, f.k, .mk f.d false ((f.o.on f.d).on f.d) (f.o.on f.d).root (.mk f.d true ((f.o.on f.d).on (!f.d)) f.o.root (f.o.on (!f.d)))⟩ :: u) t x p := by
  have he : f.o.isE = false := by
    cases ho : f.o with
    | e => rw [ho] at hn; cases hn
    | n => rfl
  have h1 := h.over
  have e := T.as_mk he f.d
  generalize f.o.on f.d = a, f.o.on (!f.d) = b, f.o.root = k, f.o.red = c at e h1 hn ⊢
  rw [e] at h1
  have h2 := h1.in_
  have e1 := h2.root
  rw [e1] at h2
  have h3 := ((h2.col false).colUp true).out
  have e4 := T.as_mk (red_isE hn) f.d
  generalize a.on f.d = a1, a.on (!f.d) = a2, a.root = k1, a.red = c1 at e4 h3 ⊢
  rw [e4, T.col_mk] at h3
  dsimp only at h3
  rw [← T.mk_not f.d, ← T.mk_not f.d false a2 a1 k1] at h3
  have h5 := h3.turn
  rw [T.mk_not, T.mk_not] at h5
  have h6 := h5.over
  simp only [Bool.not_not] at h6
  rw [← h.root] at h6
  rw [h.fr.1]
  exact h6
/-- 3, its other half. -/
theorem del_far {s : Tr} {f : Fr} {u : List Fr} {t : T} {x p : Nat} (h : Rp s (f :: u) t x p) (hw : f.o.isE = false) :
    Rp ((((s.paint f.o.root f.c).paint f.k false).paint (f.o.on (!f.d)).root false).turn f.k f.d) u (.mk f.d f.c (.mk f.d false t f.k (f.o.on f.d)) f.o.root ((f.o.on (!f.d)).col false)) f.o.root (s.par f.k) := by
  have h1 := (h.other f.c).colUp false
  have e := T.as_mk hw f.d
  generalize f.o.on f.d = a, f.o.on (!f.d) = b, f.o.root = k, f.o.red = c at e h1 ⊢
  simp only [e, T.col_mk] at h1
  have h2 := h1.over
  rw [T.root_mk] at h2
  simp only at h2
  rw [← T.mk_not] at h2
  have h3 := h2.in_
  have e3 := h3.root
  rw [e3] at h3
  have h4 := (h3.col false).out
  rw [T.mk_not] at h4
  have h5 := h4.over.out
  simp only [Bool.not_not] at h5
  have h6 := h5.turn
  simpa only [Tr.par_paint] using h6
end Go.Proofs.YtiacclmapicmdaaDoor
