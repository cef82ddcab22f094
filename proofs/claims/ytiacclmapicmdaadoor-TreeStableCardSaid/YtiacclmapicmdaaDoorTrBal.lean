/- Trees as such: rebalancing after an addition and after a removal, by ways down; what stands in order; black heights. No condition on the program. -/
import Derived.Test.YtiacclmapicmdaaDoorTrMath
namespace Go.Proofs.YtiacclmapicmdaaDoor

namespace T
def isE : T → Bool
  | e => true
  | n _ _ _ _ => false
def red : T → Bool
  | e => false
  | n c _ _ _ => c
def root : T → Nat
  | e => 0
  | n _ _ k _ => k
/-- The part on a side. -/
def on (d : Bool) : T → T
  | e => e
  | n _ l _ r => if d then r else l
/-- The root is of a color. -/
def col (c : Bool) : T → T
  | e => e
  | n _ l k r => n c l k r
theorem mk_not (d c : Bool) (a b : T) (k : Nat) : mk (!d) c a k b = mk d c b k a := by cases d <;> rfl
theorem as_mk {t : T} (h : t.isE = false) (d : Bool) : t = mk d t.red (t.on d) t.root (t.on (!d)) := by
  cases t with
  | e => cases h
  | n c l k r => cases d <;> rfl
@[simp] theorem on_mk (d c : Bool) (a b : T) (k : Nat) : (mk d c a k b).on d = a := by cases d <;> rfl
@[simp] theorem on_mk' (d c : Bool) (a b : T) (k : Nat) : (mk d c a k b).on (!d) = b := by cases d <;> rfl
@[simp] theorem red_mk (d c : Bool) (a b : T) (k : Nat) : (mk d c a k b).red = c := by cases d <;> rfl
@[simp] theorem root_mk (d c : Bool) (a b : T) (k : Nat) : (mk d c a k b).root = k := by cases d <;> rfl
@[simp] theorem isE_mk (d c : Bool) (a b : T) (k : Nat) : (mk d c a k b).isE = false := by cases d <;> rfl
@[simp] theorem col_mk (d c c' : Bool) (a b : T) (k : Nat) : (mk d c a k b).col c' = mk d c' a k b := by cases d <;> rfl
@[simp] theorem ns_col (t : T) (c : Bool) : (t.col c).ns = t.ns := by cases t <;> rfl
theorem red_col {t : T} (h : t.isE = false) (c : Bool) : (t.col c).red = c := by cases t <;> first | rfl | cases h
@[simp] theorem red_blk (t : T) : (t.col false).red = false := by cases t <;> rfl
theorem col_same (t : T) : t.col t.red = t := by cases t <;> rfl
theorem ns_turn (d c c' : Bool) (a b g : T) (k y : Nat) (c1 c2 : Bool) : (mk d c a k (mk d c' b y g)).ns = (mk d c1 (mk d c2 a k b) y g).ns := by
  cases d <;> simp [mk, ns]
theorem ns_mk_congr {d c c' : Bool} {a a' b b' : T} {k : Nat} (h1 : a.ns = a'.ns) (h2 : b.ns = b'.ns) : (mk d c a k b).ns = (mk d c' a' k b').ns := by
  cases d <;> simp [mk, ns, h1, h2]
end T
theorem plug_ns : ∀ (u : List Fr) {t t' : T}, t.ns = t'.ns → (plug u t).ns = (plug u t').ns
  | [], _, _, h => h
  | _ :: u, _, _, h => plug_ns u (T.ns_mk_congr h rfl)

/-- The rest of a case of an addition: the parent is red, its sibling isn't. -/
def addTurn (f g : Fr) (t : T) : T :=
  if f.d = g.d then .mk g.d false t f.k (.mk g.d true f.o g.k g.o)
  else .mk g.d false (.mk g.d true f.o f.k (t.on g.d)) t.root (.mk g.d true (t.on (!g.d)) g.k g.o)
/-- A tree after a red leaf came to the end of a way down; the topmost leaf is painted later. -/
def addFix : List Fr → T → T
  | f :: g :: u, t =>
    if f.c then
      if g.o.red then addFix u (.mk g.d true (.mk f.d false t f.k f.o) g.k (g.o.col false))
      else plug u (addTurn f g t)
    else plug (f :: g :: u) t
  | u, t => plug u t
/-- The third case of a removal: w is the sibling, no empty one. -/
def delTurn (f : Fr) (t w : T) : T :=
  if (w.on (!f.d)).red then .mk f.d f.c (.mk f.d false t f.k (w.on f.d)) w.root ((w.on (!f.d)).col false)
  else .mk f.d f.c (.mk f.d false t f.k ((w.on f.d).on f.d)) (w.on f.d).root (.mk f.d false ((w.on f.d).on (!f.d)) w.root (w.on (!f.d)))
/-- A tree after the way down became short by one black leaf. -/
def delFix : List Fr → T → T
  | [], t => t.col false
  | f :: u, t =>
    if t.red then plug (f :: u) (t.col false)
    else if f.o.red then
      (if !((f.o.on f.d).on false).red && !((f.o.on f.d).on true).red then
        plug u (.mk f.d false (.mk f.d false t f.k ((f.o.on f.d).col true)) f.o.root (f.o.on (!f.d)))
      else plug u (.mk f.d false (delTurn ⟨f.d, true, f.k, f.o.on f.d⟩ t (f.o.on f.d)) f.o.root (f.o.on (!f.d))))
    else if !(f.o.on false).red && !(f.o.on true).red then delFix u (.mk f.d f.c t f.k (f.o.col true))
    else plug u (delTurn f t f.o)

theorem addTurn_ns (f g : Fr) {t : T} (ht : t.isE = false) : (addTurn f g t).ns = (T.mk g.d g.c (.mk f.d f.c t f.k f.o) g.k g.o).ns := by
  unfold addTurn
  split
  · rename_i h
    rw [h]
    cases g.d <;> simp [T.mk, T.ns]
  · rename_i h
    have hf : f.d = !g.d := by cases h1 : f.d <;> cases h2 : g.d <;> simp_all
    have e := T.as_mk ht g.d
    generalize t.on g.d = a, t.on (!g.d) = b, t.root = k, t.red = c at e ⊢
    subst e
    rw [hf, T.mk_not]
    cases g.d <;> simp [T.mk, T.ns]
theorem addFix_ns : ∀ (u : List Fr) {t : T}, t.isE = false → (addFix u t).ns = (plug u t).ns
  | [], _, _ => rfl
  | [_], _, _ => rfl
  | f :: g :: u, t, ht => by
    unfold addFix
    split
    · split
      · rw [addFix_ns u (T.isE_mk ..)]
        exact plug_ns u (T.ns_mk_congr (T.ns_mk_congr rfl rfl) (T.ns_col _ _))
      · exact plug_ns u (addTurn_ns f g ht)
    · rfl
theorem delTurn_ns (f : Fr) (t : T) {w : T} (hw : w.isE = false) (hr : (w.on false).red = true ∨ (w.on true).red = true) : (delTurn f t w).ns = (T.mk f.d f.c t f.k w).ns := by
  have e := T.as_mk hw f.d
  have hr2 : (w.on (!f.d)).red = false → (w.on f.d).red = true := fun h => by
    cases hd : f.d <;> rw [hd] at h <;> rcases hr with hr | hr
    · exact hr
    · rw [show (!false) = true from rfl] at h; rw [h] at hr; cases hr
    · rw [show (!true) = false from rfl] at h; rw [h] at hr; cases hr
    · exact hr
  clear hr
  unfold delTurn
  generalize w.on f.d = a, w.on (!f.d) = b, w.root = k, w.red = c at e hr2 ⊢
  subst e
  split
  · rw [T.ns_turn (c1 := f.c) (c2 := false)]
    exact T.ns_mk_congr rfl (T.ns_col _ _)
  · rename_i h
    have ha : a.isE = false := by
      have := hr2 (by simpa using h)
      cases a <;> first | rfl | cases this
    have e := T.as_mk ha f.d
    generalize a.on f.d = a1, a.on (!f.d) = a2, a.root = k1, a.red = c1 at e ⊢
    subst e
    cases f.d <;> simp [T.mk, T.ns]
end Go.Proofs.YtiacclmapicmdaaDoor
