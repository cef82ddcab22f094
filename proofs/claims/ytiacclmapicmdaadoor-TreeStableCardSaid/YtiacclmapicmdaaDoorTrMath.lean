/- Trees in the mind: leaves with links and colors (the document's words), trees as such, and how the ones stand for the others; joining, turning. No condition on the program. -/
import Derived.WalkKit
namespace Go.Proofs.YtiacclmapicmdaaDoor

/-- A leaf's links and color. -/
structure Lf where
  l : Nat
  r : Nat
  p : Nat
  red : Bool
/-- Leaves by number (0: none), the topmost one. -/
structure Tr where
  top : Nat
  lf : Nat → Lf
def setCh (x : Lf) (d : Bool) (v : Nat) : Lf := if d then { x with r := v } else { x with l := v }
namespace Tr
def ch (s : Tr) (k : Nat) (d : Bool) : Nat := if d then (s.lf k).r else (s.lf k).l
def par (s : Tr) (k : Nat) : Nat := (s.lf k).p
def red (s : Tr) (k : Nat) : Bool := (s.lf k).red
/-- A leaf is another one; none stays. -/
def put (s : Tr) (k : Nat) (x : Lf) : Tr := if k = 0 then s else ⟨s.top, fun j => if j = k then x else s.lf j⟩
def paint (s : Tr) (k : Nat) (c : Bool) : Tr := s.put k { s.lf k with red := c }
def link (s : Tr) (p : Nat) (d : Bool) (k : Nat) : Tr := if p = 0 then ⟨k, s.lf⟩ else s.put p (setCh (s.lf p) d k)
def join (s : Tr) (p : Nat) (d : Bool) (k : Nat) : Tr := (s.link p d k).put k { (s.link p d k).lf k with p := p }
def onR (s : Tr) (p k : Nat) : Bool := s.ch p false != k
def place (s : Tr) (old k : Nat) : Tr := s.join (s.par old) (s.onR (s.par old) old) k
def turn (s : Tr) (x : Nat) (d : Bool) : Tr := ((s.place x (s.ch x (!d))).join x (!d) (s.ch (s.ch x (!d)) d)).join (s.ch x (!d)) d x
section
variable (s : Tr) (p k j : Nat) (d e c : Bool)
theorem ch_paint : (s.paint k c).ch j e = s.ch j e := by
  unfold paint put ch
  by_cases h : k = 0
  · simp [h]
  · by_cases h2 : j = k
    · subst h2; simp [h]
    · simp [h, h2]
theorem par_paint : (s.paint k c).par j = s.par j := by
  unfold paint put par
  by_cases h : k = 0
  · simp [h]
  · by_cases h2 : j = k
    · subst h2; simp [h]
    · simp [h, h2]
theorem red_paint : (s.paint k c).red j = if j = k ∧ k ≠ 0 then c else s.red j := by
  unfold paint put red
  by_cases h : k = 0
  · simp [h]
  · by_cases h2 : j = k
    · subst h2; simp [h]
    · simp [h, h2]
theorem top_paint : (s.paint k c).top = s.top := by
  unfold paint put
  split <;> rfl
theorem ch_join : (s.join p d k).ch j e = if j = p ∧ p ≠ 0 ∧ e = d then k else s.ch j e := by
  unfold join put ch
  by_cases hk : k = 0
  · rw [if_pos hk]
    unfold link put setCh
    by_cases hp : p = 0
    · simp [hp]
    · by_cases hj : j = p
      · subst hj; cases d <;> cases e <;> simp [hp]
      · simp [hp, hj]
  · rw [if_neg hk]
    unfold link put setCh
    by_cases hp : p = 0
    · by_cases hj : j = k
      · subst hj; cases e <;> simp [hp, hk]
      · simp [hp, hj]
    · by_cases hjp : j = p
      · subst hjp
        by_cases hjk : j = k
        · subst hjk; cases d <;> cases e <;> simp [hp]
        · cases d <;> cases e <;> simp [hp, hjk]
      · by_cases hjk : j = k
        · subst hjk; cases e <;> simp [hp, hjp]
        · simp [hp, hjp, hjk]
theorem par_join : (s.join p d k).par j = if j = k ∧ k ≠ 0 then p else s.par j := by
  unfold join put par
  by_cases hk : k = 0
  · rw [if_pos hk]
    unfold link put setCh
    by_cases hp : p = 0
    · simp [hp, hk]
    · by_cases hj : j = p
      · subst hj; cases d <;> simp [hp, hk]
      · simp [hp, hj, hk]
  · rw [if_neg hk]
    unfold link put setCh
    by_cases hj : j = k
    · simp [hj, hk]
    · by_cases hp : p = 0
      · simp [hp, hj]
      · by_cases hjp : j = p
        · subst hjp; cases d <;> simp [hp, hj]
        · simp [hp, hjp, hj]
theorem red_join : (s.join p d k).red j = s.red j := by
  unfold join put red
  by_cases hk : k = 0
  · rw [if_pos hk]
    unfold link put setCh
    by_cases hp : p = 0
    · simp [hp]
    · by_cases hj : j = p
      · subst hj; cases d <;> simp [hp]
      · simp [hp, hj]
  · rw [if_neg hk]
    unfold link put setCh
    by_cases hp : p = 0
    · by_cases hj : j = k
      · subst hj; simp [hp]
      · simp [hp, hj]
    · by_cases hjp : j = p
      · subst hjp
        by_cases hjk : j = k
        · subst hjk; cases d <;> simp [hp]
        · cases d <;> simp [hp, hjk]
      · by_cases hjk : j = k
        · subst hjk; simp [hp, hjp]
        · simp [hp, hjp, hjk]
theorem top_join : (s.join p d k).top = if p = 0 then k else s.top := by
  unfold join put link put
  by_cases hp : p = 0 <;> by_cases hk : k = 0 <;> simp [hp, hk]
end
end Tr

/-- A tree as such: its nodes are leaves' numbers. -/
inductive T where
  | e : T
  | n : Bool → T → Nat → T → T
namespace T
def ns : T → List Nat
  | e => []
  | n _ l k r => l.ns ++ k :: r.ns
/-- A tree whose part a stands on the side d. -/
def mk (d c : Bool) (a : T) (k : Nat) (b : T) : T := if d then .n c b k a else .n c a k b
theorem mem_mk {d c : Bool} {a b : T} {k j : Nat} : j ∈ (mk d c a k b).ns ↔ j = k ∨ j ∈ a.ns ∨ j ∈ b.ns := by
  cases d <;> simp only [mk, Bool.false_eq_true, if_false, if_true, ns, List.mem_append, List.mem_cons]
  · constructor
    · rintro (h | h | h) <;> simp [h]
    · rintro (h | h | h) <;> simp [h]
  · constructor
    · rintro (h | h | h) <;> simp [h]
    · rintro (h | h | h) <;> simp [h]
end T
/-- The leaves from x on, whose parent is p, are the tree. -/
def At (s : Tr) : T → Nat → Nat → Prop
  | .e, x, _ => x = 0
  | .n c l k r, x, p => x = k ∧ k ≠ 0 ∧ s.par k = p ∧ s.red k = c ∧ At s l (s.ch k false) k ∧ At s r (s.ch k true) k
theorem at_mk {s : Tr} {d c : Bool} {a b : T} {k x p : Nat} : At s (.mk d c a k b) x p ↔ x = k ∧ k ≠ 0 ∧ s.par k = p ∧ s.red k = c ∧ At s a (s.ch k d) k ∧ At s b (s.ch k (!d)) k := by
  cases d
  · exact Iff.rfl
  · show _ ∧ _ ∧ _ ∧ _ ∧ _ ∧ _ ↔ _
    constructor <;> (rintro ⟨h1, h2, h3, h4, h5, h6⟩; exact ⟨h1, h2, h3, h4, h6, h5⟩)
/-- The root of a tree is one of its nodes, or it is none. -/
theorem at_root {s : Tr} : ∀ {t : T} {x p : Nat}, At s t x p → (t = .e ∧ x = 0) ∨ (x ∈ t.ns ∧ x ≠ 0 ∧ s.par x = p)
  | .e, x, p, h => .inl ⟨rfl, h⟩
  | .n c l k r, x, p, h => by
    obtain ⟨rfl, h2, h3, _⟩ := h
    exact .inr ⟨by simp [T.ns], h2, h3⟩
theorem at_pos {s : Tr} : ∀ {t : T} {x p : Nat}, At s t x p → 0 ∉ t.ns
  | .e, _, _, _ => by simp [T.ns]
  | .n c l k r, x, p, h => by
    obtain ⟨_, h2, _, _, h5, h6⟩ := h
    have a := at_pos h5
    have b := at_pos h6
    simp only [T.ns, List.mem_append, List.mem_cons, not_or]
    exact ⟨a, fun e => h2 e.symm, b⟩
/-- What isn't a tree's plays no part in it; its root's parent is told apart. -/
theorem at_move {s s' : Tr} : ∀ {t : T} {x p p' : Nat}, At s t x p → (∀ k, k ∈ t.ns → (∀ d, s'.ch k d = s.ch k d) ∧ s'.red k = s.red k) → (∀ k, k ∈ t.ns → k ≠ x → s'.par k = s.par k) → (x ≠ 0 → s'.par x = p') → t.ns.Nodup → At s' t x p'
  | .e, x, p, p', h, _, _, _, _ => h
  | .n c l k r, x, p, p', h, hc, hp, hx, hn => by
    obtain ⟨rfl, h2, h3, h4, h5, h6⟩ := h
    simp only [T.ns] at hc hp hn
    obtain ⟨nl, nr, nd⟩ := List.nodup_append.1 hn
    obtain ⟨nx, nr⟩ := List.nodup_cons.1 nr
    have hk := hc x (by simp)
    have ml : ∀ j, j ∈ l.ns → j ≠ x := fun j hj e => nd j hj x (by simp) e
    have mr : ∀ j, j ∈ r.ns → j ≠ x := fun j hj e => nx (e ▸ hj)
    refine ⟨rfl, h2, hx h2, hk.2.trans h4, ?_, ?_⟩
    · rw [hk.1 false]
      refine at_move h5 (fun j hj => hc j (by simp [hj])) (fun j hj _ => hp j (by simp [hj]) (ml j hj)) (fun h0 => ?_) nl
      rcases at_root h5 with ⟨_, e⟩ | ⟨hm, _, e⟩
      · exact absurd e h0
      · rw [hp _ (by simp [hm]) (ml _ hm), e]
    · rw [hk.1 true]
      refine at_move h6 (fun j hj => hc j (by simp [hj])) (fun j hj _ => hp j (by simp [hj]) (mr j hj)) (fun h0 => ?_) nr
      rcases at_root h6 with ⟨_, e⟩ | ⟨hm, _, e⟩
      · exact absurd e h0
      · rw [hp _ (by simp [hm]) (mr _ hm), e]
theorem at_same {s s' : Tr} {t : T} {x p : Nat} (h : At s t x p) (hc : ∀ k, k ∈ t.ns → (∀ d, s'.ch k d = s.ch k d) ∧ s'.red k = s.red k ∧ s'.par k = s.par k) (hn : t.ns.Nodup) : At s' t x p :=
  at_move h (fun k hk => ⟨(hc k hk).1, (hc k hk).2.1⟩) (fun k hk _ => (hc k hk).2.2) (fun h0 => by
    rcases at_root h with ⟨_, e⟩ | ⟨hm, _, e⟩
    · exact absurd e h0
    · rw [(hc x hm).2.2, e]) hn

/-- A way down: at k, of color c, to the side d; o is on the other side. -/
structure Fr where
  d : Bool
  c : Bool
  k : Nat
  o : T
/-- What stands above a place: x is there, p is its parent. -/
def Up (s : Tr) : List Fr → Nat → Nat → Prop
  | [], x, p => p = 0 ∧ s.top = x
  | f :: u, x, p => p = f.k ∧ f.k ≠ 0 ∧ s.ch f.k f.d = x ∧ s.red f.k = f.c ∧ At s f.o (s.ch f.k (!f.d)) f.k ∧ Up s u f.k (s.par f.k)
def fns : List Fr → List Nat
  | [] => []
  | f :: u => f.k :: (f.o.ns ++ fns u)
/-- The whole tree. -/
def plug : List Fr → T → T
  | [], t => t
  | f :: u, t => plug u (.mk f.d f.c t f.k f.o)
theorem plug_at {s : Tr} : ∀ {u : List Fr} {t : T}, At s (plug u t) s.top 0 ↔ ∃ x p, Up s u x p ∧ At s t x p
  | [], t => by
    constructor
    · intro h
      exact ⟨s.top, 0, ⟨rfl, rfl⟩, h⟩
    · rintro ⟨x, p, ⟨rfl, rfl⟩, h⟩
      exact h
  | f :: u, t => by
    show At s (plug u (.mk f.d f.c t f.k f.o)) s.top 0 ↔ _
    rw [plug_at]
    constructor
    · rintro ⟨x, p, hu, ha⟩
      obtain ⟨rfl, h2, h3, h4, h5, h6⟩ := at_mk.1 ha
      exact ⟨s.ch f.k f.d, f.k, ⟨rfl, h2, rfl, h4, h6, h3 ▸ hu⟩, h5⟩
    · rintro ⟨x, p, ⟨rfl, h2, rfl, h4, h5, h6⟩, ha⟩
      exact ⟨f.k, s.par f.k, h6, at_mk.2 ⟨rfl, h2, rfl, h4, ha, h5⟩⟩
theorem up_same {s s' : Tr} : ∀ {u : List Fr} {x p : Nat}, Up s u x p → (∀ k, k ∈ fns u → (∀ d, s'.ch k d = s.ch k d) ∧ s'.red k = s.red k ∧ s'.par k = s.par k) → s'.top = s.top → (fns u).Nodup → Up s' u x p
  | [], x, p, h, _, ht, _ => ⟨h.1, ht.trans h.2⟩
  | f :: u, x, p, h, hc, ht, hn => by
    obtain ⟨h1, h2, h3, h4, h5, h6⟩ := h
    simp only [fns] at hc hn
    obtain ⟨_, hn⟩ := List.nodup_cons.1 hn
    obtain ⟨no, nu, _⟩ := List.nodup_append.1 hn
    have hk := hc f.k (by simp)
    refine ⟨h1, h2, (hk.1 _).trans h3, hk.2.1.trans h4, ?_, ?_⟩
    · rw [hk.1]
      exact at_same h5 (fun j hj => hc j (by simp [hj])) no
    · rw [hk.2.2]
      exact up_same h6 (fun j hj => hc j (by simp [hj])) ht nu
/-- The side on which a place is. -/
def side : List Fr → Bool
  | [] => true
  | f :: _ => f.d
theorem up_par {s : Tr} {u : List Fr} {x p : Nat} (h : Up s u x p) : (u = [] ∧ p = 0) ∨ (p ∈ fns u ∧ p ≠ 0) := by
  cases u with
  | nil => exact .inl ⟨rfl, h.1⟩
  | cons f u =>
    obtain ⟨rfl, h2, _⟩ := h
    exact .inr ⟨by simp [fns], h2⟩
/-- Another one comes into a place. -/
theorem up_join {s : Tr} {u : List Fr} {x p k : Nat} (h : Up s u x p) (hk : k ∉ fns u) (hn : (fns u).Nodup) (d : Bool) (hd : u ≠ [] → d = side u) : Up (s.join p d k) u k p := by
  cases u with
  | nil =>
    obtain ⟨rfl, _⟩ := h
    exact ⟨rfl, by rw [Tr.top_join]; simp⟩
  | cons f u =>
    obtain ⟨rfl, h2, h3, h4, h5, h6⟩ := h
    have hd' : d = f.d := hd (by simp)
    subst hd'
    simp only [fns] at hk hn
    obtain ⟨hf, hn⟩ := List.nodup_cons.1 hn
    obtain ⟨no, nu, _⟩ := List.nodup_append.1 hn
    have ne : ∀ j, j ∈ f.o.ns ++ fns u → j ≠ f.k := fun j hj e => hf (e ▸ hj)
    have nk : ∀ j, j ∈ f.k :: (f.o.ns ++ fns u) → j ≠ k := fun j hj e => hk (e ▸ hj)
    have same : ∀ j, j ∈ f.o.ns ++ fns u → (∀ d, (s.join f.k f.d k).ch j d = s.ch j d) ∧ (s.join f.k f.d k).red j = s.red j ∧ (s.join f.k f.d k).par j = s.par j := fun j hj =>
      ⟨fun d => by rw [Tr.ch_join, if_neg (fun h => ne j hj h.1)], Tr.red_join _ _ _ _ _, by rw [Tr.par_join, if_neg (fun h => nk j (by simp only [List.mem_cons]; exact .inr hj) h.1)]⟩
    refine ⟨rfl, h2, ?_, ?_, ?_, ?_⟩
    · rw [Tr.ch_join, if_pos ⟨rfl, h2, rfl⟩]
    · rw [Tr.red_join]; exact h4
    · rw [Tr.ch_join, if_neg (fun h => by cases f.d <;> simp at h)]
      exact at_same h5 (fun j hj => same j (by simp [hj])) no
    · rw [Tr.par_join, if_neg (fun h => nk f.k (by simp) h.1)]
      exact up_same h6 (fun j hj => same j (by simp [hj])) (by rw [Tr.top_join, if_neg h2]) nu
/-- The side is told by the left child. -/
theorem up_side {s : Tr} {u : List Fr} {x p : Nat} (h : Up s u x p) (hx : x ≠ 0) (hm : x ∉ fns u) (hu : u ≠ []) : s.onR p x = side u := by
  cases u with
  | nil => exact absurd rfl hu
  | cons f u =>
    obtain ⟨rfl, h2, h3, h4, h5, h6⟩ := h
    unfold Tr.onR side
    cases hd : f.d with
    | false =>
      rw [hd] at h3
      simp [h3, hd]
    | true =>
      rw [hd] at h5
      have : s.ch f.k false ≠ x := by
        intro e
        rcases at_root h5 with ⟨_, e2⟩ | ⟨hm2, _, _⟩
        · rw [show (!true) = false from rfl, e] at e2
          exact hx e2
        · rw [show (!true) = false from rfl, e] at hm2
          exact hm (by simp [fns, hm2])
      have e : (s.ch f.k false != x) = true := by simpa using this
      rw [e]
      exact hd.symm
end Go.Proofs.YtiacclmapicmdaaDoor
