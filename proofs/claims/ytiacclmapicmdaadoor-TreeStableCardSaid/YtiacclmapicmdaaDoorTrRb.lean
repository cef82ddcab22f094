/- Red-black trees: as many black leaves on all ways, no red one below a red one; an addition and a removal keep it. No condition on the program. -/
import Derived.Test.YtiacclmapicmdaaDoorTrBal
namespace Go.Proofs.YtiacclmapicmdaaDoor

/-- n black leaves on each way down, no red leaf below a red one. -/
def Bal : T → Nat → Prop
  | .e, n => n = 0
  | .n c l _ r, n => ∃ m, n = (if c then m else m + 1) ∧ Bal l m ∧ Bal r m ∧ (c = true → l.red = false ∧ r.red = false)
theorem bal_mk {d c : Bool} {a b : T} {k n : Nat} : Bal (.mk d c a k b) n ↔ ∃ m, n = (if c then m else m + 1) ∧ Bal a m ∧ Bal b m ∧ (c = true → a.red = false ∧ b.red = false) := by
  cases d
  · exact Iff.rfl
  · constructor <;> (rintro ⟨m, h1, h2, h3, h4⟩; exact ⟨m, h1, h3, h2, fun h => ⟨(h4 h).2, (h4 h).1⟩⟩)
theorem bal_red {d : Bool} {a b : T} {k n : Nat} : Bal (.mk d true a k b) n ↔ Bal a n ∧ Bal b n ∧ a.red = false ∧ b.red = false := by
  rw [bal_mk]
  constructor
  · rintro ⟨m, rfl, h2, h3, h4⟩
    exact ⟨h2, h3, h4 rfl⟩
  · rintro ⟨h1, h2, h3⟩
    exact ⟨n, rfl, h1, h2, fun _ => h3⟩
theorem bal_black {d : Bool} {a b : T} {k n : Nat} : Bal (.mk d false a k b) (n + 1) ↔ Bal a n ∧ Bal b n := by
  rw [bal_mk]
  constructor
  · rintro ⟨m, h, h2, h3, _⟩
    have : n = m := by simpa using h
    subst this
    exact ⟨h2, h3⟩
  · rintro ⟨h1, h2⟩
    exact ⟨n, rfl, h1, h2, fun h => by cases h⟩
theorem bal_col {t : T} {n : Nat} (h : Bal t n) (hr : t.red = true) : Bal (t.col false) (n + 1) := by
  cases t with
  | e => cases hr
  | n c l k r =>
    have : c = true := hr
    subst this
    obtain ⟨m, rfl, h2, h3, h4⟩ := h
    exact ⟨_, rfl, h2, h3, fun h => by cases h⟩
theorem col_black {t : T} (hr : t.red = false) : t.col false = t := by
  rw [← hr]; exact T.col_same t
theorem bal_redden {t : T} {n : Nat} (h : Bal t (n + 1)) (hr : t.red = false) (h1 : (t.on false).red = false) (h2 : (t.on true).red = false) : Bal (t.col true) n := by
  cases t with
  | e => cases h
  | n c l k r =>
    have : c = false := hr
    subst this
    obtain ⟨m, hm, h3, h4, _⟩ := h
    have : n = m := by simpa using hm
    subst this
    exact ⟨n, rfl, h3, h4, fun _ => ⟨h1, h2⟩⟩
theorem bal_isE {t : T} {n : Nat} (h : Bal t (n + 1)) : t.isE = false := by
  cases t with
  | e => cases h
  | n => rfl
theorem red_isE {t : T} (h : t.red = true) : t.isE = false := by
  cases t with
  | e => cases h
  | n => rfl
/-- No red leaf may come to a way's end. -/
def hc : List Fr → Bool
  | [] => true
  | f :: _ => f.c
/-- A way down whose end wants a tree of n black leaves on each way. -/
def Bu : List Fr → Nat → Prop
  | [], _ => True
  | f :: u, n => Bal f.o n ∧ (f.c = true → f.o.red = false ∧ hc u = false) ∧ Bu u (if f.c then n else n + 1)
/-- A red-black tree. -/
def Rb (t : T) : Prop := (∃ n, Bal t n) ∧ t.red = false
theorem plug_rb : ∀ {u : List Fr} {t : T}, Rb (plug u t) ↔ ∃ n, Bu u n ∧ Bal t n ∧ (t.red = true → hc u = false)
  | [], t => by
    constructor
    · rintro ⟨⟨n, h⟩, hr⟩
      exact ⟨n, trivial, h, fun h2 => by rw [show t.red = false from hr] at h2; cases h2⟩
    · rintro ⟨n, _, h, hr⟩
      refine ⟨⟨n, h⟩, ?_⟩
      cases h2 : t.red with
      | false => exact h2
      | true => cases hr h2
  | f :: u, t => by
    show Rb (plug u (.mk f.d f.c t f.k f.o)) ↔ _
    rw [plug_rb]
    simp only [T.red_mk]
    constructor
    · rintro ⟨n, hu, hb, hc⟩
      obtain ⟨m, rfl, h2, h3, h4⟩ := bal_mk.1 hb
      refine ⟨m, ⟨h3, fun h => ⟨(h4 h).2, hc h⟩, hu⟩, h2, fun h => ?_⟩
      show f.c = false
      cases h5 : f.c with
      | false => rfl
      | true => rw [(h4 h5).1] at h; cases h
    · rintro ⟨n, ⟨h1, h2, h3⟩, h4, h5⟩
      refine ⟨_, h3, bal_mk.2 ⟨n, rfl, h4, h1, fun h => ⟨?_, (h2 h).1⟩⟩, fun h => (h2 h).2⟩
      cases h6 : t.red with
      | false => rfl
      | true =>
        have : f.c = false := h5 h6
        rw [this] at h; cases h
theorem addTurn_bal {f g : Fr} {t : T} {n : Nat} (ht : Bal t n) (hr : t.red = true) (hf : Bal f.o n) (hfr : f.o.red = false) (hg : Bal g.o n) (hgr : g.o.red = false) : Bal (addTurn f g t) (n + 1) ∧ (addTurn f g t).red = false := by
  unfold addTurn
  split
  · exact ⟨bal_black.2 ⟨ht, bal_red.2 ⟨hf, hg, hfr, hgr⟩⟩, T.red_mk ..⟩
  · have e := T.as_mk (red_isE hr) g.d
    rw [hr] at e
    generalize t.on g.d = a, t.on (!g.d) = b, t.root = k at e ⊢
    subst e
    obtain ⟨h1, h2, h3, h4⟩ := bal_red.1 ht
    exact ⟨bal_black.2 ⟨bal_red.2 ⟨hf, h1, hfr, h3⟩, bal_red.2 ⟨h2, hg, h4, hgr⟩⟩, T.red_mk ..⟩
theorem addFix_rb : ∀ {u : List Fr} {t : T} {n : Nat}, Bu u n → Bal t n → t.red = true → Rb ((addFix u t).col false)
  | [], t, n, _, ht, hr => ⟨⟨_, bal_col ht hr⟩, T.red_blk t⟩
  | [f], t, n, hu, ht, hr => by
    have hf : f.c = false := by
      cases h : f.c with
      | false => rfl
      | true => cases (hu.2.1 h).2
    have : Rb (plug [f] t) := plug_rb.2 ⟨n, hu, ht, fun _ => hf⟩
    show Rb ((plug [f] t).col false)
    rw [col_black this.2]
    exact this
  | f :: g :: u, t, n, hu, ht, hr => by
    unfold addFix
    split
    · rename_i hfc
      obtain ⟨h1, h2, h3, h4, h5⟩ := hu
      rw [if_pos hfc] at h3 h5
      obtain ⟨h6, h7⟩ := h2 hfc
      have hg : g.c = false := h7
      rw [hg, if_neg (by simp)] at h5
      split
      · rename_i hgo
        refine addFix_rb h5 (n := n + 1) (bal_red.2 ⟨bal_black.2 ⟨ht, h1⟩, bal_col h3 hgo, T.red_mk .., T.red_blk _⟩) (T.red_mk ..)
      · rename_i hgo
        have hgo : g.o.red = false := by simpa using hgo
        obtain ⟨h8, h9⟩ := addTurn_bal ht hr h1 h6 h3 hgo
        have : Rb (plug u (addTurn f g t)) := plug_rb.2 ⟨_, h5, h8, fun h => by rw [h9] at h; cases h⟩
        rw [col_black this.2]
        exact this
    · rename_i hfc
      have hfc : f.c = false := by simpa using hfc
      have : Rb (plug (f :: g :: u) t) := plug_rb.2 ⟨n, hu, ht, fun _ => hfc⟩
      rw [col_black this.2]
      exact this
theorem delTurn_bal {f : Fr} {t w : T} {n : Nat} (ht : Bal t n) (hw : Bal w (n + 1)) (hwr : w.red = false) (hr : ¬ ((!(w.on false).red && !(w.on true).red) = true)) : Bal (delTurn f t w) (if f.c then n + 1 else n + 2) ∧ (delTurn f t w).red = f.c := by
  have hr2 : (w.on (!f.d)).red = false → (w.on f.d).red = true := fun h => by
    cases hd : f.d <;> rw [hd] at h
    · rw [show (!false) = true from rfl] at h
      rw [h] at hr
      simpa using hr
    · rw [show (!true) = false from rfl] at h
      rw [h] at hr
      simpa using hr
  clear hr
  have e := T.as_mk (bal_isE hw) f.d
  rw [hwr] at e
  unfold delTurn
  generalize w.on f.d = a, w.on (!f.d) = b, w.root = k at e hr2 ⊢
  subst e
  obtain ⟨h1, h2⟩ := bal_black.1 hw
  have top : ∀ {p q : T} {j : Nat}, Bal p (n + 1) → Bal q (n + 1) → p.red = false → q.red = false → Bal (.mk f.d f.c p j q) (if f.c then n + 1 else n + 2) := fun hp hq pr qr => by
    cases f.c
    · exact bal_black.2 ⟨hp, hq⟩
    · exact bal_red.2 ⟨hp, hq, pr, qr⟩
  split
  · rename_i h
    exact ⟨top (bal_black.2 ⟨ht, h1⟩) (bal_col h2 h) (T.red_mk ..) (T.red_blk _), T.red_mk ..⟩
  · rename_i h
    have ha : a.red = true := hr2 (by simpa using h)
    have e := T.as_mk (red_isE ha) f.d
    rw [ha] at e
    generalize a.on f.d = a1, a.on (!f.d) = a2, a.root = k1 at e ⊢
    subst e
    obtain ⟨h3, h4, h5, h6⟩ := bal_red.1 h1
    exact ⟨top (bal_black.2 ⟨ht, h3⟩) (bal_black.2 ⟨h4, h2⟩) (T.red_mk ..) (T.red_mk ..), T.red_mk ..⟩
theorem delFix_rb : ∀ {u : List Fr} {t : T} {n : Nat}, Bu u (n + 1) → Bal t n → Rb (delFix u t)
  | [], t, n, _, ht => by
    refine ⟨?_, T.red_blk t⟩
    cases h : t.red with
    | false => exact ⟨n, by show Bal (t.col false) n; rw [col_black h]; exact ht⟩
    | true => exact ⟨n + 1, bal_col ht h⟩
  | f :: u, t, n, hu, ht => by
    unfold delFix
    split
    · rename_i h
      exact plug_rb.2 ⟨n + 1, hu, bal_col ht h, fun h2 => by rw [T.red_blk] at h2; cases h2⟩
    · rename_i hr
      obtain ⟨h1, h2, h3⟩ := hu
      split
      · rename_i hw
        have hfc : f.c = false := by
          cases h : f.c with
          | false => rfl
          | true => rw [(h2 h).1] at hw; cases hw
        rw [hfc, if_neg (by simp)] at h3
        have e := T.as_mk (red_isE hw) f.d
        rw [hw] at e
        generalize f.o.on f.d = a, f.o.on (!f.d) = b, f.o.root = k at e ⊢
        rw [e] at h1
        obtain ⟨h4, h5, h6, h7⟩ := bal_red.1 h1
        split
        · rename_i hb
          have hb : (a.on false).red = false ∧ (a.on true).red = false := by simpa using hb
          exact plug_rb.2 ⟨n + 2, h3, bal_black.2 ⟨bal_black.2 ⟨ht, bal_redden h4 h6 hb.1 hb.2⟩, h5⟩, fun h => by rw [T.red_mk] at h; cases h⟩
        · rename_i hb
          obtain ⟨h8, h9⟩ := delTurn_bal (f := ⟨f.d, true, f.k, a⟩) ht h4 h6 hb
          exact plug_rb.2 ⟨n + 2, h3, bal_black.2 ⟨h8, h5⟩, fun h => by rw [T.red_mk] at h; cases h⟩
      · rename_i hw
        have hw : f.o.red = false := by simpa using hw
        split
        · rename_i hb
          have hb : (f.o.on false).red = false ∧ (f.o.on true).red = false := by simpa using hb
          have hn := bal_redden h1 hw hb.1 hb.2
          cases hfc : f.c with
          | true =>
            rw [hfc, if_pos rfl] at h3
            have hcu := (h2 hfc).2
            -- p is red: it becomes black at once
            have hp : Bal (.mk f.d false t f.k (f.o.col true)) (n + 1) := bal_black.2 ⟨ht, hn⟩
            cases u with
            | nil => cases hcu
            | cons g u =>
              unfold delFix
              rw [if_pos (T.red_mk ..), T.col_mk]
              exact plug_rb.2 ⟨n + 1, h3, hp, fun h => by rw [T.red_mk] at h; cases h⟩
          | false =>
            rw [hfc, if_neg (by simp)] at h3
            exact delFix_rb h3 (bal_black.2 ⟨ht, hn⟩)
        · rename_i hb
          obtain ⟨h8, h9⟩ := delTurn_bal (f := f) ht h1 hw hb
          exact plug_rb.2 ⟨_, h3, h8, fun h => by
            rw [h9] at h
            exact (h2 h).2⟩
end Go.Proofs.YtiacclmapicmdaaDoor
