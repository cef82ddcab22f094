/- Steps up and down, what is read, what is painted; a leaf that comes in, one that goes, one that stands in for another. No condition on the program. -/
import Derived.Test.YtiacclmapicmdaaDoorTrTurn
import Derived.Test.YtiacclmapicmdaaDoorTrDo
namespace Go.Proofs.YtiacclmapicmdaaDoor

theorem At.root {s : Tr} : ∀ {t : T} {x p : Nat}, At s t x p → x = t.root
  | .e, _, _, h => h
  | .n .., _, _, h => h.1
theorem Rp.root {s : Tr} {u : List Fr} {t : T} {x p : Nat} (h : Rp s u t x p) : x = t.root := h.at_.root
theorem At.kid {s : Tr} : ∀ {t : T} {x p : Nat}, At s t x p → t.isE = false → (∀ d, s.ch x d = (t.on d).root) ∧ s.red x = t.red ∧ s.par x = p ∧ x ≠ 0
  | .e, _, _, _, h => by cases h
  | .n c l k r, _, _, ⟨h1, h2, h3, h4, h5, h6⟩, _ => by
    subst h1
    refine ⟨fun d => ?_, h4, h3, h2⟩
    cases d
    · exact h5.root
    · exact h6.root
theorem Rp.kid {s : Tr} {u : List Fr} {t : T} {x p : Nat} (h : Rp s u t x p) (ht : t.isE = false) : (∀ d, s.ch x d = (t.on d).root) ∧ s.red x = t.red ∧ s.par x = p ∧ x ≠ 0 := h.at_.kid ht
theorem isE_root {s : Tr} {t : T} {x p : Nat} (h : At s t x p) : t.isE = decide (x = 0) := by
  cases t with
  | e => have : x = 0 := h; simp [this, T.isE]
  | n c l k r => obtain ⟨rfl, h2, _⟩ := h; simp [h2, T.isE]
theorem Rp.top {s : Tr} {t : T} {x p : Nat} (h : Rp s [] t x p) : p = 0 ∧ s.top = x := h.up
/-- One step up. -/
theorem Rp.fr {s : Tr} {f : Fr} {u : List Fr} {t : T} {x p : Nat} (h : Rp s (f :: u) t x p) : p = f.k ∧ s.ch f.k f.d = x ∧ s.ch f.k (!f.d) = f.o.root ∧ s.red f.k = f.c ∧ f.k ≠ 0 := by
  obtain ⟨h1, h2, h3, h4, h5, _⟩ := h.up
  exact ⟨h1, h3, h5.root, h4, h2⟩
theorem Rp.out {s : Tr} {f : Fr} {u : List Fr} {t : T} {x p : Nat} (h : Rp s (f :: u) t x p) : Rp s u (.mk f.d f.c t f.k f.o) f.k (s.par f.k) := by
  obtain ⟨h1, h2, _⟩ := h.fr
  subst h1
  refine rp_down.2 ⟨rfl, ?_, rfl⟩
  rw [h2]
  exact h
theorem Rp.in_ {s : Tr} {u : List Fr} {d c : Bool} {a b : T} {k x p : Nat} (h : Rp s u (.mk d c a k b) x p) : Rp s (⟨d, c, k, b⟩ :: u) a (s.ch k d) k := (rp_down.1 h).2.1
/-- To the other side. -/
theorem Rp.over {s : Tr} {f : Fr} {u : List Fr} {t : T} {x p : Nat} (h : Rp s (f :: u) t x p) : Rp s (⟨!f.d, f.c, f.k, t⟩ :: u) f.o f.o.root f.k := by
  have h2 := h.out
  rw [← T.mk_not] at h2
  have h3 := h2.in_
  rw [h.fr.2.2.1] at h3
  exact h3
theorem Rp.col {s : Tr} {u : List Fr} {t : T} {x p : Nat} (h : Rp s u t x p) (c : Bool) : Rp (s.paint x c) u (t.col c) x p := by
  cases t with
  | e =>
    have : x = 0 := h.at_
    subst this
    exact h
  | n c' l k r => exact Rp.paint (d := false) (c := c') h c
/-- The uncle is painted: to the other side and back. -/
theorem Rp.other {s : Tr} {f : Fr} {u : List Fr} {t : T} {x p : Nat} (h : Rp s (f :: u) t x p) (c : Bool) : Rp (s.paint f.o.root c) (⟨f.d, f.c, f.k, f.o.col c⟩ :: u) t x p := by
  have h2 := (h.over.col c).over
  simp only [Bool.not_not] at h2
  have e := h.fr.1
  subst e
  rw [← h.root] at h2
  exact h2
/-- The parent is painted. -/
theorem Rp.colUp {s : Tr} {f : Fr} {u : List Fr} {t : T} {x p : Nat} (h : Rp s (f :: u) t x p) (c : Bool) : Rp (s.paint f.k c) (⟨f.d, c, f.k, f.o⟩ :: u) t x p := by
  have h2 := h.out.col c
  rw [T.col_mk] at h2
  have h3 := h2.in_
  rw [Tr.ch_paint, h.fr.2.1] at h3
  rw [h.fr.1]
  exact h3
theorem rp_plug {s : Tr} : ∀ {lo u : List Fr} {t : T} {x p : Nat}, Rp s (lo ++ u) t x p → ∃ x' p', Rp s u (plug lo t) x' p'
  | [], _, _, x, p, h => ⟨x, p, h⟩
  | _ :: lo, _, _, _, _, h => rp_plug (lo := lo) h.out
theorem plug_rp {s : Tr} : ∀ {lo u : List Fr} {t : T} {x' p' : Nat}, Rp s u (plug lo t) x' p' → ∃ x p, Rp s (lo ++ u) t x p
  | [], _, _, x, p, h => ⟨x, p, h⟩
  | _ :: lo, _, _, _, _, h => by
    obtain ⟨_, _, h2⟩ := plug_rp (lo := lo) h
    exact ⟨_, _, h2.in_⟩
/-- Whatever is no leaf of the tree may change. -/
theorem Rp.same {s s' : Tr} {u : List Fr} {t : T} {x p : Nat} (h : Rp s u t x p) (hc : ∀ k, k ∈ t.ns ∨ k ∈ fns u → (∀ d, s'.ch k d = s.ch k d) ∧ s'.red k = s.red k ∧ s'.par k = s.par k) (ht : s'.top = s.top) : Rp s' u t x p :=
  ⟨up_same h.up (fun k hk => hc k (.inr hk)) ht h.nu, at_same h.at_ (fun k hk => hc k (.inl hk)) h.nt, h.nt, h.nu, h.ap⟩
theorem Rp.sd {s : Tr} {u : List Fr} {t : T} {x p : Nat} (h : Rp s u t x p) (ht : t.isE = false) (hu : u ≠ []) : s.onR p x = side u :=
  up_side h.up (h.kid ht).2.2.2 (h.ap x (by
    rcases at_root h.at_ with ⟨e, _⟩ | ⟨hm, _⟩
    · rw [e] at ht; cases ht
    · exact hm)) hu
/-- Something else comes into a place: a tree whose leaves weren't there. -/
theorem rp_join {s : Tr} {u : List Fr} {t t' : T} {x x' p p' : Nat} (h : Rp s u t x p) (ha : At s t' x' p') (hn : t'.ns.Nodup) (hd : ∀ j, j ∈ t'.ns → j ∉ fns u) {d : Bool} (hs : u ≠ [] → d = side u) : Rp (s.join p d x') u t' x' p := by
  have hp : ∀ j, j ∈ t'.ns → ¬ (j = p ∧ p ≠ 0) := fun j hj ⟨e, h0⟩ => by
    rcases up_par h.up with ⟨_, h1⟩ | ⟨h1, _⟩
    · exact h0 h1
    · exact hd j hj (e ▸ h1)
  rcases at_root ha with ⟨e, e2⟩ | ⟨hm, h0, _⟩
  · subst e; subst e2
    have hu : Up (s.join p d 0) u 0 p := up_join h.up (fun hm => by
      -- no way down goes by 0
      have : ∀ {u : List Fr} {x p : Nat}, Up s u x p → 0 ∉ fns u := fun {u} => by
        induction u with
        | nil => intro x p _; simp [fns]
        | cons f u ih =>
          rintro x p ⟨_, h2, _, _, h5, h6⟩
          simp only [fns, List.mem_cons, List.mem_append, not_or]
          exact ⟨fun e => h2 e.symm, at_pos h5, ih h6⟩
      exact this h.up hm) h.nu d hs
    exact ⟨hu, rfl, List.nodup_nil, h.nu, fun j hj => by cases hj⟩
  · refine ⟨up_join h.up (hd _ hm) h.nu d hs, ?_, hn, h.nu, hd⟩
    refine at_move ha (fun k hk => ⟨fun e => ?_, Tr.red_join _ _ _ _ _⟩) (fun k _ hkx => ?_) (fun _ => ?_) hn
    · rw [Tr.ch_join, if_neg (fun h => hp k hk ⟨h.1, h.2.1⟩)]
    · rw [Tr.par_join, if_neg (fun h => hkx h.1)]
    · rw [Tr.par_join, if_pos ⟨rfl, h0⟩]
/-- A leaf that stood in no tree comes in. -/
theorem rp_new {s : Tr} {u : List Fr} {k p : Nat} (h : Rp s u .e 0 p) (hk : k ∉ fns u) (k0 : k ≠ 0) (hz : ∀ d, s.ch k d = 0) {d : Bool} (hs : u ≠ [] → d = side u) : Rp ((s.join p d k).paint k true) u (.n true .e k .e) k p := by
  have ha : At s (.n (s.red k) .e k .e) k (s.par k) := ⟨rfl, k0, rfl, rfl, hz false, hz true⟩
  have h2 := rp_join h ha (by simp [T.ns]) (fun j hj => by simp [T.ns] at hj; rw [hj]; exact hk) hs
  exact h2.col true
end Go.Proofs.YtiacclmapicmdaaDoor
