/- The two rebalancings' loops: what each case leaves to do; a whole tree and the leaves that stand in none. No condition on the program. -/
import Derived.Test.YtiacclmapicmdaaDoorTrCases
import Derived.Test.YtiacclmapicmdaaDoorTrRem
namespace Go.Proofs.YtiacclmapicmdaaDoor

theorem addFix_stop {u : List Fr} {t : T} (h : hc u = false ∨ u = []) : addFix u t = plug u t := by
  match u with
  | [] => rfl
  | [_] => rfl
  | f :: g :: u =>
    have h : f.c = false := by
      rcases h with h | h
      · exact h
      · cases h
    rw [addFix, if_neg (by rw [h]; simp)]
theorem addFix_red {f g : Fr} {u : List Fr} {t : T} (h1 : f.c = true) (h2 : g.o.red = true) : addFix (f :: g :: u) t = addFix u (.mk g.d true (.mk f.d false t f.k f.o) g.k (g.o.col false)) := by
  rw [addFix, if_pos h1, if_pos h2]
theorem addFix_out {f g : Fr} {u : List Fr} {t : T} (h1 : f.c = true) (h2 : g.o.red = false) (h3 : f.d = g.d) : addFix (f :: g :: u) t = plug u (.mk g.d false t f.k (.mk g.d true f.o g.k g.o)) := by
  rw [addFix, if_pos h1, if_neg (by rw [h2]; simp), addTurn, if_pos h3]
/-- What the inner side becomes is the outer side's. -/
theorem addFix_in {f g : Fr} {u : List Fr} {t : T} (h1 : f.c = true) (h2 : g.o.red = false) (h3 : f.d = !g.d) (ht : t.red = true) : addFix (f :: g :: u) t = addFix (⟨g.d, t.red, t.root, t.on (!g.d)⟩ :: g :: u) (.mk g.d f.c f.o f.k (t.on g.d)) := by
  rw [addFix_out (f := ⟨g.d, t.red, t.root, t.on (!g.d)⟩) ht h2 rfl]
  rw [addFix, if_pos h1, if_neg (by rw [h2]; simp), addTurn, if_neg (by rw [h3]; cases g.d <;> simp), h1]
/-- A red leaf has a parent. -/
theorem hc_cons {u : List Fr} (h : hc u = false) : u ≠ [] := by
  intro e
  subst e
  cases h
theorem delFix_red {f : Fr} {u : List Fr} {t : T} (h : t.red = true) : delFix (f :: u) t = plug (f :: u) (t.col false) := by
  rw [delFix, if_pos h]
theorem delFix_two {f : Fr} {u : List Fr} {t : T} (h : t.red = false) (hw : f.o.red = false) (h1 : (f.o.on f.d).red = false) (h2 : (f.o.on (!f.d)).red = false) : delFix (f :: u) t = delFix u (.mk f.d f.c t f.k (f.o.col true)) := by
  have hb : (!(f.o.on false).red && !(f.o.on true).red) = true := by
    cases hd : f.d <;> rw [hd] at h1 h2
    · rw [h1, show (f.o.on true).red = false from h2]; rfl
    · rw [h1, show (f.o.on false).red = false from h2]; rfl
  rw [delFix, if_neg (by rw [h]; simp), if_neg (by rw [hw]; simp), if_pos hb]
theorem not_both {f : Fr} (hr : (f.o.on f.d).red = true ∨ (f.o.on (!f.d)).red = true) : ¬ ((!(f.o.on false).red && !(f.o.on true).red) = true) := by
  intro h
  have h : (f.o.on false).red = false ∧ (f.o.on true).red = false := by simpa using h
  cases hd : f.d <;> rw [hd] at hr <;> rcases hr with hr | hr
  · rw [h.1] at hr; cases hr
  · rw [show (f.o.on true).red = true from hr] at h; cases h.2
  · rw [h.2] at hr; cases hr
  · rw [show (f.o.on false).red = true from hr] at h; cases h.1
theorem delFix_far {f : Fr} {u : List Fr} {t : T} (h : t.red = false) (hw : f.o.red = false) (hf : (f.o.on (!f.d)).red = true) : delFix (f :: u) t = plug u (.mk f.d f.c (.mk f.d false t f.k (f.o.on f.d)) f.o.root ((f.o.on (!f.d)).col false)) := by
  rw [delFix, if_neg (by rw [h]; simp), if_neg (by rw [hw]; simp), if_neg (not_both (.inr hf)), delTurn, if_pos hf]
theorem delFix_near {f : Fr} {u : List Fr} {t : T} (h : t.red = false) (hw : f.o.red = false) (hf : (f.o.on (!f.d)).red = false) (hn : (f.o.on f.d).red = true) :
    delFix (f :: u) t = delFix (⟨f.d, f.c, f.k, .mk f.d false ((f.o.on f.d).on f.d) (f.o.on f.d).root (.mk f.d true ((f.o.on f.d).on (!f.d)) f.o.root (f.o.on (!f.d)))⟩ :: u) t := by
  have e1 := delFix_far (u := u) (t := t) (f := ⟨f.d, f.c, f.k, .mk f.d false ((f.o.on f.d).on f.d) (f.o.on f.d).root (.mk f.d true ((f.o.on f.d).on (!f.d)) f.o.root (f.o.on (!f.d)))⟩) h (T.red_mk ..) (by rw [T.on_mk', T.red_mk])
  rw [e1]
  rw [delFix, if_neg (by rw [h]; simp), if_neg (by rw [hw]; simp), if_neg (not_both (.inl hn)), delTurn, if_neg (by rw [hf]; simp)]
  simp only [T.on_mk, T.on_mk', T.root_mk, T.col_mk]
theorem delFix_one {f : Fr} {u : List Fr} {t : T} (h : t.red = false) (hw : f.o.red = true) (ha : (f.o.on f.d).red = false) :
    delFix (f :: u) t = delFix (⟨f.d, true, f.k, f.o.on f.d⟩ :: ⟨f.d, false, f.o.root, f.o.on (!f.d)⟩ :: u) t := by
  have two : ∀ {f : Fr} {u : List Fr}, f.o.red = false → (!(f.o.on false).red && !(f.o.on true).red) = true → delFix (f :: u) t = delFix u (.mk f.d f.c t f.k (f.o.col true)) := fun {f u} hw hb => by
    rw [delFix, if_neg (by rw [h]; simp), if_neg (by rw [hw]; simp), if_pos hb]
  have three : ∀ {f : Fr} {u : List Fr}, f.o.red = false → ¬ ((!(f.o.on false).red && !(f.o.on true).red) = true) → delFix (f :: u) t = plug u (delTurn f t f.o) := fun {f u} hw hb => by
    rw [delFix, if_neg (by rw [h]; simp), if_neg (by rw [hw]; simp), if_neg hb]
  by_cases hb : (!((f.o.on f.d).on false).red && !((f.o.on f.d).on true).red) = true
  · have e2 := two (f := ⟨f.d, true, f.k, f.o.on f.d⟩) (u := ⟨f.d, false, f.o.root, f.o.on (!f.d)⟩ :: u) ha hb
    dsimp only at e2
    rw [e2, delFix_red (T.red_mk ..), T.col_mk, delFix, if_neg (by rw [h]; simp), if_pos hw, if_pos hb]
    rfl
  · have e2 := three (f := ⟨f.d, true, f.k, f.o.on f.d⟩) (u := ⟨f.d, false, f.o.root, f.o.on (!f.d)⟩ :: u) ha hb
    rw [e2, delFix, if_neg (by rw [h]; simp), if_pos hw, if_neg hb]
    rfl
/-- The topmost leaf stands on the way. -/
theorem up_top {s : Tr} : ∀ {u : List Fr} {x p : Nat}, Up s u x p → u ≠ [] → s.top ∈ fns u ∧ s.top ≠ 0
  | [], _, _, _, h => absurd rfl h
  | [f], x, p, h, _ => by
    obtain ⟨_, h2, _, _, _, h6⟩ := h
    obtain ⟨_, h7⟩ := h6
    rw [h7]
    exact ⟨by simp [fns], h2⟩
  | f :: g :: u, x, p, h, _ => by
    obtain ⟨_, _, _, _, _, h6⟩ := h
    obtain ⟨h7, h8⟩ := up_top h6 (by simp)
    exact ⟨by simp only [fns, List.mem_cons, List.mem_append] at h7 ⊢; exact .inr (.inr h7), h8⟩
theorem Rp.not_top {s : Tr} {u : List Fr} {t : T} {x p : Nat} (h : Rp s u t x p) (hu : u ≠ []) : x ≠ s.top := by
  obtain ⟨h1, h2⟩ := up_top h.up hu
  intro e
  rcases at_root h.at_ with ⟨_, h0⟩ | ⟨hm, _⟩
  · exact h2 (e.symm.trans h0)
  · exact h.ap x hm (by rw [e]; exact h1)

/-- A whole tree; what isn't in it has no links. -/
structure Al (s : Tr) (t : T) : Prop where
  at_ : At s t s.top 0
  nt : t.ns.Nodup
  no : ∀ j, j ∉ t.ns → j ≠ 0 → (∀ d, s.ch j d = 0) ∧ s.par j = 0 ∧ s.red j = false
theorem Al.rp {s : Tr} {t : T} (h : Al s t) : Rp s [] t s.top 0 := ⟨⟨rfl, rfl⟩, h.at_, h.nt, List.nodup_nil, fun _ _ h => by cases h⟩
theorem Rp.whole {s : Tr} : ∀ {u : List Fr} {t : T} {x p : Nat}, Rp s u t x p → At s (plug u t) s.top 0 ∧ (plug u t).ns.Nodup
  | [], _, _, _, h => by
    obtain ⟨h1, h2⟩ := h.top
    subst h1
    rw [h2]
    exact ⟨h.at_, h.nt⟩
  | _ :: u, _, _, _, h => Rp.whole (u := u) h.out
theorem Al.plug_rp {s : Tr} {u : List Fr} {t : T} (h : Al s (plug u t)) : ∃ x p, Rp s u t x p := by
  obtain ⟨x, p, h2⟩ := Go.Proofs.YtiacclmapicmdaaDoor.plug_rp (lo := u) (u := []) h.rp
  rw [List.append_nil] at h2
  exact ⟨x, p, h2⟩
/-- A tree's links are told by the tree. -/
theorem at_same2 {s s' : Tr} : ∀ {t : T} {x x' p : Nat}, At s t x p → At s' t x' p → x = x' ∧ ∀ k, k ∈ t.ns → (∀ d, s.ch k d = s'.ch k d) ∧ s.par k = s'.par k ∧ s.red k = s'.red k
  | .e, x, x', p, h, h' => ⟨(show x = 0 from h).trans (show x' = 0 from h').symm, fun _ hk => by cases hk⟩
  | .n c l j r, x, x', p, h, h' => by
    obtain ⟨rfl, _, h3, h4, h5, h6⟩ := h
    obtain ⟨rfl, _, h3', h4', h5', h6'⟩ := h'
    obtain ⟨e1, k1⟩ := at_same2 h5 h5'
    obtain ⟨e2, k2⟩ := at_same2 h6 h6'
    refine ⟨rfl, fun k hk => ?_⟩
    simp only [T.ns, List.mem_append, List.mem_cons] at hk
    rcases hk with hk | hk | hk
    · exact k1 k hk
    · subst hk
      exact ⟨fun d => by cases d <;> assumption, h3.trans h3'.symm, h4.trans h4'.symm⟩
    · exact k2 k hk
theorem Al.same {s s' : Tr} {t : T} (h : Al s t) (h' : Al s' t) : s.top = s'.top ∧ ∀ k, k ≠ 0 → (∀ d, s.ch k d = s'.ch k d) ∧ s.par k = s'.par k ∧ s.red k = s'.red k := by
  obtain ⟨e, hk⟩ := at_same2 h.at_ h'.at_
  refine ⟨e, fun k k0 => ?_⟩
  by_cases hm : k ∈ t.ns
  · exact hk k hm
  · obtain ⟨a1, a2, a3⟩ := h.no k hm k0
    obtain ⟨b1, b2, b3⟩ := h'.no k hm k0
    exact ⟨fun d => by rw [a1, b1], by rw [a2, b2], by rw [a3, b3]⟩
/-- A leaf of a tree stands at the end of a way down. -/
theorem find_way : ∀ {t : T} {u : List Fr} {k : Nat}, k ∈ t.ns → ∃ u' c l r, plug u' (.n c l k r) = plug u t
  | .e, _, _, h => by cases h
  | .n c l j r, u, k, h => by
    simp only [T.ns, List.mem_append, List.mem_cons] at h
    rcases h with h | h | h
    · exact find_way (t := l) (u := ⟨false, c, j, r⟩ :: u) h
    · subst h; exact ⟨u, c, l, r, rfl⟩
    · exact find_way (t := r) (u := ⟨true, c, j, l⟩ :: u) h
end Go.Proofs.YtiacclmapicmdaaDoor
