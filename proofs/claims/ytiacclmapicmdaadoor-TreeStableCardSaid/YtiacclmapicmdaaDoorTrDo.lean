/- What an addition and a removal make of a tree: its order, and that it stays red-black. No condition on the program. -/
import Derived.Test.YtiacclmapicmdaaDoorTrRb
namespace Go.Proofs.YtiacclmapicmdaaDoor

/-- What stands to the left of a way's end, and to its right. -/
def pre : List Fr → List Nat
  | [] => []
  | f :: u => pre u ++ (if f.d then f.o.ns ++ [f.k] else [])
def post : List Fr → List Nat
  | [] => []
  | f :: u => (if f.d then [] else f.k :: f.o.ns) ++ post u
theorem plug_split : ∀ (u : List Fr) (t : T), (plug u t).ns = pre u ++ t.ns ++ post u
  | [], t => by simp [plug, pre, post]
  | f :: u, t => by
    show (plug u (.mk f.d f.c t f.k f.o)).ns = _
    rw [plug_split u]
    cases h : f.d <;> simp [T.mk, T.ns, pre, post, h]
theorem delFix_ns : ∀ (u : List Fr) (t : T), (delFix u t).ns = (plug u t).ns
  | [], t => T.ns_col _ _
  | f :: u, t => by
    have red2 : ∀ {w : T}, ¬ ((!(w.on false).red && !(w.on true).red) = true) → w.isE = false ∧ ((w.on false).red = true ∨ (w.on true).red = true) := fun {w} h => by
      have h2 : (w.on false).red = true ∨ (w.on true).red = true := by
        cases h1 : (w.on false).red <;> cases h2 : (w.on true).red <;> simp_all
      refine ⟨?_, h2⟩
      cases w with
      | e => rcases h2 with h | h <;> cases h
      | n => rfl
    unfold delFix
    split
    · exact plug_ns (f :: u) (T.ns_col _ _)
    · split
      · rename_i hw
        have e := T.as_mk (red_isE hw) f.d
        have fin : ∀ {q : T}, q.ns = (T.mk f.d f.c t f.k (f.o.on f.d)).ns → (plug u (.mk f.d false q f.o.root (f.o.on (!f.d)))).ns = (plug (f :: u) t).ns := fun {q} hq => by
          refine plug_ns u ?_
          rw [e, T.root_mk, T.on_mk', T.ns_turn f.d f.c f.o.red t (f.o.on f.d) (f.o.on (!f.d)) f.k f.o.root false false]
          refine T.ns_mk_congr (hq.trans (T.ns_mk_congr rfl rfl)) rfl
        split
        · exact fin (T.ns_mk_congr rfl (T.ns_col _ _))
        · rename_i hb
          obtain ⟨h1, h2⟩ := red2 hb
          exact fin ((delTurn_ns ⟨f.d, true, f.k, f.o.on f.d⟩ t h1 h2).trans (T.ns_mk_congr rfl rfl))
      · split
        · rw [delFix_ns u]
          exact plug_ns u (T.ns_mk_congr rfl (T.ns_col _ _))
        · rename_i hb
          obtain ⟨h1, h2⟩ := red2 hb
          exact plug_ns u (delTurn_ns f t h1 h2)

/-- The way down that a new leaf takes. -/
def way (key : Nat → Nat) (k : Nat) : T → List Fr → List Fr
  | .e, u => u
  | .n c l j r, u => if key k < key j then way key k l (⟨false, c, j, r⟩ :: u) else way key k r (⟨true, c, j, l⟩ :: u)
theorem way_plug (key : Nat → Nat) (k : Nat) : ∀ (t : T) (u : List Fr), plug (way key k t u) .e = plug u t
  | .e, u => rfl
  | .n c l j r, u => by
    unfold way
    split
    · exact way_plug key k l _
    · exact way_plug key k r _
def addT (key : Nat → Nat) (k : Nat) (t : T) : T := (addFix (way key k t []) (.n true .e k .e)).col false
theorem addT_rb {key : Nat → Nat} {k : Nat} {t : T} (h : Rb t) : Rb (addT key k t) := by
  have h : Rb (plug (way key k t []) .e) := by rw [way_plug]; exact h
  obtain ⟨n, hu, ht, _⟩ := plug_rb.1 h
  have : n = 0 := ht
  subst this
  exact addFix_rb hu (t := .n true .e k .e) ⟨0, rfl, rfl, rfl, fun _ => ⟨rfl, rfl⟩⟩ rfl
theorem addT_ns (key : Nat → Nat) (k : Nat) (t : T) : (addT key k t).ns = pre (way key k t []) ++ k :: post (way key k t []) ∧ t.ns = pre (way key k t []) ++ post (way key k t []) := by
  constructor
  · show ((addFix _ _).col false).ns = _
    rw [T.ns_col, addFix_ns _ rfl, plug_split]
    simp [T.ns]
  · have := plug_split (way key k t []) .e
    rw [way_plug] at this
    simpa [T.ns, plug] using this
/-- Keys don't fall. -/
def Asc (key : Nat → Nat) (L : List Nat) : Prop := L.Pairwise (fun i j => key i ≤ key j)
theorem way_keys {key : Nat → Nat} {k : Nat} : ∀ {t : T} {u : List Fr}, Asc key (plug u t).ns → (∀ j, j ∈ pre u → key j ≤ key k) → (∀ j, j ∈ post u → key k < key j) → (∀ j, j ∈ pre (way key k t u) → key j ≤ key k) ∧ (∀ j, j ∈ post (way key k t u) → key k < key j)
  | .e, u, _, h1, h2 => ⟨h1, h2⟩
  | .n c l m r, u, ha, h1, h2 => by
    have ha' := ha
    rw [plug_split] at ha'
    unfold Asc at ha'
    simp only [T.ns, List.pairwise_append, List.pairwise_cons] at ha'
    obtain ⟨⟨_, ⟨_, ⟨hr, _⟩, hl⟩, _⟩, _, _⟩ := ha'
    unfold way
    split
    · rename_i hk
      refine way_keys (t := l) (u := ⟨false, c, m, r⟩ :: u) ha (fun j hj => h1 j (by simpa [pre] using hj)) (fun j hj => ?_)
      have hj : j = m ∨ j ∈ r.ns ∨ j ∈ post u := by simpa [post] using hj
      rcases hj with hj | hj | hj
      · rw [hj]; exact hk
      · exact Nat.lt_of_lt_of_le hk (hr j hj)
      · exact h2 j hj
    · rename_i hk
      refine way_keys (t := r) (u := ⟨true, c, m, l⟩ :: u) ha (fun j hj => ?_) (fun j hj => h2 j (by simpa [post] using hj))
      have hj : j ∈ pre u ∨ j ∈ l.ns ∨ j = m := by simpa [pre] using hj
      rcases hj with hj | hj | hj
      · exact h1 j hj
      · exact Nat.le_trans (hl j hj m (by simp)) (by omega)
      · rw [hj]; omega
/-- A new leaf stands behind all whose keys aren't above its own. -/
theorem addT_keys {key : Nat → Nat} {k : Nat} {t : T} (h : Asc key t.ns) : ∃ A B, t.ns = A ++ B ∧ (addT key k t).ns = A ++ k :: B ∧ (∀ j, j ∈ A → key j ≤ key k) ∧ (∀ j, j ∈ B → key k < key j) := by
  obtain ⟨h1, h2⟩ := addT_ns key k t
  obtain ⟨h3, h4⟩ := way_keys (key := key) (k := k) (t := t) (u := []) h (by simp [pre]) (by simp [post])
  exact ⟨_, _, h2, h1, h3, h4⟩
theorem addT_asc {key : Nat → Nat} {k : Nat} {t : T} (h : Asc key t.ns) : Asc key (addT key k t).ns := by
  obtain ⟨A, B, h1, h2, h3, h4⟩ := addT_keys (k := k) h
  rw [h1] at h
  rw [h2]
  unfold Asc at *
  obtain ⟨ha, hb, hab⟩ := List.pairwise_append.1 h
  refine List.pairwise_append.2 ⟨ha, List.pairwise_cons.2 ⟨fun j hj => Nat.le_of_lt (h4 j hj), hb⟩, fun i hi j hj => ?_⟩
  rcases List.mem_cons.1 hj with e | hj
  · rw [e]; exact h3 i hi
  · exact hab i hi j hj

/-- The way to the leftmost leaf, and what stands there. -/
def low : T → List Fr → List Fr × T
  | .e, u => (u, .e)
  | .n c l k r, u => if l.isE then (u, .n c l k r) else low l (⟨false, c, k, r⟩ :: u)
theorem low_plug : ∀ (t : T) (u : List Fr), plug (low t u).1 (low t u).2 = plug u t
  | .e, u => rfl
  | .n c l k r, u => by
    unfold low
    split
    · rfl
    · exact low_plug l _
theorem low_at : ∀ {t : T} (u : List Fr), t.isE = false → ∃ c k r, (low t u).2 = .n c .e k r ∧ pre (low t u).1 = pre u ∧ (∀ u', (low t u').2 = (low t u).2)
  | .e, u, h => by cases h
  | .n c l k r, u, _ => by
    cases hl : l.isE with
    | true =>
      have : l = .e := by
        cases l with
        | e => rfl
        | n => cases hl
      subst this
      exact ⟨c, k, r, rfl, rfl, fun _ => rfl⟩
    | false =>
      obtain ⟨c2, k2, r2, h1, h2, h3⟩ := low_at (⟨false, c, k, r⟩ :: u) hl
      have e : ∀ u, low (.n c l k r) u = low l (⟨false, c, k, r⟩ :: u) := fun u => by
        show (if l.isE = true then _ else _) = _
        rw [hl]; rfl
      refine ⟨c2, k2, r2, by rw [e]; exact h1, by rw [e, h2]; simp [pre], fun u' => by rw [e, e]; exact h3 _⟩
/-- The number of the leftmost leaf. -/
def fst (t : T) : Nat := (low t []).2.root
/-- A leaf is taken out at the end of a way. -/
def cutAt (u : List Fr) (c : Bool) (t : T) : T := if c then plug u t else delFix u t
def delAt (u : List Fr) : T → T
  | .e => plug u .e
  | .n c l _ r =>
    if l.isE then cutAt u c r
    else if r.isE then cutAt u c l
    else cutAt (low r (⟨true, c, fst r, l⟩ :: u)).1 (low r []).2.red ((low r []).2.on true)
theorem cutAt_ns (u : List Fr) (c : Bool) (t : T) : (cutAt u c t).ns = pre u ++ t.ns ++ post u := by
  unfold cutAt
  split
  · exact plug_split u t
  · rw [delFix_ns]; exact plug_split u t
theorem cutAt_rb {u : List Fr} {c : Bool} {a b : T} {k n : Nat} (hu : Bu u n) (hz : Bal (.n c a k b) n) {t : T} (ht : t = a ∨ t = b) : Rb (cutAt u c t) := by
  obtain ⟨m, hm, h1, h2, h3⟩ := hz
  unfold cutAt
  cases c with
  | true =>
    have : n = m := by simpa using hm
    subst this
    obtain ⟨h4, h5⟩ := h3 rfl
    rcases ht with rfl | rfl
    · exact plug_rb.2 ⟨n, hu, h1, fun h => by rw [h4] at h; cases h⟩
    · exact plug_rb.2 ⟨n, hu, h2, fun h => by rw [h5] at h; cases h⟩
  | false =>
    have : n = m + 1 := by simpa using hm
    subst this
    rcases ht with rfl | rfl
    · exact delFix_rb hu h1
    · exact delFix_rb hu h2
theorem isE_eq {t : T} (h : t.isE = true) : t = .e := by
  cases t with
  | e => rfl
  | n => cases h
theorem low_in {c : Bool} {l r : T} {u : List Fr} (hr : r.isE = false) : ∃ yc yr, (low r []).2 = .n yc .e (fst r) yr ∧ (low r (⟨true, c, fst r, l⟩ :: u)).2 = .n yc .e (fst r) yr ∧ plug (low r (⟨true, c, fst r, l⟩ :: u)).1 (.n yc .e (fst r) yr) = plug u (.n c l (fst r) r) := by
  obtain ⟨yc, yk, yr, h1, _, h3⟩ := low_at (t := r) [] hr
  have e : fst r = yk := by unfold fst; rw [h1]; rfl
  rw [e]
  have h4 : (low r (⟨true, c, yk, l⟩ :: u)).2 = .n yc .e yk yr := (h3 _).trans h1
  refine ⟨yc, yr, h1, h4, ?_⟩
  rw [← h4, low_plug]
  rfl
theorem delAt_rb {u : List Fr} {c : Bool} {l r : T} {k : Nat} (h : Rb (plug u (.n c l k r))) : Rb (delAt u (.n c l k r)) := by
  obtain ⟨n, hu, hb, hc⟩ := plug_rb.1 h
  rw [delAt]
  split
  · exact cutAt_rb hu hb (.inr rfl)
  · split
    · exact cutAt_rb hu hb (.inl rfl)
    · rename_i hl hr
      have hr : r.isE = false := by simpa using hr
      obtain ⟨yc, yr, h1, h2, h3⟩ := low_in (c := c) (l := l) (u := u) hr
      have hz : Rb (plug u (.n c l (fst r) r)) := plug_rb.2 ⟨n, hu, hb, hc⟩
      rw [← h3] at hz
      obtain ⟨m, hu', hb', _⟩ := plug_rb.1 hz
      rw [h1]
      exact cutAt_rb hu' hb' (.inr rfl)
theorem delAt_ns (u : List Fr) (c : Bool) (l r : T) (k : Nat) : (delAt u (.n c l k r)).ns = pre u ++ (l.ns ++ r.ns) ++ post u := by
  rw [delAt]
  split
  · rename_i h
    rw [isE_eq h, cutAt_ns]; rfl
  · split
    · rename_i h
      rw [isE_eq h, cutAt_ns]; simp [T.ns]
    · rename_i hl hr
      have hr : r.isE = false := by simpa using hr
      obtain ⟨yc, yr, h1, h2, h3⟩ := low_in (c := c) (l := l) (u := u) hr
      rw [cutAt_ns, h1]
      have e1 : (low r (⟨true, c, fst r, l⟩ :: u)).1 = (low r (⟨true, c, fst r, l⟩ :: u)).1 := rfl
      obtain ⟨_, _, _, _, h4, _⟩ := low_at (⟨true, c, fst r, l⟩ :: u) hr
      have h5 := plug_split (low r (⟨true, c, fst r, l⟩ :: u)).1 (.n yc .e (fst r) yr)
      rw [h3, plug_split, h4] at h5
      rw [h4]
      simp only [pre, if_true, T.ns, List.nil_append, List.append_assoc, List.cons_append, List.append_cancel_left_eq, List.cons.injEq, true_and] at h5 ⊢
      have h6 : r.ns ++ post u = fst r :: (yr.ns ++ post (low r (⟨true, c, fst r, l⟩ :: u)).1) := h5
      rw [h6]
      rfl
end Go.Proofs.YtiacclmapicmdaaDoor
