/- Taking a leaf out: its only child comes into its place, or another leaf stands in for it; how deep a tree is. No condition on the program. -/
import Derived.Test.YtiacclmapicmdaaDoorTrSteps
namespace Go.Proofs.YtiacclmapicmdaaDoor

/-- A leaf without a child on the side d goes: the other child comes into its place. -/
theorem rp_child {s : Tr} {u : List Fr} {d c : Bool} {b : T} {k x p : Nat} (h : Rp s u (.mk d c .e k b) x p) : Rp (s.place x b.root) u b b.root p := by
  have hk := h.kid (T.isE_mk ..)
  obtain ⟨rfl, x0, hp, _, _, hb⟩ := at_mk.1 h.at_
  obtain ⟨_, nb, _, _, _⟩ := nodup_mk.1 h.nt
  have e := hb.root
  rw [e] at hb
  unfold Tr.place
  rw [hp]
  exact rp_join h hb nb (fun j hj => h.ap j (T.mem_mk.2 (.inr (.inr hj)))) (fun hu => h.sd (T.isE_mk ..) hu)
/-- Another leaf y, which stood in no tree, stands in for z: its links are z's, and z's neighbours' are turned to it. -/
theorem rp_stand {s s' : Tr} {u : List Fr} {c : Bool} {l r : T} {z y p : Nat} (h : Rp s u (.n c l z r) z p) (y0 : y ≠ 0) (yu : y ∉ fns u) (yl : y ∉ l.ns) (yr : y ∉ r.ns) {d : Bool} (hs : u ≠ [] → d = side u)
    (hch : ∀ j f, j ≠ y → j ≠ z → s'.ch j f = if j = p ∧ p ≠ 0 ∧ f = d then y else s.ch j f)
    (hpar : ∀ j, j ≠ y → j ≠ z → s'.par j = if (j = l.root ∨ j = r.root) ∧ j ≠ 0 then y else s.par j)
    (hred : ∀ j, j ≠ y → j ≠ z → s'.red j = s.red j)
    (htop : s'.top = if p = 0 then y else s.top)
    (hl : s'.ch y false = l.root) (hr : s'.ch y true = r.root) (hp : s'.par y = p) (hc : s'.red y = c) : Rp s' u (.n c l y r) y p := by
  obtain ⟨hu, ha, hn, nu, ap⟩ := h
  obtain ⟨_, z0, hzp, _, h5, h6⟩ := ha
  obtain ⟨nl, nr, zl, zr, lr⟩ := nodup_mk (d := false) (c := c) |>.1 hn
  have uz : z ∉ fns u := ap z (by simp [T.ns])
  have ul : ∀ j, j ∈ l.ns → j ∉ fns u := fun j hj => ap j (by simp [T.ns, hj])
  have ur : ∀ j, j ∈ r.ns → j ∉ fns u := fun j hj => ap j (by simp [T.ns, hj])
  have pp : ∀ j, j ∉ fns u → ¬ (j = p ∧ p ≠ 0) := fun j hj ⟨e, h0⟩ => by
    rcases up_par hu with ⟨_, h1⟩ | ⟨h1, _⟩
    · exact h0 h1
    · exact hj (e ▸ h1)
  have rootl : ∀ {t : T} {x q : Nat}, At s t x q → t.root ∈ t.ns ∨ t.root = 0 := fun {t x q} ht => by
    rcases at_root ht with ⟨e, _⟩ | ⟨hm, _, _⟩
    · rw [e]; exact .inr rfl
    · rw [← ht.root]; exact .inl hm
  have kid : ∀ {t : T}, At s t t.root z → t.ns.Nodup → (∀ j, j ∈ t.ns → j ≠ y ∧ j ≠ z ∧ j ∉ fns u) → (∀ j, j ∈ t.ns → j ≠ t.root → ¬ ((j = l.root ∨ j = r.root) ∧ j ≠ 0)) → (t.root ≠ 0 → t.root = l.root ∨ t.root = r.root) → At s' t t.root y := fun {t} ht hn hj hx hrt => by
    refine at_move ht (fun k hk => ⟨fun f => ?_, hred k (hj k hk).1 (hj k hk).2.1⟩) (fun k hk hkx => ?_) (fun h0 => ?_) hn
    · rw [hch k f (hj k hk).1 (hj k hk).2.1, if_neg (fun h => pp k (hj k hk).2.2 ⟨h.1, h.2.1⟩)]
    · rw [hpar k (hj k hk).1 (hj k hk).2.1, if_neg (hx k hk hkx)]
    · rcases rootl ht with hm | hm
      · rw [hpar _ (hj _ hm).1 (hj _ hm).2.1, if_pos ⟨hrt h0, h0⟩]
      · exact absurd hm h0
  have el := h5.root
  have er := h6.root
  have jl : ∀ j, j ∈ l.ns → j ≠ y ∧ j ≠ z ∧ j ∉ fns u := fun j hj => ⟨fun e => yl (e ▸ hj), fun e => zl (e ▸ hj), ul j hj⟩
  have jr : ∀ j, j ∈ r.ns → j ≠ y ∧ j ≠ z ∧ j ∉ fns u := fun j hj => ⟨fun e => yr (e ▸ hj), fun e => zr (e ▸ hj), ur j hj⟩
  have hrl : At s' l l.root y := kid (el ▸ h5) nl jl (fun j hj hx ⟨e, h0⟩ => by
    rcases e with e | e
    · exact hx e
    · rcases rootl h6 with hm | hm
      · exact lr j hj (e ▸ hm)
      · exact h0 (e.trans hm)) (fun _ => .inl rfl)
  have hrr : At s' r r.root y := kid (er ▸ h6) nr jr (fun j hj hx ⟨e, h0⟩ => by
    rcases e with e | e
    · rcases rootl h5 with hm | hm
      · exact lr j (e ▸ hm) hj
      · exact h0 (e.trans hm)
    · exact hx e) (fun _ => .inr rfl)
  refine ⟨?_, ⟨rfl, y0, hp, hc, by rw [hl]; exact hrl, by rw [hr]; exact hrr⟩, (nodup_mk (d := false) (c := c)).2 ⟨nl, nr, yl, yr, lr⟩, nu, fun j hj => ?_⟩
  · -- as a join does it
    refine up_same (up_join hu yu nu d hs) (fun k hk => ?_) (by rw [htop, Tr.top_join]) nu
    have ky : k ≠ y := fun e => yu (e ▸ hk)
    have kz : k ≠ z := fun e => uz (e ▸ hk)
    refine ⟨fun f => by rw [hch k f ky kz, Tr.ch_join], by rw [hred k ky kz, Tr.red_join], ?_⟩
    rw [hpar k ky kz, Tr.par_join, if_neg (c := k = y ∧ y ≠ 0) (fun h => ky h.1), if_neg (fun h => ?_)]
    rcases h.1 with e | e
    · rcases rootl h5 with hm | hm
      · exact ul k (e ▸ hm) hk
      · exact h.2 (e.trans hm)
    · rcases rootl h6 with hm | hm
      · exact ur k (e ▸ hm) hk
      · exact h.2 (e.trans hm)
  · simp only [T.ns, List.mem_append, List.mem_cons] at hj
    rcases hj with h | h | h
    · exact ul j h
    · rw [h]; exact yu
    · exact ur j h
/-- The way to the leftmost leaf, below another way. -/
theorem low_app : ∀ (t : T) (u : List Fr), (low t u).1 = (low t []).1 ++ u
  | .e, _ => rfl
  | .n c l k r, u => by
    cases hl : l.isE with
    | true =>
      have e : ∀ u, low (.n c l k r) u = (u, .n c l k r) := fun u => by
        show (if l.isE = true then _ else _) = _
        rw [hl]; rfl
      rw [e, e]; rfl
    | false =>
      have e : ∀ u, low (.n c l k r) u = low l (⟨false, c, k, r⟩ :: u) := fun u => by
        show (if l.isE = true then _ else _) = _
        rw [hl]; rfl
      rw [e, e, low_app l, low_app l [_]]
      simp
/-- The longest way down. -/
def deep : T → Nat
  | .e => 0
  | .n _ l _ r => (if deep l < deep r then deep r else deep l) + 1
theorem deep_bal : ∀ {t : T} {n : Nat}, Bal t n → deep t ≤ 2 * n + (if t.red then 1 else 0) ∧ 2 ^ n ≤ t.ns.length + 1
  | .e, n, h => by
    have : n = 0 := h
    subst this
    exact ⟨by simp [deep], by simp [T.ns]⟩
  | .n c l k r, n, ⟨m, hm, h2, h3, h4⟩ => by
    obtain ⟨a1, a2⟩ := deep_bal h2
    obtain ⟨b1, b2⟩ := deep_bal h3
    have hlen : (T.n c l k r).ns.length = l.ns.length + r.ns.length + 1 := by simp [T.ns]; omega
    rw [hlen]
    cases c with
    | true =>
      obtain ⟨h5, h6⟩ := h4 rfl
      rw [h5] at a1
      rw [h6] at b1
      have : n = m := by simpa using hm
      subst this
      simp only [Bool.false_eq_true, if_false] at a1 b1
      refine ⟨?_, by omega⟩
      show (if deep l < deep r then deep r else deep l) + 1 ≤ 2 * n + 1
      split <;> omega
    | false =>
      have : n = m + 1 := by simpa using hm
      subst this
      refine ⟨?_, by rw [Nat.pow_succ]; omega⟩
      show (if deep l < deep r then deep r else deep l) + 1 ≤ 2 * (m + 1) + 0
      have a3 : deep l ≤ 2 * m + 1 := Nat.le_trans a1 (by split <;> omega)
      have b3 : deep r ≤ 2 * m + 1 := Nat.le_trans b1 (by split <;> omega)
      split <;> omega
end Go.Proofs.YtiacclmapicmdaaDoor
