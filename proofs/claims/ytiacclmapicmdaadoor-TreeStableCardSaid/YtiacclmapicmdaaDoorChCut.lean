/- What an unlinking makes of lists whose links lie in a memory; what else stays. No condition on the program. -/
import Derived.Test.YtiacclmapicmdaaDoorChMath
namespace Go.Proofs.YtiacclmapicmdaaDoor

/-- A memory behind an unlinking. -/
def cutF (f : Nat → Int) (h x nx pv : Nat) : Nat → Int := fl (st (st f (oh pv h + off true) nx 4) (oh nx h + off false) pv 4) x 0 16
section
variable {n : Nat} {H : List Nat} {N : Nat → Prop} {L : Nat → List Nat} {f : Nat → Int}
theorem Ch.cut (c : Ch n H N L f) {h x : Nat} (hh : h ∈ H) (hm : x ∈ L h) :
    Ch n H N (upL L h ((L h).erase x)) (cutF f h x (nxt (dl true (L h)) x) (nxt (dl false (L h)) x)) := by
  have hb := c.big
  have hx : N x := c.mem h hh x hm
  have hbh : Base H N h := .inl hh
  have hbx : Base H N x := .inr hx
  have hhx : h ≠ x := c.lay.not hh hx
  obtain ⟨a, b, hs, hxa⟩ := split_at hm
  have hnd := c.nod h hh
  have hR := c.nodR hh true
  have hR' := c.nodR hh false
  have h0 : 0 ∉ L h := by have := c.no0 hh true; simpa [dl] using this
  have hxb : x ∉ b := by
    rw [hs] at hnd
    intro hmb
    have := (List.nodup_append.1 hnd).2.1
    exact (List.nodup_cons.1 this).1 hmb
  have e1 : dl true (L h) = a ++ x :: b := by rw [hs]; rfl
  have e2 : dl false (L h) = b.reverse ++ x :: a.reverse := by rw [hs]; simp [dl]
  have hE : (L h).erase x = a ++ b := by rw [hs]; exact erase_split hxa
  have hnx : nxt (dl true (L h)) x = b.headD 0 := by rw [e1, nxt_mid hxa]
  have hpv : nxt (dl false (L h)) x = a.reverse.headD 0 := by rw [e2, nxt_mid (by simpa using hxb)]
  have h0a : 0 ∉ a := fun h => h0 (by rw [hs]; simp [h])
  have h0b : 0 ∉ b.reverse := fun h => h0 (by rw [hs]; simp at h; simp [h])
  rw [hnx, hpv, hE]
  rw [e1] at hR
  rw [e2] at hR'
  obtain ⟨qp, hqp⟩ : ∃ q, q = oh (a.reverse.headD 0) h := ⟨_, rfl⟩
  obtain ⟨qn, hqn⟩ : ∃ q, q = oh (b.headD 0) h := ⟨_, rfl⟩
  have lp : qp = lst h a := hqp
  have ln : qn = lst h b.reverse := by unfold lst; rw [List.reverse_reverse]; exact hqn
  have mp : qp ∈ h :: a := lp ▸ lst_mem h a
  have mn : qn ∈ h :: b := by have := lst_mem h b.reverse; rw [← ln] at this; simpa using this
  have mp' : qp ∈ h :: L h := by rcases List.mem_cons.1 mp with e | e <;> simp [hs, e]
  have mn' : qn ∈ h :: L h := by rcases List.mem_cons.1 mn with e | e <;> simp [hs, e]
  have bp : Base H N qp := c.base hh mp'
  have bn : Base H N qn := c.base hh mn'
  have big : ∀ y, y ∈ L h → y < 4294967296 := fun y hy => by have := c.lay.xin y (c.mem h hh y hy); omega
  have bnx : b.headD 0 < 4294967296 := by
    rcases e : b with _ | ⟨y, ys⟩
    · simp
    · have := big y (by rw [hs, e]; simp)
      simpa using this
  have bpv : a.reverse.headD 0 < 4294967296 := by
    rcases e : a.reverse with _ | ⟨y, ys⟩
    · simp
    · have : y ∈ a.reverse := by rw [e]; simp
      have := big y (by rw [hs]; simp at this; simp [this])
      simpa using this
  have W : ∀ p e, Base H N p → lk (cutF f h x (b.headD 0) (a.reverse.headD 0)) (p + off e) = if p = x then 0 else if p = qn ∧ e = false then ((a.reverse.headD 0 : Nat) : Int) else if p = qp ∧ e = true then ((b.headD 0 : Nat) : Int) else lk f (p + off e) := by
    intro p e hp
    unfold cutF
    rw [← hqn, ← hqp, fill_link c.lay hp hx, link_link c.lay hp bn _ _ bpv, link_link c.lay hp bp _ _ bnx]
  have WO : ∀ y, N y → lk (cutF f h x (b.headD 0) (a.reverse.headD 0)) (y + 8) = (if y = x then 0 else lk f (y + 8)) ∧ lk (cutF f h x (b.headD 0) (a.reverse.headD 0)) (y + 12) = (if y = x then 0 else lk f (y + 12)) := by
    intro y hy
    unfold cutF
    rw [← hqn, ← hqp, (fill_own c.lay hy hx).1, (link_own c.lay hy bn _ _).1, (link_own c.lay hy bp _ _).1, (fill_own c.lay hy hx).2, (link_own c.lay hy bn _ _).2, (link_own c.lay hy bp _ _).2]
    exact ⟨rfl, rfl⟩
  have sub : ∀ y, y ∈ a ++ b → y ∈ L h ∧ y ≠ x := by
    intro y hy
    refine ⟨by rw [hs]; rcases List.mem_append.1 hy with e | e <;> simp [e], ?_⟩
    rintro rfl
    rcases List.mem_append.1 hy with e | e
    · exact hxa e
    · exact hxb e
  have sub' : ∀ k, k ∈ H → ∀ y, y ∈ upL L h (a ++ b) k → y ∈ L k ∧ y ≠ x := by
    intro k hk y hy
    by_cases e : k = h
    · subst e
      rw [upL_same] at hy
      exact sub y hy
    · rw [upL_other _ _ e] at hy
      refine ⟨hy, ?_⟩
      rintro rfl
      exact e (c.one k h hk hh y hy hm)
  refine ⟨c.lay, c.big, fun k hk y hy => c.mem k hk y (sub' k hk y hy).1, ?_, fun k j hk hj y hy hz => c.one k j hk hj y (sub' k hk y hy).1 (sub' j hj y hz).1, ?_, ?_, ?_, ?_⟩
  · intro k hk
    by_cases e : k = h
    · subst e
      rw [upL_same, ← hE]
      exact List.Nodup.erase x (c.nod k hk)
    · rw [upL_other _ _ e]
      exact c.nod k hk
  · intro k hk e p hp
    by_cases ek : k = h
    · subst ek
      rw [upL_same] at hp ⊢
      have hpx : p ≠ x := by
        rcases List.mem_cons.1 hp with e | e
        · rw [e]; exact hhx
        · exact (sub p e).2
      have hpo : p ∈ k :: L k := by
        rcases List.mem_cons.1 hp with e | e
        · simp [e]
        · simp [(sub p e).1]
      have hring := c.ring k hk e p hpo
      rw [W p e (c.base hk hpo), if_neg hpx]
      cases e with
      | true =>
        have n1 : ¬ (p = qn ∧ true = false) := by rintro ⟨_, h⟩; cases h
        have hdl : dl true (a ++ b) = a ++ b := rfl
        rw [e1] at hring
        rw [if_neg n1, hdl, nxt_cut hR h0a hpx, ← lp]
        by_cases e3 : p = qp
        · rw [if_pos ⟨e3, rfl⟩, if_pos e3]
        · rw [if_neg (fun h => e3 h.1), if_neg e3, hring]
      | false =>
        have n1 : ¬ (p = qp ∧ false = true) := by rintro ⟨_, h⟩; cases h
        have hdl : dl false (a ++ b) = b.reverse ++ a.reverse := by simp [dl]
        rw [e2] at hring
        rw [if_neg n1, hdl, nxt_cut hR' h0b hpx, ← ln]
        by_cases e3 : p = qn
        · rw [if_pos ⟨e3, rfl⟩, if_pos e3]
        · rw [if_neg (fun h => e3 h.1), if_neg e3, hring]
    · rw [upL_other _ _ ek] at hp ⊢
      have key : ∀ q, q ∈ h :: L h → p ≠ q := by
        rintro q hq rfl
        rcases List.mem_cons.1 hp with e | e <;> rcases List.mem_cons.1 hq with e' | e'
        · exact ek (e.symm.trans e')
        · exact c.lay.not hk (c.mem h hh p e') e.symm
        · exact c.lay.not hh (c.mem k hk p e) e'.symm
        · exact ek (c.one k h hk hh p e e')
      rw [W p e (c.base hk hp), if_neg (key x (by simp [hm])), if_neg (fun h => key qn mn' h.1), if_neg (fun h => key qp mp' h.1), c.ring k hk e p hp]
  · intro k hk y hy
    obtain ⟨s1, s2⟩ := sub' k hk y hy
    rw [(WO y (c.mem k hk y s1)).1, if_neg s2, c.own k hk y s1]
  · intro y hy hn
    by_cases e : y = x
    · subst e
      exact ⟨fun e => by rw [W y e hbx, if_pos rfl], by rw [(WO y hy).1, if_pos rfl]⟩
    · have hno : ∀ k, k ∈ H → y ∉ L k := by
        intro k hk hmk
        have := hn k hk
        by_cases ek : k = h
        · subst ek
          rw [upL_same, ← hE] at this
          exact this ((List.mem_erase_of_ne e).2 hmk)
        · rw [upL_other _ _ ek] at this
          exact this hmk
      have key : ∀ q, q ∈ h :: L h → y ≠ q := by
        rintro q hq rfl
        rcases List.mem_cons.1 hq with e' | e'
        · exact c.lay.not hh hy e'.symm
        · exact hno h hh e'
      have := c.free y hy hno
      exact ⟨fun d => by rw [W y d (.inr hy), if_neg e, if_neg (fun h => key qn mn' h.1), if_neg (fun h => key qp mp' h.1), this.1 d], by rw [(WO y hy).1, if_neg e, this.2]⟩
  · intro y hy
    rw [(WO y hy).2]
    split
    · rfl
    · exact c.pad y hy

/-! ### What stays -/
theorem Keep.refl (f : Nat → Int) : Keep H N f f := fun _ _ _ => rfl
theorem Keep.trans {f g k : Nat → Int} (h : Keep H N f g) (h' : Keep H N g k) : Keep H N f k := fun i h1 h2 => (h' i h1 h2).trans (h i h1 h2)
theorem keep_link {q : Nat} (hq : Base H N q) (d : Bool) (v : Int) (f : Nat → Int) : Keep H N f (st f (q + off d) v 4) := by
  intro k h1 h2
  have b := off_bd d
  unfold st
  rw [if_neg]
  rcases hq with hq | hq
  · have := h1 q hq; omega
  · have := h2 q hq; omega
theorem keep_own {x : Nat} (hx : N x) (v : Int) (f : Nat → Int) : Keep H N f (st f (x + 8) v 4) := by
  intro k h1 h2
  unfold st
  rw [if_neg]
  have := h2 x hx; omega
theorem keep_fill {x : Nat} (hx : N x) (f : Nat → Int) : Keep H N f (fl f x 0 16) := by
  intro k h1 h2
  unfold fl
  rw [if_neg]
  have := h2 x hx; omega
theorem oh_base (c : Ch n H N L f) {h : Nat} (hh : h ∈ H) {l : List Nat} (hl : ∀ x, x ∈ l → x ∈ L h) : Base H N (oh (l.headD 0) h) := by
  unfold oh
  split
  · exact .inl hh
  · rename_i hne
    cases l with
    | nil => simp at hne
    | cons y ys => exact .inr (c.mem h hh y (hl y (by simp)))
theorem nxt_mem : ∀ {l : List Nat} {x : Nat}, nxt l x = 0 ∨ nxt l x ∈ l
  | [], _ => .inl rfl
  | a :: l, x => by
    by_cases e : a = x
    · subst e
      rw [nxt_here]
      cases l with
      | nil => exact .inl rfl
      | cons y ys => exact .inr (by simp)
    · rw [nxt_there _ e]
      rcases nxt_mem (l := l) (x := x) with h | h
      · exact .inl h
      · exact .inr (List.mem_cons_of_mem _ h)
theorem oh_base' (c : Ch n H N L f) {h : Nat} (hh : h ∈ H) (d : Bool) (x : Nat) : Base H N (oh (nxt (dl d (L h)) x) h) := by
  unfold oh
  split
  · exact .inl hh
  · rename_i hne
    exact .inr (c.mem h hh _ (dl_mem.1 (nxt_mem.resolve_left hne)))
theorem Ch.keepPush (c : Ch n H N L f) {h x : Nat} (hh : h ∈ H) (hx : N x) (d : Bool) : Keep H N f (pushF f h x d ((dl d (L h)).headD 0)) := by
  unfold pushF
  exact (((keep_link (.inr hx) _ _ _).trans (keep_own hx _ _)).trans (keep_link (.inl hh) _ _ _)).trans (keep_link (oh_base c hh fun y hy => dl_mem.1 hy) _ _ _)
theorem Ch.keepCut (c : Ch n H N L f) {h x : Nat} (hh : h ∈ H) (hm : x ∈ L h) : Keep H N f (cutF f h x (nxt (dl true (L h)) x) (nxt (dl false (L h)) x)) := by
  unfold cutF
  exact ((keep_link (oh_base' c hh false x) _ _ _).trans (keep_link (oh_base' c hh true x) _ _ _)).trans (keep_fill (c.mem h hh x hm) _)
end
end Go.Proofs.YtiacclmapicmdaaDoor
