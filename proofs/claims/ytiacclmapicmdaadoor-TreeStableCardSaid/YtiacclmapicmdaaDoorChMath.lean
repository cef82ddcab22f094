/- Lists whose links lie in a memory: the invariant, and what a push and an unlinking make of it. No condition on the program. -/
import Derived.Test.YtiacclmapicmdaaDoorChList
import Derived.Test.YtiacclmapicmdaaDoorMath
namespace Go.Proofs.YtiacclmapicmdaaDoor

/-- The number of four bytes at a place. -/
def lk (f : Nat → Int) (k : Nat) : Int := ld f k 4
theorem lk_bd {f : Nat → Int} (h : Bytes f) (k : Nat) : 0 ≤ lk f k ∧ lk f k < 4294967296 := ld_bound h k 4
theorem lk_same (f : Nat → Int) (a v : Nat) (hv : v < 4294967296) : lk (st f a v 4) a = v := by
  unfold lk
  rw [ld_st f a v 4 4 (Nat.le_refl _)]
  have : (256 : Int) ^ 4 = 4294967296 := by decide
  rw [this]
  omega
theorem lk_far (f : Nat → Int) (a b : Nat) (v : Int) (h : a + 4 ≤ b ∨ b + 4 ≤ a) : lk (st f a v 4) b = lk f b := by
  unfold lk
  refine ld_congr b 4 fun i h1 h2 => ?_
  unfold st
  rw [if_neg (by omega)]
theorem lk_st (f : Nat → Int) (a b v : Nat) (hv : v < 4294967296) (h : a = b ∨ a + 4 ≤ b ∨ b + 4 ≤ a) : lk (st f a v 4) b = if b = a then (v : Int) else lk f b := by
  by_cases e : b = a
  · subst e; rw [if_pos rfl, lk_same f b v hv]
  · rw [if_neg e, lk_far f a b v (by omega)]
theorem lk_fl (f : Nat → Int) (a b : Nat) (h : (a ≤ b ∧ b + 4 ≤ a + 16) ∨ a + 16 ≤ b ∨ b + 4 ≤ a) : lk (fl f a 0 16) b = if a ≤ b ∧ b < a + 16 then 0 else lk f b := by
  by_cases e : a ≤ b ∧ b < a + 16
  · rw [if_pos e]
    unfold lk
    have : ld (fl f a 0 16) b 4 = ld (fun _ => 0) b 4 := by
      refine ld_congr b 4 fun i h1 h2 => ?_
      unfold fl
      rw [if_pos (by omega)]
    rw [this]
    simp [ld]
  · rw [if_neg e]
    unfold lk
    refine ld_congr b 4 fun i h1 h2 => ?_
    unfold fl
    rw [if_neg (by omega)]
theorem lk_zero {f : Nat → Int} (hb : Bytes f) {k : Nat} (h : lk f k = 0) : f k = 0 ∧ f (k + 1) = 0 ∧ f (k + 2) = 0 ∧ f (k + 3) = 0 := by
  have h0 := hb k
  have h1 := hb (k + 1)
  have h2 := hb (k + 2)
  have h3 := hb (k + 3)
  unfold lk at h
  simp only [ld, Nat.add_zero] at h
  have e0 : (256 : Int) ^ 0 = 1 := by decide
  have e1 : (256 : Int) ^ 1 = 256 := by decide
  have e2 : (256 : Int) ^ 2 = 65536 := by decide
  have e3 : (256 : Int) ^ 3 = 16777216 := by decide
  rw [e0, e1, e2, e3] at h
  omega
theorem lk_of_zero {f : Nat → Int} {k : Nat} (h : ∀ i, k ≤ i → i < k + 4 → f i = 0) : lk f k = 0 := by
  unfold lk
  have : ld f k 4 = ld (fun _ => 0) k 4 := ld_congr k 4 h
  rw [this]
  simp [ld]

/-- Heads (of 8 bytes) and nodes (of 16) lie in n bytes, and don't overlap. -/
structure Lay (n : Nat) (H : List Nat) (N : Nat → Prop) : Prop where
  hin : ∀ h, h ∈ H → 1 ≤ h ∧ h + 8 ≤ n
  xin : ∀ x, N x → 1 ≤ x ∧ x + 16 ≤ n
  hh : ∀ h k, h ∈ H → k ∈ H → h ≠ k → h + 8 ≤ k ∨ k + 8 ≤ h
  xx : ∀ x y, N x → N y → x ≠ y → x + 16 ≤ y ∨ y + 16 ≤ x
  hx : ∀ h x, h ∈ H → N x → h + 8 ≤ x ∨ x + 16 ≤ h

/-- The lists' links, the nodes' owners. -/
structure Ch (n : Nat) (H : List Nat) (N : Nat → Prop) (L : Nat → List Nat) (f : Nat → Int) : Prop where
  lay : Lay n H N
  big : n ≤ 65536
  mem : ∀ h, h ∈ H → ∀ x, x ∈ L h → N x
  nod : ∀ h, h ∈ H → (L h).Nodup
  one : ∀ h k, h ∈ H → k ∈ H → ∀ x, x ∈ L h → x ∈ L k → h = k
  ring : ∀ h, h ∈ H → ∀ d p, p ∈ h :: L h → lk f (p + off d) = (nxt (h :: dl d (L h)) p : Nat)
  own : ∀ h, h ∈ H → ∀ x, x ∈ L h → lk f (x + 8) = (h : Nat)
  free : ∀ x, N x → (∀ h, h ∈ H → x ∉ L h) → (∀ d, lk f (x + off d) = 0) ∧ lk f (x + 8) = 0
  pad : ∀ x, N x → lk f (x + 12) = 0
/-- Other bytes stay. -/
def Keep (H : List Nat) (N : Nat → Prop) (f f' : Nat → Int) : Prop := ∀ k, (∀ h, h ∈ H → ¬ (h ≤ k ∧ k < h + 8)) → (∀ x, N x → ¬ (x ≤ k ∧ k < x + 16)) → f' k = f k
def upL (L : Nat → List Nat) (h : Nat) (l : List Nat) : Nat → List Nat := fun k => if k = h then l else L k
theorem upL_same (L : Nat → List Nat) (h : Nat) (l : List Nat) : upL L h l h = l := by simp [upL]
theorem upL_other (L : Nat → List Nat) {h k : Nat} (l : List Nat) (e : k ≠ h) : upL L h l k = L k := by simp [upL, e]
theorem off_bd (d : Bool) : off d = 0 ∨ off d = 4 := by cases d <;> simp [off]
theorem off_inj {d e : Bool} (h : off d = off e) : d = e := by cases d <;> cases e <;> simp_all [off]

section
variable {n : Nat} {H : List Nat} {N : Nat → Prop} {L : Nat → List Nat} {f : Nat → Int}
/-- A head or a node. -/
def Base (H : List Nat) (N : Nat → Prop) (p : Nat) : Prop := p ∈ H ∨ N p
theorem Lay.apart (h : Lay n H N) {p q : Nat} (hp : Base H N p) (hq : Base H N q) (e : p ≠ q) : p + 8 ≤ q ∨ q + 8 ≤ p := by
  rcases hp with hp | hp <;> rcases hq with hq | hq
  · exact h.hh p q hp hq e
  · have := h.hx p q hp hq; omega
  · have := h.hx q p hq hp; omega
  · have := h.xx p q hp hq e; omega
theorem Lay.nodeApart (h : Lay n H N) {p x : Nat} (hp : Base H N p) (hx : N x) (e : p ≠ x) : p + 8 ≤ x ∨ x + 16 ≤ p := by
  rcases hp with hp | hp
  · exact h.hx p x hp hx
  · have := h.xx p x hp hx e; omega
theorem Lay.not (h : Lay n H N) {p x : Nat} (hp : p ∈ H) (hx : N x) : p ≠ x := by
  rintro rfl
  have := h.hx p p hp hx
  omega
theorem Lay.pos (h : Lay n H N) {p : Nat} (hp : Base H N p) : 1 ≤ p ∧ p + 8 ≤ n := by
  rcases hp with hp | hp
  · exact h.hin p hp
  · have := h.xin p hp; omega
/-- A link is written. -/
theorem link_link (hl : Lay n H N) {p q : Nat} (hp : Base H N p) (hq : Base H N q) (d e : Bool) {v : Nat} (hv : v < 4294967296) :
    lk (st f (q + off d) v 4) (p + off e) = if p = q ∧ e = d then (v : Int) else lk f (p + off e) := by
  have b1 := off_bd d
  have b2 := off_bd e
  by_cases e1 : p = q
  · subst e1
    by_cases e2 : e = d
    · subst e2; rw [if_pos ⟨rfl, rfl⟩, lk_same _ _ _ hv]
    · have : off e ≠ off d := fun h => e2 (off_inj h)
      rw [if_neg (fun h => e2 h.2), lk_far _ _ _ _ (by omega)]
  · have := hl.apart hp hq e1
    rw [if_neg (fun h => e1 h.1), lk_far _ _ _ _ (by omega)]
theorem link_own (hl : Lay n H N) {x q : Nat} (hx : N x) (hq : Base H N q) (d : Bool) (v : Int) :
    lk (st f (q + off d) v 4) (x + 8) = lk f (x + 8) ∧ lk (st f (q + off d) v 4) (x + 12) = lk f (x + 12) := by
  have b1 := off_bd d
  by_cases e1 : q = x
  · subst e1
    exact ⟨lk_far _ _ _ _ (by omega), lk_far _ _ _ _ (by omega)⟩
  · have := hl.nodeApart hq hx e1
    exact ⟨lk_far _ _ _ _ (by omega), lk_far _ _ _ _ (by omega)⟩
theorem own_link (hl : Lay n H N) {p x : Nat} (hp : Base H N p) (hx : N x) (e : Bool) (v : Int) : lk (st f (x + 8) v 4) (p + off e) = lk f (p + off e) := by
  have b1 := off_bd e
  by_cases e1 : p = x
  · subst e1
    exact lk_far _ _ _ _ (by omega)
  · have := hl.nodeApart hp hx e1
    exact lk_far _ _ _ _ (by omega)
theorem own_own (hl : Lay n H N) {x y : Nat} (hx : N x) (hy : N y) {v : Nat} (hv : v < 4294967296) :
    lk (st f (y + 8) v 4) (x + 8) = (if x = y then (v : Int) else lk f (x + 8)) ∧ lk (st f (y + 8) v 4) (x + 12) = lk f (x + 12) := by
  by_cases e1 : x = y
  · subst e1
    rw [if_pos rfl]
    exact ⟨lk_same _ _ _ hv, lk_far _ _ _ _ (by omega)⟩
  · have := hl.xx x y hx hy e1
    rw [if_neg e1]
    exact ⟨lk_far _ _ _ _ (by omega), lk_far _ _ _ _ (by omega)⟩
theorem fill_link (hl : Lay n H N) {p x : Nat} (hp : Base H N p) (hx : N x) (e : Bool) : lk (fl f x 0 16) (p + off e) = if p = x then 0 else lk f (p + off e) := by
  have b1 := off_bd e
  by_cases e1 : p = x
  · subst e1
    rw [if_pos rfl, lk_fl _ _ _ (by omega), if_pos (by omega)]
  · have := hl.nodeApart hp hx e1
    rw [if_neg e1, lk_fl _ _ _ (by omega), if_neg (by omega)]
theorem fill_own (hl : Lay n H N) {x y : Nat} (hx : N x) (hy : N y) : lk (fl f y 0 16) (x + 8) = (if x = y then 0 else lk f (x + 8)) ∧ lk (fl f y 0 16) (x + 12) = (if x = y then 0 else lk f (x + 12)) := by
  by_cases e1 : x = y
  · subst e1
    rw [if_pos rfl, if_pos rfl, lk_fl _ _ _ (by omega), if_pos (by omega), lk_fl _ _ _ (by omega), if_pos (by omega)]
    exact ⟨rfl, rfl⟩
  · have := hl.xx x y hx hy e1
    rw [if_neg e1, if_neg e1, lk_fl _ _ _ (by omega), if_neg (by omega), lk_fl _ _ _ (by omega), if_neg (by omega)]
    exact ⟨rfl, rfl⟩
theorem Ch.base (c : Ch n H N L f) {h : Nat} (hh : h ∈ H) {p : Nat} (hp : p ∈ h :: L h) : Base H N p := by
  rcases List.mem_cons.1 hp with rfl | hp
  · exact .inl hh
  · exact .inr (c.mem h hh p hp)
theorem Ch.no0 (c : Ch n H N L f) {h : Nat} (hh : h ∈ H) (d : Bool) : 0 ∉ dl d (L h) := by
  intro h0
  have := c.lay.xin 0 (c.mem h hh 0 (dl_mem.1 h0))
  omega
theorem Ch.nodR (c : Ch n H N L f) {h : Nat} (hh : h ∈ H) (d : Bool) : (h :: dl d (L h)).Nodup := by
  refine List.nodup_cons.2 ⟨fun hm => ?_, dl_nod (c.nod h hh)⟩
  exact c.lay.not hh (c.mem h hh h (dl_mem.1 hm)) rfl
/-- Neighbors are the ring's. -/
theorem ohd (L : Nat → List Nat) (h : Nat) (d : Bool) : oh ((dl d (L h)).headD 0) h = lst h (dl (!d) (L h)) := by
  unfold lst
  rw [dl_rev, List.reverse_reverse]
theorem Ch.first (c : Ch n H N L f) {h : Nat} (hh : h ∈ H) (d : Bool) : lk f (h + off d) = ((dl d (L h)).headD 0 : Nat) := by
  rw [c.ring h hh d h (by simp), nxt_here]
theorem Ch.next (c : Ch n H N L f) {h : Nat} (hh : h ∈ H) (d : Bool) {x : Nat} (hx : x ∈ L h) : lk f (x + off d) = (nxt (dl d (L h)) x : Nat) := by
  have : h ≠ x := c.lay.not hh (c.mem h hh x hx)
  rw [c.ring h hh d x (by simp [hx]), nxt_there _ this]

/-- A memory behind a push. -/
def pushF (f : Nat → Int) (h x : Nat) (d : Bool) (nb : Nat) : Nat → Int :=
  st (st (st (st f (x + off d) nb 4) (x + 8) h 4) (h + off d) x 4) (oh nb h + off (!d)) x 4
theorem Ch.push (c : Ch n H N L f) {h x : Nat} (hh : h ∈ H) (hx : N x) (hfree : ∀ k, k ∈ H → x ∉ L k) (d : Bool) :
    Ch n H N (upL L h (pushL d x (L h))) (pushF f h x d ((dl d (L h)).headD 0)) := by
  have hb := c.big
  have hbh : Base H N h := .inl hh
  have hbx : Base H N x := .inr hx
  have ph := c.lay.pos hbh
  have px := c.lay.pos hbx
  have hq := ohd L h d
  obtain ⟨q, hqd⟩ : ∃ q, q = oh ((dl d (L h)).headD 0) h := ⟨_, rfl⟩
  have hqm : q ∈ h :: L h := by
    rw [hqd, hq]
    have := lst_mem h (dl (!d) (L h))
    simpa [dl_mem] using this
  have hbq : Base H N q := c.base hh hqm
  have hnb : (dl d (L h)).headD 0 < 4294967296 := by
    rcases e : dl d (L h) with _ | ⟨y, ys⟩
    · simp
    · have : y ∈ dl d (L h) := by rw [e]; simp
      have := c.lay.xin y (c.mem h hh y (dl_mem.1 this))
      simp; omega
  have hhx : h ≠ x := c.lay.not hh hx
  have hqx : q ≠ x := by
    rintro rfl
    rcases List.mem_cons.1 hqm with e | e
    · exact hhx e.symm
    · exact hfree h hh e
  have W : ∀ p e, Base H N p → lk (pushF f h x d ((dl d (L h)).headD 0)) (p + off e) = if p = q ∧ e = !d then (x : Int) else if p = h ∧ e = d then (x : Int) else if p = x ∧ e = d then ((dl d (L h)).headD 0 : Nat) else lk f (p + off e) := by
    intro p e hp
    unfold pushF
    rw [← hqd, link_link c.lay hp hbq _ _ (by omega), link_link c.lay hp hbh _ _ (by omega), own_link c.lay hp hx, link_link c.lay hp hbx _ _ hnb]
  have WO : ∀ y, N y → lk (pushF f h x d ((dl d (L h)).headD 0)) (y + 8) = (if y = x then (h : Int) else lk f (y + 8)) ∧ lk (pushF f h x d ((dl d (L h)).headD 0)) (y + 12) = lk f (y + 12) := by
    intro y hy
    unfold pushF
    rw [← hqd, (link_own c.lay hy hbq _ _).1, (link_own c.lay hy hbh _ _).1, (own_own c.lay hy hx (by omega)).1, (link_own c.lay hy hbx _ _).1,
      (link_own c.lay hy hbq _ _).2, (link_own c.lay hy hbh _ _).2, (own_own c.lay hy hx (v := h) (by omega)).2, (link_own c.lay hy hbx _ _).2]
    exact ⟨rfl, rfl⟩
  have fx := c.free x hx hfree
  refine ⟨c.lay, c.big, ?_, ?_, ?_, ?_, ?_, ?_, ?_⟩
  · intro k hk y hy
    by_cases e : k = h
    · subst e
      rw [upL_same] at hy
      rcases push_mem.1 hy with rfl | hy
      · exact hx
      · exact c.mem _ hk y hy
    · rw [upL_other _ _ e] at hy
      exact c.mem k hk y hy
  · intro k hk
    by_cases e : k = h
    · subst e
      rw [upL_same]
      exact push_nod (c.nod _ hk) (hfree _ hk)
    · rw [upL_other _ _ e]
      exact c.nod k hk
  · intro k j hk hj y hy hz
    have key : ∀ k, k ∈ H → y ∈ upL L h (pushL d x (L h)) k → (y = x ∧ k = h) ∨ (y ≠ x ∧ y ∈ L k) := by
      intro k hk hy
      by_cases e : k = h
      · subst e
        rw [upL_same] at hy
        by_cases e2 : y = x
        · exact .inl ⟨e2, rfl⟩
        · exact .inr ⟨e2, (push_mem.1 hy).resolve_left e2⟩
      · rw [upL_other _ _ e] at hy
        exact .inr ⟨fun e2 => hfree k hk (e2 ▸ hy), hy⟩
    rcases key k hk hy with ⟨e, rfl⟩ | ⟨e, hy⟩ <;> rcases key j hj hz with ⟨e', rfl⟩ | ⟨e', hz⟩
    · rfl
    · exact absurd e e'
    · exact absurd e' e
    · exact c.one k j hk hj y hy hz
  · intro k hk e p hp
    by_cases ek : k = h
    · subst ek
      rw [upL_same] at hp ⊢
      have hbp : Base H N p := by
        rcases List.mem_cons.1 hp with rfl | hp
        · exact hbh
        · rcases push_mem.1 hp with rfl | hp
          · exact hbx
          · exact .inr (c.mem _ hk p hp)
      have hpo : p = x ∨ p ∈ k :: L k := by
        rcases List.mem_cons.1 hp with rfl | hp
        · exact .inr (by simp)
        · rcases push_mem.1 hp with rfl | hp
          · exact .inl rfl
          · exact .inr (by simp [hp])
      rw [W p e hbp]
      by_cases ed : e = d
      · subst ed
        have n1 : ¬ (p = q ∧ e = !e) := by rintro ⟨_, h⟩; cases e <;> simp at h
        rw [if_neg n1, dl_push]
        by_cases e1 : p = k
        · subst e1
          rw [if_pos ⟨rfl, rfl⟩, nxt_here]
          simp
        · rw [if_neg (fun h => e1 h.1)]
          by_cases e2 : p = x
          · subst e2
            rw [if_pos ⟨rfl, rfl⟩, nxt_there _ (Ne.symm e1), nxt_here]
          · rw [if_neg (fun h => e2 h.1), c.ring k hk e p (hpo.resolve_left e2), nxt_there _ (Ne.symm e1), nxt_there _ (Ne.symm e1), nxt_there _ (Ne.symm e2)]
      · have ed' : e = !d := by cases e <;> cases d <;> simp_all
        subst ed'
        have n1 : ¬ (p = k ∧ (!d) = d) := by rintro ⟨_, h⟩; cases d <;> simp at h
        have n2 : ¬ (p = x ∧ (!d) = d) := by rintro ⟨_, h⟩; cases d <;> simp at h
        rw [if_neg n1, if_neg n2, dl_push']
        have nd : (k :: (dl (!d) (L k) ++ [x])).Nodup := by
          have := c.nodR hk (!d)
          have h2 : (k :: dl (!d) (L k) ++ [x]).Nodup := by
            refine List.nodup_append.2 ⟨this, by simp, ?_⟩
            intro a ha b hb
            simp at hb
            subst hb
            rintro rfl
            rcases List.mem_cons.1 ha with e | e
            · exact hhx e.symm
            · exact hfree k hk (dl_mem.1 e)
          simpa using h2
        rw [nxt_snoc nd (c.no0 hk (!d)), ← hq, ← hqd]
        by_cases e2 : p = x
        · subst e2
          rw [if_neg (fun h => hqx h.1.symm), if_pos rfl, fx.1]
          rfl
        · rw [if_neg e2]
          by_cases e3 : p = q
          · rw [if_pos ⟨e3, rfl⟩, if_pos e3]
          · rw [if_neg (fun h => e3 h.1), if_neg e3, c.ring k hk (!d) p (hpo.resolve_left e2)]
    · rw [upL_other _ _ ek] at hp ⊢
      have hbp := c.base hk hp
      have n3 : p ≠ x := by
        rintro rfl
        rcases List.mem_cons.1 hp with e | e
        · exact c.lay.not hk hx e.symm
        · exact hfree k hk e
      have n2 : p ≠ h := by
        rintro rfl
        rcases List.mem_cons.1 hp with e | e
        · exact ek e.symm
        · exact c.lay.not hh (c.mem k hk _ e) rfl
      have n1 : p ≠ q := by
        rintro rfl
        rcases List.mem_cons.1 hqm with e | e
        · exact n2 e
        · rcases List.mem_cons.1 hp with e' | e'
          · exact c.lay.not hk (c.mem h hh _ e) e'.symm
          · exact ek (c.one k h hk hh _ e' e)
      rw [W p e hbp, if_neg (fun h => n1 h.1), if_neg (fun h => n2 h.1), if_neg (fun h => n3 h.1), c.ring k hk e p hp]
  · intro k hk y hy
    by_cases ek : k = h
    · subst ek
      rw [upL_same] at hy
      rcases push_mem.1 hy with rfl | hy
      · rw [(WO y hx).1, if_pos rfl]
      · have : y ≠ x := fun e => hfree k hk (e ▸ hy)
        rw [(WO y (c.mem k hk y hy)).1, if_neg this, c.own k hk y hy]
    · rw [upL_other _ _ ek] at hy
      have : y ≠ x := fun e => hfree k hk (e ▸ hy)
      rw [(WO y (c.mem k hk y hy)).1, if_neg this, c.own k hk y hy]
  · intro y hy hn
    have hyx : y ≠ x := by
      rintro rfl
      have := hn h hh
      rw [upL_same] at this
      exact this (push_mem.2 (.inl rfl))
    have hno : ∀ k, k ∈ H → y ∉ L k := by
      intro k hk hm
      have := hn k hk
      by_cases ek : k = h
      · subst ek
        rw [upL_same] at this
        exact this (push_mem.2 (.inr hm))
      · rw [upL_other _ _ ek] at this
        exact this hm
    have hyh : y ≠ h := Ne.symm (c.lay.not hh hy)
    have hyq : y ≠ q := by
      rintro rfl
      rcases List.mem_cons.1 hqm with e | e
      · exact hyh e
      · exact hno h hh e
    have := c.free y hy hno
    refine ⟨fun e => ?_, ?_⟩
    · rw [W y e (.inr hy), if_neg (fun h => hyq h.1), if_neg (fun h => hyh h.1), if_neg (fun h => hyx h.1), this.1]
    · rw [(WO y hy).1, if_neg hyx, this.2]
  · intro y hy
    rw [(WO y hy).2, c.pad y hy]
end
end Go.Proofs.YtiacclmapicmdaaDoor
