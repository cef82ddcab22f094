/- Tree's smallest functions over a tree's links. Conditions: the table of widths lies in its block; the arena's blocks are known; its bytes are a tree's links. -/
import Derived.Test.YtiacclmapicmdaaDoorTrFn
namespace Go.Proofs.YtiacclmapicmdaaDoor
open Go.RowKit

/-- A color's number. -/
def cv (c : Bool) : Int := if c then 1 else 0
section
variable {c : Cx} {w w' : World} {s : Tr} {I : Nat → Bool} {f : Nat → Int}
theorem Tf.near (t : Tf c w s I f) {x : Nat} (hx : x = 0 ∨ c.N x) : c.ad x = 0 ∨ c.ad x + 24 ≤ c.n := by
  rcases hx with rfl | hx
  · exact .inl t.tm.pl.ad0
  · exact .inr (t.tm.pl.pos x hx).2.2
theorem Tf.wd (t : Tf c w s I f) {x : Nat} (hx : c.N x) (o i : Nat) (hi : i < 5) (ho : o = 4 * i) : tgv f (c.ad x) o = Go.Proofs.YtiacclmapicmdaaDoor.wd c.ad c.rt s I x i := by
  have := t.tm.pl.pos x hx
  unfold tgv
  rw [if_neg (by omega), ho]
  exact t.tm.wds x hx i hi
theorem Tf.chv (t : Tf c w s I f) {x : Nat} (hx : x = 0 ∨ c.N x) (d : Bool) : tgv f (c.ad x) (ko d) = (c.ad (s.ch x d) : Nat) := by
  rcases hx with rfl | hx
  · rw [t.zn.ch, t.tm.pl.ad0]; rfl
  · cases d
    · exact t.wd hx 0 0 (by decide) rfl
    · exact t.wd hx 4 1 (by decide) rfl
theorem Tf.parv (t : Tf c w s I f) {x : Nat} (hx : x = 0 ∨ c.N x) : tgv f (c.ad x) 8 = (c.ad (s.par x) : Nat) := by
  rcases hx with rfl | hx
  · rw [t.zn.par, t.tm.pl.ad0]; rfl
  · exact t.wd hx 8 2 (by decide) rfl
theorem Tf.redv (t : Tf c w s I f) {x : Nat} (hx : x = 0 ∨ c.N x) : tgv f (c.ad x) 16 = if s.red x then 1 else 0 := by
  rcases hx with rfl | hx
  · rw [t.zn.red, t.tm.pl.ad0]; rfl
  · rw [t.wd hx 16 4 (by decide) rfl]
    unfold Go.Proofs.YtiacclmapicmdaaDoor.wd
    cases s.red x <;> rfl
theorem Td.child (t : Td c w s I) {x : Nat} (hx : x = 0 ∨ c.N x) (d : Bool) :
    Calls Tryd.prog 53 #[lv c.p, .int .i64 (c.ad x : Nat), .bool d] w fun e w' => e = .returned (.int .i64 (c.ad (s.ch x d) : Nat)) ∧ Below w.heap.size w w' := by
  obtain ⟨f, t⟩ := t
  rw [← t.chv hx d]
  exact tchild t.aw _ d (t.near hx)
theorem Td.par (t : Td c w s I) {x : Nat} (hx : x = 0 ∨ c.N x) :
    Calls Tryd.prog 34 #[lv c.p, .int .i64 (c.ad x : Nat), .int .i64 8] w fun e w' => e = .returned (.int .i64 (c.ad (s.par x) : Nat)) ∧ Below w.heap.size w w' := by
  obtain ⟨f, t⟩ := t
  rw [← t.parv hx]
  exact tgeti t.aw _ 8 8 rfl (by have := t.near hx; omega)
theorem Td.col (t : Td c w s I) {x : Nat} (hx : x = 0 ∨ c.N x) :
    Calls Tryd.prog 34 #[lv c.p, .int .i64 (c.ad x : Nat), .int .i64 16] w fun e w' => e = .returned (.int .i64 (cv (s.red x))) ∧ Below w.heap.size w w' := by
  obtain ⟨f, t⟩ := t
  rw [show cv (s.red x) = tgv f (c.ad x) 16 from (t.redv hx).symm]
  exact tgeti t.aw _ 16 16 rfl (by have := t.near hx; omega)
theorem Td.own (t : Td c w s I) {x : Nat} (hx : c.N x) :
    Calls Tryd.prog 34 #[lv c.p, .int .i64 (c.ad x : Nat), .int .i64 12] w fun e w' => e = .returned (.int .i64 ((if I x then c.rt else 0 : Nat))) ∧ Below w.heap.size w w' := by
  obtain ⟨f, t⟩ := t
  have e : tgv f (c.ad x) 12 = ((if I x then c.rt else 0 : Nat) : Int) := t.wd hx 12 3 (by decide) rfl
  rw [← e]
  exact tgeti t.aw _ 12 12 rfl (by have := t.near (.inr hx); omega)
theorem Td.root (t : Td c w s I) :
    Calls Tryd.prog 34 #[lv c.p, .int .i64 (c.rt : Nat), .int .i64 0] w fun e w' => e = .returned (.int .i64 (c.ad s.top : Nat)) ∧ Below w.heap.size w w' := by
  obtain ⟨f, t⟩ := t
  have h := t.tm.pl.rpos
  have e : tgv f c.rt 0 = (c.ad s.top : Nat) := by
    unfold tgv
    rw [if_neg (by omega), Nat.add_zero]
    exact t.tm.top
  rw [← e]
  exact tgeti t.aw _ 0 0 rfl (by omega)
theorem Td.isRed (t : Td c w s I) {x : Nat} (hx : x = 0 ∨ c.N x) :
    Calls Tryd.prog 54 #[lv c.p, .int .i64 (c.ad x : Nat)] w fun e w' => e = .returned (.bool (s.red x)) ∧ Below w.heap.size w w' := by
  obtain ⟨f, t⟩ := t
  exact tred t.aw _ _ (t.near hx) (t.redv hx)
theorem Zn.setC (z : Zn s) {x : Nat} (h : x ≠ 0) (d : Bool) (k : Nat) : Zn (s.setC x d k) := by
  rw [← Tr.link_of h]; exact z.link x d k
theorem Zn.put (z : Zn s) (k : Nat) (x : Lf) : Zn (s.put k x) := by
  unfold Tr.put
  by_cases h : k = 0
  · rw [if_pos h]; exact z
  · rw [if_neg h]
    have h0 : ¬ (0 = k) := fun e => h e.symm
    refine ⟨fun e => ?_, ?_, ?_⟩
    · have := z.ch e; unfold Tr.ch at this ⊢; simp only [if_neg h0]; exact this
    · have := z.par; unfold Tr.par at this ⊢; simp only [if_neg h0]; exact this
    · have := z.red; unfold Tr.red at this ⊢; simp only [if_neg h0]; exact this
theorem Td.setCh (t : Td c w s I) {x k : Nat} (hx : c.N x) (hk : k = 0 ∨ c.N k) (d : Bool) :
    Calls Tryd.prog 46 #[lv c.p, .int .i64 (c.ad x : Nat), .int .i64 (ko d : Nat), .int .i64 (c.ad k : Nat)] w fun e w' => (∃ u, e = .returned u) ∧ Td c w' (s.link x d k) I ∧ Fg c.g w w' := by
  obtain ⟨f, t⟩ := t
  have hp := t.tm.pl.pos x hx
  have hb := t.tm.pl.bd hk
  have ho : ko d ≤ 4 := by cases d <;> decide
  refine (tset_ok t.aw _ (ko d) _ hp.2.1 (by omega) hb.1).mono ?_
  rintro e w' ⟨h1, h2, h3⟩
  refine ⟨h1, ⟨_, h2, ?_, t.kp.trans (keepT_word hx (by omega) _ _), t.zn.link x d k⟩, h3⟩
  rw [Tr.link_of hp.1]
  exact t.tm.setC d hx hk
theorem Td.setTop (t : Td c w s I) {k : Nat} (hk : k = 0 ∨ c.N k) (d : Bool) :
    Calls Tryd.prog 46 #[lv c.p, .int .i64 (c.rt : Nat), .int .i64 0, .int .i64 (c.ad k : Nat)] w fun e w' => (∃ u, e = .returned u) ∧ Td c w' (s.link 0 d k) I ∧ Fg c.g w w' := by
  obtain ⟨f, t⟩ := t
  have hp := t.tm.pl.rpos
  have hb := t.tm.pl.bd hk
  refine (tset_ok t.aw _ 0 _ hp.1 (by omega) hb.1).mono ?_
  rintro e w' ⟨h1, h2, h3⟩
  exact ⟨h1, ⟨_, h2, t.tm.setT hk, t.kp.trans (keepT_top _ _), t.zn.link 0 d k⟩, h3⟩
theorem Td.setPar (t : Td c w s I) {k p : Nat} (hk : k = 0 ∨ c.N k) (hp : p = 0 ∨ c.N p) :
    Calls Tryd.prog 46 #[lv c.p, .int .i64 (c.ad k : Nat), .int .i64 8, .int .i64 (c.ad p : Nat)] w fun e w' => (∃ u, e = .returned u) ∧ Td c w' (s.put k { s.lf k with p := p }) I ∧ Fg c.g w w' := by
  obtain ⟨f, t⟩ := t
  rcases hk with rfl | hk
  · rw [t.tm.pl.ad0]
    exact (tset_no c.p 8 _ w).mono fun _ _ ⟨h1, h2⟩ => ⟨h1, ⟨f, t.aw.below h2, t.tm, t.kp, t.zn⟩, Fg.of_below h2 (Nat.le_refl _)⟩
  · have h0 := t.tm.pl.pos k hk
    refine (tset_ok t.aw _ 8 _ h0.2.1 (by omega) (t.tm.pl.bd hp).1).mono ?_
    rintro e w' ⟨h1, h2, h3⟩
    refine ⟨h1, ⟨_, h2, ?_, t.kp.trans (keepT_word hk (by omega) _ _), t.zn.put _ _⟩, h3⟩
    unfold Tr.put
    rw [if_neg h0.1]
    exact t.tm.setP hk hp
theorem Td.paint (t : Td c w s I) {k : Nat} (hk : k = 0 ∨ c.N k) (r : Bool) :
    Calls Tryd.prog 46 #[lv c.p, .int .i64 (c.ad k : Nat), .int .i64 16, .int .i64 (cv r)] w fun e w' => (∃ u, e = .returned u) ∧ Td c w' (s.paint k r) I ∧ Fg c.g w w' := by
  obtain ⟨f, t⟩ := t
  rcases hk with rfl | hk
  · rw [t.tm.pl.ad0]
    exact (tset_no c.p 16 _ w).mono fun _ _ ⟨h1, h2⟩ => ⟨h1, ⟨f, t.aw.below h2, t.tm, t.kp, t.zn⟩, Fg.of_below h2 (Nat.le_refl _)⟩
  · have h0 := t.tm.pl.pos k hk
    have e1 : cv r = ((if r then 1 else 0 : Nat) : Int) := by cases r <;> rfl
    rw [e1]
    refine (tset_ok t.aw _ 16 (if r then 1 else 0 : Nat) h0.2.1 (by omega) (by cases r <;> decide)).mono ?_
    rintro e w' ⟨h1, h2, h3⟩
    refine ⟨h1, ⟨_, h2, ?_, t.kp.trans (keepT_word hk (by omega) _ _), t.zn.paint _ _⟩, h3⟩
    rw [Tr.paint_of h0.1]
    exact t.tm.setR r hk
theorem Td.setOwn (t : Td c w s I) {k : Nat} (hk : c.N k) :
    Calls Tryd.prog 46 #[lv c.p, .int .i64 (c.ad k : Nat), .int .i64 12, .int .i64 (c.rt : Nat)] w fun e w' => (∃ u, e = .returned u) ∧ Td c w' s (fun j => if j = k then true else I j) ∧ Fg c.g w w' := by
  obtain ⟨f, t⟩ := t
  have h0 := t.tm.pl.pos k hk
  have hr := t.tm.pl.rpos
  have hn := t.tm.pl.big
  refine (tset_ok t.aw _ 12 _ h0.2.1 (by omega) (by omega)).mono ?_
  rintro e w' ⟨h1, h2, h3⟩
  exact ⟨h1, ⟨_, h2, t.tm.setI true hk, t.kp.trans (keepT_word hk (by omega) _ _), t.zn⟩, h3⟩
theorem Td.fill (t : Td c w s I) {k : Nat} (hk : c.N k) :
    Calls Tryd.prog 37 #[.pointer (some ⟨c.p, 0, none⟩), .int .i64 (c.ad k : Nat), .int .i64 24, .int .u8 0] w fun e w' => e = .returned (.int .i64 0) ∧ Td c w' (s.clr k) (fun j => if j = k then false else I j) ∧ Fg c.g w w' := by
  obtain ⟨f, t⟩ := t
  have h0 := t.tm.pl.pos k hk
  refine (fill_ok c.p c.g c.n _ (c.ad k) 24 0 t.aw.ar (by omega) h0.2.2).mono ?_
  rintro e w' ⟨h1, h2, h3⟩
  exact ⟨h1, ⟨_, t.aw.fg (Fg.of_only h3) h2, t.tm.clr hk, t.kp.trans (keepT_clr hk _), t.zn.clr h0.1⟩, Fg.of_only h3⟩
end
/-- A function's own box of the links beside a tree's; what turned since w0. -/
structure Tb (c : Cx) (w0 w : World) (b : Nat) (s : Tr) (I : Nat → Bool) : Prop where
  td : Td c w s I
  bl : Blk w b 69 #[.pointer (some ⟨c.p, 0, none⟩)]
  fr : Fg c.g w0 w
  ne : b ≠ c.g
section
variable {c : Cx} {w0 w w' : World} {b : Nat} {s s' : Tr} {I I' : Nat → Bool}
theorem Tb.below (u : Tb c w0 w b s I) (h : Below w.heap.size w w') : Tb c w0 w' b s I := ⟨u.td.below h, u.bl.below h u.bl.lt, u.fr.trans (Fg.of_below h (Nat.le_refl _)), u.ne⟩
theorem Tb.fg (u : Tb c w0 w b s I) (h' : Td c w' s' I') (h : Fg c.g w w') : Tb c w0 w' b s' I' := ⟨h', u.bl.fg h u.ne, u.fr.trans h, u.ne⟩
theorem Tb.drew (u : Tb c w0 w b s I) : Tb c w0 w.drew b s I := u.below ((Below.refl _ w).drew)
theorem Tb.cell (u : Tb c w0 w b s I) : w.cell? ⟨b, 0, none⟩ = some (.pointer (some ⟨c.p, 0, none⟩)) := u.bl.cell 0
theorem Tb.new (a : Td c w s I) : Tb c w (w.alloc (.cells #[.pointer (some ⟨c.p, 0, none⟩)] 69)) w.heap.size s I :=
  ⟨a.below (below_one w _), Blk.new _ _ _, Fg.of_below (below_one w _) (Nat.le_refl _), by have := a.gb; omega⟩
end
end Go.Proofs.YtiacclmapicmdaaDoor
