/- What a round of the two rebalancings reads, and what its relation is afterwards. No condition on the program. -/
import Derived.Test.YtiacclmapicmdaaDoorTrMove2
namespace Go.Proofs.YtiacclmapicmdaaDoor
open Go.RowKit

section
variable {c : Cx} {w : World} {s : Tr} {I : Nat → Bool}
theorem At.col {t : T} {x p : Nat} (h : At s t x p) (z : Zn s) : s.red x = t.red := by
  cases t with
  | e => rw [show x = 0 from h]; exact z.red
  | n cc l k r => obtain ⟨rfl, _, _, h4, _⟩ := h; exact h4
theorem Td.parE (t : Td c w s I) {x p : Nat} (hx : x = 0 ∨ c.N x) (e : s.par x = p) :
    Calls Tryd.prog 34 #[lv c.p, .int .i64 (c.ad x : Nat), .int .i64 8] w fun e w' => e = .returned (.int .i64 (c.ad p : Nat)) ∧ Below w.heap.size w w' := by
  subst e; exact t.par hx
theorem Td.childE (t : Td c w s I) {x k : Nat} (hx : x = 0 ∨ c.N x) (d : Bool) (e : s.ch x d = k) :
    Calls Tryd.prog 53 #[lv c.p, .int .i64 (c.ad x : Nat), .bool d] w fun e w' => e = .returned (.int .i64 (c.ad k : Nat)) ∧ Below w.heap.size w w' := by
  subst e; exact t.child hx d
theorem Td.redE (t : Td c w s I) {x : Nat} {r : Bool} (hx : x = 0 ∨ c.N x) (e : s.red x = r) :
    Calls Tryd.prog 54 #[lv c.p, .int .i64 (c.ad x : Nat)] w fun e w' => e = .returned (.bool r) ∧ Below w.heap.size w w' := by
  subst e; exact t.isRed hx
theorem Td.rootE (t : Td c w s I) {k : Nat} (e : s.top = k) :
    Calls Tryd.prog 34 #[lv c.p, .int .i64 (c.rt : Nat), .int .i64 0] w fun e w' => e = .returned (.int .i64 (c.ad k : Nat)) ∧ Below w.heap.size w w' := by
  subst e; exact t.root
theorem Td.colE (t : Td c w s I) {x : Nat} {r : Bool} (hx : x = 0 ∨ c.N x) (e : s.red x = r) :
    Calls Tryd.prog 34 #[lv c.p, .int .i64 (c.ad x : Nat), .int .i64 16] w fun e w' => e = .returned (.int .i64 (cv r)) ∧ Below w.heap.size w w' := by
  subst e; exact t.col hx
theorem Td.paint0 (t : Td c w s I) {k : Nat} (hk : k = 0 ∨ c.N k) :
    Calls Tryd.prog 46 #[lv c.p, .int .i64 (c.ad k : Nat), .int .i64 16, .int .i64 0] w fun e w' => (∃ u, e = .returned u) ∧ Td c w' (s.paint k false) I ∧ Fg c.g w w' := t.paint hk false
theorem Td.paint1 (t : Td c w s I) {k : Nat} (hk : k = 0 ∨ c.N k) :
    Calls Tryd.prog 46 #[lv c.p, .int .i64 (c.ad k : Nat), .int .i64 16, .int .i64 1] w fun e w' => (∃ u, e = .returned u) ∧ Td c w' (s.paint k true) I ∧ Fg c.g w w' := t.paint hk true
/-- A rotation of what stands at a place. -/
theorem Td.rotateR (t : Td c w s I) {u : List Fr} {T1 : T} {x p : Nat} {d : Bool} (h : Rp s u T1 x p) (ht : T1.isE = false) (hx : c.N x) :
    Calls Tryd.prog 59 #[lv c.p, .int .i64 (c.rt : Nat), .int .i64 (c.ad x : Nat), .bool d] w fun e w' => (∃ u, e = .returned u) ∧ Td c w' (s.turn x d) I ∧ Fg c.g w w' :=
  t.rotate hx (h.sd2 ht) (h.turn_ok ht)
end
/-- What a round near a leaf knows. -/
structure Rn (c : Cx) (s : Tr) (f : Fr) (t : T) (x : Nat) : Prop where
  xN : x = 0 ∨ c.N x
  kN : c.N f.k
  oN : f.o.root = 0 ∨ c.N f.o.root
  par : t.isE = false → s.par x = f.k
  red : s.red f.k = f.c
  ch : s.ch f.k f.d = x
  cho : s.ch f.k (!f.d) = f.o.root
  rx : s.red x = t.red
  ro : s.red f.o.root = f.o.red
  ne : x ≠ f.o.root ∨ (t.isE = true ∧ f.o.isE = true)
  xk : x ≠ f.k
  ok : f.o.root ≠ f.k
section
variable {c : Cx} {s : Tr} {f : Fr} {u : List Fr} {t : T} {x p : Nat}
theorem Rp.rn (h : Rp s (f :: u) t x p) (z : Zn s) (hN : ∀ j, j ∈ (plug (f :: u) t).ns → c.N j) : Rn c s f t x := by
  obtain ⟨h1, h2, h3, h4, h5⟩ := h.fr
  have hf : ∀ j, j ∈ fns (f :: u) → c.N j := fun j hj => hN j (mem_plug.2 (.inr hj))
  have hx := h.root
  have hxm : x = 0 ∨ x ∈ t.ns := by rw [hx]; exact (root_mem t).symm
  have hom : f.o.root = 0 ∨ f.o.root ∈ f.o.ns := (root_mem f.o).symm
  have hof : f.o.root = 0 ∨ f.o.root ∈ fns (f :: u) := hom.imp id fun hm => by simp [fns, hm]
  have xk : x ≠ f.k := fun e => by
    rcases hxm with h0 | h0
    · exact h5 (e.symm.trans h0)
    · exact h.ap x h0 (by rw [e]; simp [fns])
  have okk : f.o.root ≠ f.k := fun e => by
    rcases hom with h0 | h0
    · exact h5 (e.symm.trans h0)
    · have := h.nu
      simp only [fns] at this
      exact (List.nodup_cons.1 this).1 (by rw [← e]; simp [h0])
  refine ⟨hxm.imp id fun hm => hN x (mem_plug.2 (.inl hm)), hf f.k (by simp [fns]), hof.imp id (hf _), fun ht => ?_, h4, h2, h3, h.at_.col z, h.over.at_.col z, ?_, xk, okk⟩
  · rw [(h.kid ht).2.2.1]; exact h1
  · by_cases e : x = f.o.root
    · right
      rcases hxm with h0 | h0
      · refine ⟨?_, ?_⟩
        · rw [isE_root h.at_]; simp [h0]
        · rw [isE_root h.over.at_, ← e]; simp [h0]
      · rcases hom with h6 | h6
        · refine ⟨?_, ?_⟩
          · rw [isE_root h.at_]; simp [e, h6]
          · rw [isE_root h.over.at_]; simp [h6]
        · exact absurd (by simp [fns, ← e] at h6 ⊢; exact .inr (.inl h6)) (h.ap x h0)
    · exact .inl e
end
/-- The relation of the rebalancing behind an addition: what it comes to is addFix u0 T0. -/
structure Ra (u0 : List Fr) (T0 : T) (s0 s : Tr) (u : List Fr) (t : T) (x p : Nat) : Prop where
  rp : Rp s u t x p
  red : t.red = true
  bal : ∃ n, Bu u n ∧ Bal t n
  fx : addFix u t = addFix u0 T0
  out : Out (plug u0 T0).ns s0 s
section
variable {u0 : List Fr} {T0 : T} {s0 s : Tr} {u : List Fr} {t : T} {x p : Nat} {f g : Fr}
theorem Ra.ns (r : Ra u0 T0 s0 s u t x p) (h0 : T0.isE = false) : (plug u t).ns = (plug u0 T0).ns := by
  rw [← addFix_ns u (red_isE r.red), r.fx, addFix_ns u0 h0]
theorem Ra.mem (r : Ra u0 T0 s0 s u t x p) (h0 : T0.isE = false) : ∀ j, j ∈ (plug u t).ns → j ∈ (plug u0 T0).ns := fun j hj => by rw [← r.ns h0]; exact hj
/-- A red parent has a parent, which is black. -/
theorem Ra.up (r : Ra u0 T0 s0 s (f :: u) t x p) (hf : f.c = true) : f.o.red = false ∧ ∃ g u', u = g :: u' ∧ g.c = false := by
  obtain ⟨n, ⟨_, h2, _⟩, _⟩ := r.bal
  obtain ⟨h3, h4⟩ := h2 hf
  refine ⟨h3, ?_⟩
  cases u with
  | nil => exact absurd rfl (hc_cons h4)
  | cons g u' => exact ⟨g, u', rfl, h4⟩
theorem Ra.redded (r : Ra u0 T0 s0 s (f :: g :: u) t x p) (h0 : T0.isE = false) (hf : f.c = true) (hg : g.c = false) (ho : g.o.red = true) :
    Ra u0 T0 s0 (((s.paint f.k false).paint g.o.root false).paint g.k true) u (.mk g.d true (.mk f.d false t f.k f.o) g.k (g.o.col false)) g.k (s.par g.k) := by
  obtain ⟨n, ⟨b1, b2, b3⟩, b4⟩ := r.bal
  rw [hf] at b3
  simp only [if_true] at b3
  obtain ⟨b5, b6, b7⟩ := b3
  rw [hg] at b7
  simp only [Bool.false_eq_true, if_false] at b7
  refine ⟨add_red r.rp, T.red_mk .., ⟨n + 1, b7, bal_red.2 ⟨bal_black.2 ⟨b4, b1⟩, bal_col b5 ho, T.red_mk .., T.red_blk _⟩⟩, ?_, r.out.trans (add_red_out r.rp (r.mem h0))⟩
  rw [← r.fx, addFix_red hf ho]
theorem Ra.outer (r : Ra u0 T0 s0 s (f :: g :: u) t x p) (h0 : T0.isE = false) (hf : f.c = true) (hg : g.c = false) (ho : g.o.red = false) (hd : f.d = g.d) :
    Ra u0 T0 s0 (((s.paint f.k false).paint g.k true).turn g.k (!g.d)) (⟨g.d, false, f.k, .mk g.d true f.o g.k g.o⟩ :: u) t x f.k := by
  obtain ⟨n, ⟨b1, b2, b3⟩, b4⟩ := r.bal
  have hfo := (b2 hf).1
  rw [hf] at b3
  simp only [if_true] at b3
  obtain ⟨b5, b6, b7⟩ := b3
  rw [hg] at b7
  simp only [Bool.false_eq_true, if_false] at b7
  have h1 := (add_out r.rp hd).in_
  have e := h1.root
  rw [e, ← r.rp.root] at h1
  refine ⟨h1, r.red, ⟨n, ⟨bal_red.2 ⟨b1, b5, hfo, ho⟩, (fun h => by cases h), b7⟩, b4⟩, ?_, r.out.trans (add_out_out r.rp hd (r.mem h0))⟩
  rw [← r.fx, addFix_out hf ho hd, addFix_stop (.inl rfl)]
  rfl
theorem Ra.inner (r : Ra u0 T0 s0 s (f :: g :: u) t x p) (h0 : T0.isE = false) (hf : f.c = true) (hg : g.c = false) (ho : g.o.red = false) (hd : f.d = !g.d) :
    Ra u0 T0 s0 (s.turn f.k g.d) (⟨g.d, true, x, t.on (!g.d)⟩ :: g :: u) (.mk g.d true f.o f.k (t.on g.d)) f.k x := by
  obtain ⟨n, ⟨b1, b2, b3⟩, b4⟩ := r.bal
  have hfo := (b2 hf).1
  rw [hf] at b3
  simp only [if_true] at b3
  have ht := red_isE r.red
  have h1 := add_in r.rp ht hd
  have e := T.as_mk ht g.d
  have e2 : Bal (.mk g.d true (t.on g.d) t.root (t.on (!g.d))) n := by
    have := b4
    rw [e, r.red] at this
    exact this
  obtain ⟨c1, c2, c3, c4⟩ := bal_red.1 e2
  rw [r.red, hf] at h1
  refine ⟨h1, T.red_mk .., ⟨n, ⟨c2, fun _ => ⟨c4, hg⟩, by simp only [if_true]; exact b3⟩, bal_red.2 ⟨b1, c1, hfo, c3⟩⟩, ?_, r.out.trans (add_in_out r.rp ht hd (r.mem h0))⟩
  rw [← r.fx, addFix_in hf ho hd r.red, r.red, hf, ← r.rp.root]
/-- The end: the topmost leaf is painted. -/
theorem Ra.stop (r : Ra u0 T0 s0 s u t x p) (h0 : T0.isE = false) (h : hc u = false ∨ u = []) :
    Rp (s.paint s.top false) [] ((addFix u0 T0).col false) s.top 0 ∧ Out (plug u0 T0).ns s0 (s.paint s.top false) := by
  rw [← r.fx, addFix_stop h]
  obtain ⟨x', p', h1⟩ := rp_plug (lo := u) (u := []) (by rw [List.append_nil]; exact r.rp)
  obtain ⟨e1, e2⟩ := h1.top
  subst e1
  rw [← e2] at h1
  refine ⟨h1.col false, r.out.trans (out_paint _ ?_)⟩
  rcases root_mem (plug u t) with hm | hm
  · left
    rw [h1.root]
    exact r.mem h0 _ hm
  · right
    rw [h1.root]
    exact hm
end
end Go.Proofs.YtiacclmapicmdaaDoor
