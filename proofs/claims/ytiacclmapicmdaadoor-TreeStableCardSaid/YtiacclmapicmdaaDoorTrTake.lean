/- Taking a leaf with two children out: the leftmost one on its right stands in for it. No condition on the program. -/
import Derived.Test.YtiacclmapicmdaaDoorTrStepD
namespace Go.Proofs.YtiacclmapicmdaaDoor
open Go.RowKit

theorem Out.mono {S S' : List Nat} {s s' : Tr} (h : Out S s s') (hS : ∀ j, j ∈ S → j ∈ S') : Out S' s s' := fun j hj j0 => h j (fun hm => hj (hS j hm)) j0
theorem Rp.z0 {s : Tr} {u : List Fr} {t : T} {x p : Nat} (h : Rp s u t x p) : p = 0 ∨ (p ∈ fns u ∧ p ≠ 0) := by
  rcases up_par h.up with ⟨_, e⟩ | e
  · exact .inl e
  · exact .inr e
theorem low_of {r : T} (hr : r.isE = false) : ∃ lo yc yr, r = plug lo (.n yc .e (fst r) yr) ∧ ∀ u, low r u = (lo ++ u, .n yc .e (fst r) yr) := by
  obtain ⟨yc, yk, yr, h1, _, h3⟩ := low_at (t := r) [] hr
  have e : fst r = yk := by unfold fst; rw [h1]; rfl
  rw [e]
  refine ⟨(low r []).1, yc, yr, ?_, fun u => ?_⟩
  · have := low_plug r []
    rw [h1] at this
    exact this.symm
  · have h4 := (h3 u).trans h1
    have h5 := low_app r u
    rw [← h5, ← h4]
section
variable {s : Tr} {u lo : List Fr} {cc yc : Bool} {l yr : T} {z y p : Nat}
theorem fns_app : ∀ (a b : List Fr), fns (a ++ b) = fns a ++ fns b
  | [], _ => rfl
  | f :: a, b => by simp only [List.cons_append, fns, fns_app a b, List.append_assoc]
theorem plug_app : ∀ (a b : List Fr) (t : T), plug (a ++ b) t = plug b (plug a t)
  | [], _, _ => rfl
  | _ :: a, b, _ => plug_app a b _
/-- What is read of the leaf that stands in. -/
theorem take_y (h : Rp s u (.n cc l z (plug lo (.n yc .e y yr))) z p) : Rp s (lo ++ ⟨true, cc, z, l⟩ :: u) (.n yc .e y yr) y (s.par y) := by
  have h1 := Rp.in_ (d := true) (c := cc) (a := plug lo (.n yc .e y yr)) (b := l) h
  obtain ⟨x2, p2, h2⟩ := plug_rp (lo := lo) h1
  have e := h2.root
  obtain ⟨_, _, h3, _⟩ := h2.kid rfl
  rw [e] at h2 h3
  rw [show s.par y = p2 from h3]
  exact h2
/-- Its right child comes into its place. -/
theorem take_z (h : Rp s u (.n cc l z (plug lo (.n yc .e y yr))) z p) : Rp (s.place y yr.root) (lo ++ ⟨true, cc, z, l⟩ :: u) yr yr.root (s.par y) ∧ Rp (s.place y yr.root) u (.n cc l z (plug lo yr)) z p := by
  have h1 := rp_child (d := false) (take_y h)
  refine ⟨h1, ?_⟩
  obtain ⟨x2, p2, h2⟩ := rp_plug (lo := lo) h1
  have h3 := h2.out
  have hk := h3.kid (T.isE_mk ..)
  have e : (s.place y yr.root).par z = p := by
    have hz := h.kid rfl
    unfold Tr.place
    rw [Tr.par_join, if_neg, hz.2.2.1]
    rintro ⟨e, _⟩
    have h5 := (take_y h).ap yr.root (by
      simp only [T.ns, List.nil_append, List.mem_cons]
      rcases root_mem yr with hm | hm
      · exact .inr hm
      · exact absurd (e.trans hm) hz.2.2.2)
    rw [← e] at h5
    exact h5 (by rw [fns_app]; simp [fns])
  dsimp only at h3
  rw [e] at h3
  exact h3
/-- It stands in for the leaf that goes. -/
def inFor (s1 : Tr) (z y : Nat) : Tr :=
  ((((s1.place z y).join y false ((s1.place z y).ch z false)).join y true (((s1.place z y).join y false ((s1.place z y).ch z false)).ch z true)).paint y ((((s1.place z y).join y false ((s1.place z y).ch z false)).join y true (((s1.place z y).join y false ((s1.place z y).ch z false)).ch z true)).red z))
theorem in_for {s1 : Tr} {r : T} (h : Rp s1 u (.n cc l z r) z p) (y0 : y ≠ 0) (yz : y ≠ z) (yu : y ∉ fns u) (yl : y ∉ l.ns) (yr : y ∉ r.ns) : Rp (inFor s1 z y) u (.n cc l y r) y p := by
  obtain ⟨hk1, hk2, hk3, z0⟩ := h.kid rfl
  have hl : s1.ch z false = l.root := hk1 false
  have hr : s1.ch z true = r.root := hk1 true
  have hc : s1.red z = cc := hk2
  have uz : z ∉ fns u := h.ap z (by simp [T.ns])
  have zp : z ≠ p := fun e => by
    rcases h.z0 with h0 | ⟨h0, _⟩
    · exact z0 (e.trans h0)
    · exact uz (e ▸ h0)
  have yp : ¬ (y = p ∧ p ≠ 0) := fun ⟨e, hp⟩ => by
    rcases h.z0 with h0 | ⟨h0, _⟩
    · exact hp h0
    · exact yu (e ▸ h0)
  have yl2 : ¬ (y = l.root ∧ l.root ≠ 0) := fun ⟨e, h0⟩ => by
    rcases root_mem l with hm | hm
    · exact yl (e ▸ hm)
    · exact h0 hm
  have yr2 : ¬ (y = r.root ∧ r.root ≠ 0) := fun ⟨e, h0⟩ => by
    rcases root_mem r with hm | hm
    · exact yr (e ▸ hm)
    · exact h0 hm
  obtain ⟨d, hd⟩ : ∃ d, d = s1.onR p z := ⟨_, rfl⟩
  have e2 : s1.place z y = s1.join p d y := by unfold Tr.place; rw [hk3, ← hd]
  have a1 : (s1.join p d y).ch z false = l.root := by rw [Tr.ch_join, if_neg (fun e => zp e.1), hl]
  have a2 : ((s1.join p d y).join y false l.root).ch z true = r.root := by
    rw [Tr.ch_join, if_neg (fun e => yz e.1.symm), Tr.ch_join, if_neg (fun e => zp e.1), hr]
  have a3 : (((s1.join p d y).join y false l.root).join y true r.root).red z = cc := by rw [Tr.red_join, Tr.red_join, Tr.red_join, hc]
  have e3 : inFor s1 z y = ((((s1.join p d y).join y false l.root).join y true r.root).paint y cc) := by
    unfold inFor
    rw [e2, a1, a2, a3]
  rw [e3]
  refine rp_stand h y0 yu yl yr (d := d) (fun hu => by rw [hd]; exact h.sd rfl hu) (fun j f jy jz => ?_) (fun j jy jz => ?_) (fun j jy jz => ?_) ?_ ?_ ?_ ?_ ?_
  · rw [Tr.ch_paint, Tr.ch_join, if_neg (fun e => jy e.1), Tr.ch_join, if_neg (fun e => jy e.1), Tr.ch_join]
  · rw [Tr.par_paint, Tr.par_join, Tr.par_join, Tr.par_join, if_neg (c := j = y ∧ y ≠ 0) (fun e => jy e.1)]
    by_cases e4 : j = r.root ∧ r.root ≠ 0
    · rw [if_pos e4, if_pos ⟨.inr e4.1, by rw [e4.1]; exact e4.2⟩]
    · rw [if_neg e4]
      by_cases e5 : j = l.root ∧ l.root ≠ 0
      · rw [if_pos e5, if_pos ⟨.inl e5.1, by rw [e5.1]; exact e5.2⟩]
      · rw [if_neg e5, if_neg]
        rintro ⟨e6 | e6, e7⟩
        · exact e5 ⟨e6, e6 ▸ e7⟩
        · exact e4 ⟨e6, e6 ▸ e7⟩
  · rw [Tr.red_paint, if_neg (fun e => jy e.1), Tr.red_join, Tr.red_join, Tr.red_join]
  · rw [Tr.top_paint, Tr.top_join, if_neg y0, Tr.top_join, if_neg y0, Tr.top_join]
  · rw [Tr.ch_paint, Tr.ch_join, if_neg (fun e => by cases e.2.2), Tr.ch_join, if_pos ⟨rfl, y0, rfl⟩]
  · rw [Tr.ch_paint, Tr.ch_join, if_pos ⟨rfl, y0, rfl⟩]
  · rw [Tr.par_paint, Tr.par_join, if_neg yr2, Tr.par_join, if_neg yl2, Tr.par_join, if_pos ⟨rfl, y0⟩]
  · rw [Tr.red_paint, if_pos ⟨rfl, y0⟩]
/-- What is behind it. -/
theorem take_two (h : Rp s u (.n cc l z (plug lo (.n yc .e y yr))) z p) : ∃ p', Rp (inFor (s.place y yr.root) z y) (lo ++ ⟨true, cc, y, l⟩ :: u) yr yr.root p' ∧ p' = (if s.par y = z then y else s.par y) := by
  obtain ⟨_, h2⟩ := take_z h
  have hy := take_y h
  obtain ⟨_, _, _, y0⟩ := hy.kid rfl
  have hyf := hy.ap y (by simp [T.ns])
  rw [fns_app] at hyf
  simp only [fns, List.mem_append, List.mem_cons, not_or] at hyf
  obtain ⟨q1, q2, q3, q4⟩ := hyf
  have hyr : y ∉ yr.ns := by
    have := hy.nt
    simp only [T.ns, List.nil_append, List.nodup_cons] at this
    exact this.1
  have h3 := in_for h2 y0 q2 q4 q3 (fun h => by rw [mem_plug] at h; exact h.elim hyr q1)
  have h4 := Rp.in_ (d := true) (c := cc) (a := plug lo yr) (b := l) h3
  obtain ⟨x2, p2, h5⟩ := plug_rp (lo := lo) h4
  have e := h5.root
  rw [e] at h5
  refine ⟨p2, h5, ?_⟩
  cases lo with
  | nil =>
    have e1 : p2 = y := h5.fr.1
    have e2 : s.par y = z := hy.fr.1
    rw [if_pos e2, e1]
  | cons f lo =>
    have e1 : p2 = f.k := h5.fr.1
    have e2 : s.par y = f.k := hy.fr.1
    rw [if_neg, e1, e2]
    rw [e2]
    intro e3
    have := h.nt
    have hm : z ∈ (plug (f :: lo) (.n yc .e y yr)).ns := mem_plug.2 (.inr (by simp [fns, e3]))
    have := (nodup_mk (d := false) (c := cc)).1 h.nt
    exact this.2.2.2.1 hm
/-- Only the tree's leaves are turned. -/
theorem take_two_out {S : List Nat} (h : Rp s u (.n cc l z (plug lo (.n yc .e y yr))) z p) (hS : ∀ j, j ∈ (plug u (.n cc l z (plug lo (.n yc .e y yr)))).ns → j ∈ S) : Out S s (inFor (s.place y yr.root) z y) := by
  obtain ⟨h1, h2⟩ := take_z h
  have hy := take_y h
  have inS : ∀ {j}, (j ∈ (plug u (.n cc l z (plug lo (.n yc .e y yr)))).ns ∨ j = 0) → j ∈ S ∨ j = 0 := fun h => h.imp (hS _) id
  have inT : ∀ {j}, j ∈ (T.n cc l z (plug lo (.n yc .e y yr))).ns → j ∈ S ∨ j = 0 := fun h => inS (.inl (mem_plug.2 (.inl h)))
  have my : y ∈ S ∨ y = 0 := inT (by simp only [T.ns, List.mem_append, List.mem_cons]; exact .inr (.inr (mem_plug.2 (.inl (by simp [T.ns])))))
  have mz : z ∈ S ∨ z = 0 := inT (by simp [T.ns])
  have myr : yr.root ∈ S ∨ yr.root = 0 := by
    rcases root_mem yr with hm | hm
    · exact inT (by simp only [T.ns, List.mem_append, List.mem_cons]; exact .inr (.inr (mem_plug.2 (.inl (by simp [T.ns, hm])))))
    · exact .inr hm
  have mpy : s.par y ∈ S ∨ s.par y = 0 := by
    rcases hy.z0 with h0 | ⟨h0, _⟩
    · exact .inr h0
    · rw [fns_app] at h0
      simp only [fns, List.mem_append, List.mem_cons] at h0
      rcases h0 with h0 | h0 | h0 | h0
      · exact inT (by simp only [T.ns, List.mem_append, List.mem_cons]; exact .inr (.inr (mem_plug.2 (.inr h0))))
      · rw [h0]; exact mz
      · exact inT (by simp [T.ns, h0])
      · exact inS (.inl (mem_plug.2 (.inr h0)))
  have mp : (s.place y yr.root).par z ∈ S ∨ (s.place y yr.root).par z = 0 := by
    rw [(h2.kid rfl).2.2.1]
    rcases h2.z0 with h0 | ⟨h0, _⟩
    · exact .inr h0
    · exact inS (.inl (mem_plug.2 (.inr h0)))
  have ml : ∀ {t : T}, (∀ j, j ∈ t.ns → j ∈ S ∨ j = 0) → t.root ∈ S ∨ t.root = 0 := fun {t} ht => by
    rcases root_mem t with hm | hm
    · exact ht _ hm
    · exact .inr hm
  obtain ⟨hk1, _, hk3, z0⟩ := h2.kid rfl
  have zp : z ≠ p := fun e => by
    rcases h.z0 with h0 | ⟨h0, _⟩
    · exact z0 (e.trans h0)
    · exact h.ap z (by simp [T.ns]) (e ▸ h0)
  have yz : y ≠ z := fun e => by
    have := hy.ap y (by simp [T.ns])
    rw [fns_app] at this
    exact this (by simp [fns, e])
  refine Out.trans (s' := s.place y yr.root) (out_join _ mpy myr) ?_
  unfold inFor
  have a1 : ∀ d, ((s.place y yr.root).place z y).ch z d = (s.place y yr.root).ch z d := fun d => by
    unfold Tr.place at hk3 ⊢
    rw [Tr.ch_join, if_neg]
    rw [hk3]
    exact fun e => zp e.1
  refine (((out_join _ mp my).trans (out_join _ my ?_)).trans (out_join _ my ?_)).trans (out_paint _ my)
  · show ((s.place y yr.root).place z y).ch z false ∈ S ∨ _ = 0
    rw [a1, hk1]
    exact ml fun j hj => inT (by have hj : j ∈ l.ns := hj; simp [T.ns, hj])
  · show (((s.place y yr.root).place z y).join y false _).ch z true ∈ S ∨ _ = 0
    have e5 : (((s.place y yr.root).place z y).join y false (((s.place y yr.root).place z y).ch z false)).ch z true = ((s.place y yr.root).place z y).ch z true := by
      rw [Tr.ch_join, if_neg (fun e => yz e.1.symm)]
    rw [e5, a1, hk1]
    exact ml fun j hj => inT (by
      have hj : j ∈ (plug lo yr).ns := hj
      simp only [T.ns, List.mem_append, List.mem_cons]
      refine .inr (.inr ?_)
      rw [mem_plug] at hj ⊢
      exact hj.imp (fun h => by simp [T.ns, h]) id)
/-- What the rebalancing asks. -/
theorem cut_bal {u : List Fr} {a b t : T} {k : Nat} (h : Rb (plug u (.n false a k b))) (ht : t = a ∨ t = b) : ∃ n, Bu u (n + 1) ∧ Bal t n := by
  obtain ⟨n, hu, ⟨m, hm, h1, h2, _⟩, _⟩ := plug_rb.1 h
  have : n = m + 1 := by simpa using hm
  subst this
  rcases ht with rfl | rfl
  · exact ⟨m, hu, h1⟩
  · exact ⟨m, hu, h2⟩
end
end Go.Proofs.YtiacclmapicmdaaDoor
