/- A tree's links in an arena's bytes: leaves of 24 bytes, a root of 8; single words that are stored. No condition on the program. -/
import Derived.Test.YtiacclmapicmdaaDoorTrKeep
import Derived.Test.YtiacclmapicmdaaDoorChMath
namespace Go.Proofs.YtiacclmapicmdaaDoor

namespace Tr
/-- A child's link alone; a parent's alone. -/
def setC (s : Tr) (p : Nat) (d : Bool) (k : Nat) : Tr := ⟨s.top, fun j => if j = p then setCh (s.lf p) d k else s.lf j⟩
def setP (s : Tr) (k p : Nat) : Tr := ⟨s.top, fun j => if j = k then { s.lf k with p := p } else s.lf j⟩
def setR (s : Tr) (k : Nat) (c : Bool) : Tr := ⟨s.top, fun j => if j = k then { s.lf k with red := c } else s.lf j⟩
def setT (s : Tr) (k : Nat) : Tr := ⟨k, s.lf⟩
def clr (s : Tr) (k : Nat) : Tr := ⟨s.top, fun j => if j = k then ⟨0, 0, 0, false⟩ else s.lf j⟩
theorem paint_of {s : Tr} {k : Nat} (h : k ≠ 0) (c : Bool) : s.paint k c = s.setR k c := by unfold paint put setR; rw [if_neg h]
theorem link_of {s : Tr} {p : Nat} (h : p ≠ 0) (d : Bool) (k : Nat) : s.link p d k = s.setC p d k := by unfold link put setC; rw [if_neg h, if_neg h]
theorem link_top (s : Tr) (d : Bool) (k : Nat) : s.link 0 d k = s.setT k := rfl
theorem join_of {s : Tr} {k : Nat} (h : k ≠ 0) (p : Nat) (d : Bool) : s.join p d k = (s.link p d k).setP k p := by unfold join put setP; rw [if_neg h]
theorem join_none (s : Tr) (p : Nat) (d : Bool) : s.join p d 0 = s.link p d 0 := rfl
end Tr

/-- A leaf's five words. -/
def wd (ad : Nat → Nat) (rt : Nat) (s : Tr) (I : Nat → Bool) (j : Nat) : Nat → Nat
  | 0 => ad (s.ch j false)
  | 1 => ad (s.ch j true)
  | 2 => ad (s.par j)
  | 3 => if I j then rt else 0
  | _ => if s.red j then 1 else 0
/-- Where leaves lie, and the root: apart, within n bytes. -/
structure Pl (n : Nat) (ad : Nat → Nat) (rt : Nat) (N : Nat → Prop) : Prop where
  big : n ≤ 65536
  ad0 : ad 0 = 0
  pos : ∀ j, N j → j ≠ 0 ∧ 1 ≤ ad j ∧ ad j + 24 ≤ n
  apart : ∀ i j, N i → N j → i ≠ j → ad i + 24 ≤ ad j ∨ ad j + 24 ≤ ad i
  rpos : 1 ≤ rt ∧ rt + 8 ≤ n
  rapart : ∀ j, N j → rt + 8 ≤ ad j ∨ ad j + 24 ≤ rt
/-- The bytes are a tree's links; I: who is in it. -/
structure Tm (n : Nat) (ad : Nat → Nat) (rt : Nat) (N : Nat → Prop) (s : Tr) (I : Nat → Bool) (f : Nat → Int) : Prop where
  pl : Pl n ad rt N
  wds : ∀ j, N j → ∀ i, i < 5 → lk f (ad j + 4 * i) = wd ad rt s I j i
  top : lk f rt = ad s.top
  topN : s.top = 0 ∨ N s.top
  lkN : ∀ j, N j → (∀ d, s.ch j d = 0 ∨ N (s.ch j d)) ∧ (s.par j = 0 ∨ N (s.par j))
section
variable {n rt : Nat} {ad : Nat → Nat} {N : Nat → Prop} {s : Tr} {I : Nat → Bool} {f : Nat → Int}
theorem Pl.inj (h : Pl n ad rt N) {i j : Nat} (hi : i = 0 ∨ N i) (hj : j = 0 ∨ N j) : ad i = ad j ↔ i = j := by
  constructor
  · intro e
    rcases hi with rfl | hi
    · rcases hj with rfl | hj
      · rfl
      · have := h.pos j hj
        rw [h.ad0] at e
        omega
    · rcases hj with rfl | hj
      · have := h.pos i hi
        rw [h.ad0] at e
        omega
      · by_cases hij : i = j
        · exact hij
        · have := h.apart i j hi hj hij
          omega
  · intro e; rw [e]
theorem Pl.bd (h : Pl n ad rt N) {j : Nat} (hj : j = 0 ∨ N j) : ad j < 4294967296 ∧ ad j ≤ 65536 := by
  have := h.big
  rcases hj with rfl | hj
  · rw [h.ad0]; omega
  · have := h.pos j hj
    omega
theorem Pl.zero (h : Pl n ad rt N) {j : Nat} (hj : j = 0 ∨ N j) : ad j = 0 ↔ j = 0 := by
  have := h.inj hj (.inl rfl)
  rwa [h.ad0] at this
theorem Pl.wd_st (h : Pl n ad rt N) {p j i i0 v : Nat} (hp : N p) (hj : N j) (hi : i < 5) (hi0 : i0 < 5) (hv : v < 4294967296) :
    lk (st f (ad p + 4 * i0) v 4) (ad j + 4 * i) = if j = p ∧ i = i0 then (v : Int) else lk f (ad j + 4 * i) := by
  by_cases e : j = p
  · subst e
    by_cases e2 : i = i0
    · subst e2
      rw [if_pos ⟨rfl, rfl⟩]
      exact lk_same f _ v hv
    · rw [if_neg (fun h => e2 h.2)]
      exact lk_far f _ _ _ (by omega)
  · rw [if_neg (fun h => e h.1)]
    have := h.apart j p hj hp e
    exact lk_far f _ _ _ (by omega)
/-- A word of a leaf is stored. -/
theorem Tm.word (m : Tm n ad rt N s I f) {p i0 v : Nat} {s' : Tr} {I' : Nat → Bool} (hp : N p) (hi0 : i0 < 5) (hv : v < 4294967296)
    (hw : ∀ j, N j → ∀ i, i < 5 → wd ad rt s' I' j i = if j = p ∧ i = i0 then v else wd ad rt s I j i) (ht : s'.top = s.top)
    (hN : ∀ j, N j → (∀ d, s'.ch j d = 0 ∨ N (s'.ch j d)) ∧ (s'.par j = 0 ∨ N (s'.par j))) : Tm n ad rt N s' I' (st f (ad p + 4 * i0) v 4) := by
  refine ⟨m.pl, fun j hj i hi => ?_, ?_, by rw [ht]; exact m.topN, hN⟩
  · rw [m.pl.wd_st hp hj hi hi0 hv, hw j hj i hi]
    by_cases e : j = p ∧ i = i0
    · rw [if_pos e, if_pos e]
    · rw [if_neg e, if_neg e]; exact m.wds j hj i hi
  · rw [ht, ← m.top]
    have := m.pl.rapart p hp
    exact lk_far f _ _ _ (by omega)
theorem Tm.setC (m : Tm n ad rt N s I f) {p k : Nat} (d : Bool) (hp : N p) (hk : k = 0 ∨ N k) : Tm n ad rt N (s.setC p d k) I (st f (ad p + (if d then 4 else 0)) (ad k) 4) := by
  have hch : ∀ j e, (s.setC p d k).ch j e = if j = p ∧ e = d then k else s.ch j e := fun j e => by
    unfold Tr.setC Tr.ch setCh
    by_cases hj : j = p
    · subst hj; cases d <;> cases e <;> simp
    · simp [hj]
  have hpar : ∀ j, (s.setC p d k).par j = s.par j := fun j => by
    unfold Tr.setC Tr.par setCh
    by_cases hj : j = p
    · subst hj; cases d <;> simp
    · simp [hj]
  have hred : ∀ j, (s.setC p d k).red j = s.red j := fun j => by
    unfold Tr.setC Tr.red setCh
    by_cases hj : j = p
    · subst hj; cases d <;> simp
    · simp [hj]
  have e : (if d then 4 else 0) = 4 * (if d then 1 else 0) := by cases d <;> rfl
  rw [e]
  refine m.word hp (by cases d <;> simp) (m.pl.bd hk).1 (fun j hj i hi => ?_) rfl (fun j hj => ⟨fun e => ?_, by rw [hpar]; exact (m.lkN j hj).2⟩)
  · match i, hi with
    | 0, _ => cases d <;> simp only [wd, hch] <;> by_cases hj : j = p <;> simp [hj]
    | 1, _ => cases d <;> simp only [wd, hch] <;> by_cases hj : j = p <;> simp [hj]
    | 2, _ => cases d <;> simp [wd, hpar]
    | 3, _ => cases d <;> simp [wd]
    | 4, _ => cases d <;> simp [wd, hred]
  · rw [hch]
    split
    · exact hk
    · exact (m.lkN j hj).1 e
theorem Tm.setP (m : Tm n ad rt N s I f) {k p : Nat} (hk : N k) (hp : p = 0 ∨ N p) : Tm n ad rt N (s.setP k p) I (st f (ad k + 8) (ad p) 4) := by
  have hch : ∀ j e, (s.setP k p).ch j e = s.ch j e := fun j e => by
    unfold Tr.setP Tr.ch
    by_cases hj : j = k
    · subst hj; simp
    · simp [hj]
  have hpar : ∀ j, (s.setP k p).par j = if j = k then p else s.par j := fun j => by
    unfold Tr.setP Tr.par
    by_cases hj : j = k
    · subst hj; simp
    · simp [hj]
  have hred : ∀ j, (s.setP k p).red j = s.red j := fun j => by
    unfold Tr.setP Tr.red
    by_cases hj : j = k
    · subst hj; simp
    · simp [hj]
  refine m.word (i0 := 2) hk (by omega) (m.pl.bd hp).1 (fun j hj i hi => ?_) rfl (fun j hj => ⟨fun e => by rw [hch]; exact (m.lkN j hj).1 e, ?_⟩)
  · match i, hi with
    | 0, _ => simp [wd, hch]
    | 1, _ => simp [wd, hch]
    | 2, _ => simp only [wd, hpar]; by_cases hj : j = k <;> simp [hj]
    | 3, _ => simp [wd]
    | 4, _ => simp [wd, hred]
  · rw [hpar]
    split
    · exact hp
    · exact (m.lkN j hj).2
theorem Tm.setR (m : Tm n ad rt N s I f) {k : Nat} (c : Bool) (hk : N k) : Tm n ad rt N (s.setR k c) I (st f (ad k + 16) (if c then 1 else 0 : Nat) 4) := by
  have hch : ∀ j e, (s.setR k c).ch j e = s.ch j e := fun j e => by
    unfold Tr.setR Tr.ch
    by_cases hj : j = k
    · subst hj; simp
    · simp [hj]
  have hpar : ∀ j, (s.setR k c).par j = s.par j := fun j => by
    unfold Tr.setR Tr.par
    by_cases hj : j = k
    · subst hj; simp
    · simp [hj]
  have hred : ∀ j, (s.setR k c).red j = if j = k then c else s.red j := fun j => by
    unfold Tr.setR Tr.red
    by_cases hj : j = k
    · subst hj; simp
    · simp [hj]
  refine m.word (i0 := 4) hk (by omega) (by cases c <;> simp) (fun j hj i hi => ?_) rfl (fun j hj => ⟨fun e => by rw [hch]; exact (m.lkN j hj).1 e, by rw [hpar]; exact (m.lkN j hj).2⟩)
  match i, hi with
  | 0, _ => simp [wd, hch]
  | 1, _ => simp [wd, hch]
  | 2, _ => simp [wd, hpar]
  | 3, _ => simp [wd]
  | 4, _ => simp only [wd, hred]; by_cases hj : j = k <;> simp [hj]
/-- The word that tells the root. -/
theorem Tm.setI (m : Tm n ad rt N s I f) {k : Nat} (c : Bool) (hk : N k) : Tm n ad rt N s (fun j => if j = k then c else I j) (st f (ad k + 12) (if c then rt else 0 : Nat) 4) := by
  have := m.pl.rpos
  have := m.pl.big
  refine m.word (i0 := 3) hk (by omega) (by split <;> omega) (fun j hj i hi => ?_) rfl m.lkN
  match i, hi with
  | 0, _ => simp [wd]
  | 1, _ => simp [wd]
  | 2, _ => simp [wd]
  | 3, _ => simp only [wd]; by_cases hj : j = k <;> simp [hj]
  | 4, _ => simp [wd]
theorem Tm.setT (m : Tm n ad rt N s I f) {k : Nat} (hk : k = 0 ∨ N k) : Tm n ad rt N (s.setT k) I (st f rt (ad k) 4) := by
  refine ⟨m.pl, fun j hj i hi => ?_, lk_same f _ _ (m.pl.bd hk).1, hk, m.lkN⟩
  have e : wd ad rt (s.setT k) I j i = wd ad rt s I j i := by
    match i with
    | 0 => rfl
    | 1 => rfl
    | 2 => rfl
    | 3 => rfl
    | _ + 4 => rfl
  rw [e, ← m.wds j hj i hi]
  have := m.pl.rapart j hj
  exact lk_far f _ _ _ (by omega)
end
end Go.Proofs.YtiacclmapicmdaaDoor
