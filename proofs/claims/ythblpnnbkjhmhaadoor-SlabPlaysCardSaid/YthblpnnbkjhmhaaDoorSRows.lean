/- Rows of places that a law's walk makes by append, beside a slab; taken blocks stay taken. No condition. -/
import Derived.Test.YthblpnnbkjhmhaaDoorSLaw
import Derived.Laws.AppendOwn
import Derived.OwnWalk
namespace Go.Proofs.YthblpnnbkjhmhaaDoor
open Go.RowKit
open Pool (num cnt upd Pl low setR num_testBit quiet_same cnt_le)

theorem Tryd.info3 : (Tryd.prog.info? 3).map (fun i => (i.zero, i.size, i.bytes)) = some (some (.int .i64 0), 1, 8) := by kernel_rfl
def ints (xs : List Nat) : List Value := xs.map fun a => Value.int .i64 (a : Nat)
/-- A row of places that the call itself made, from block B on. -/
structure RI (w : World) (B : Nat) (A : Option Addr) (cap : Nat) (xs : List Nat) : Prop where
  row : w.ownsRow B 3 1 (.slice A xs.length cap) xs.length (ints xs)
  nul : xs = [] → A = none
section
variable {w w' : World} {B cap : Nat} {A : Option Addr} {xs : List Nat}
theorem RI.nil (w : World) (B : Nat) : RI w B none 0 [] := ⟨World.ownsRow_nil w B 3 1, fun _ => rfl⟩
theorem RI.keep (h : RI w B A cap xs) (e : ∀ k, B ≤ k → k < w.heap.size → w'.heap[k]? = w.heap[k]?) : RI w' B A cap xs := by
  refine ⟨⟨h.row.1, ?_⟩, h.nul⟩
  rcases h.row.2 with h' | ⟨g, c, cur, h1, h2, h3, h4⟩
  · exact .inl h'
  · have hlt : g < w.heap.size := (Array.getElem?_eq_some_iff.1 h3).1
    exact .inr ⟨g, c, cur, h1, h2, (e g h2 hlt).trans h3, h4⟩
theorem RI.fr {a b c : Nat} (h : RI w B A cap xs) (hF : Fr a b c w w') (ha : a < B) (hb : b < B) (hc : c < B) : RI w' B A cap xs := h.keep fun k h1 h2 => hF.block k h2 (by omega) (by omega) (by omega)
theorem RI.below {B' : Nat} (h : RI w B A cap xs) (hb : Below B' w w') (hB : w.heap.size ≤ B') : RI w' B A cap xs := h.keep fun k _ h2 => hb.block k (by omega)
theorem RI.alloc (h : RI w B A cap xs) (o : Obj) : RI (w.alloc o) B A cap xs := ⟨World.ownsRow.alloc h.row o, h.nul⟩
theorem RI.drew (h : RI w B A cap xs) (m : Nat) : RI (w.drewN m) B A cap xs := h.keep fun _ _ _ => rfl
theorem RI.at (h : RI w B A cap xs) (i : Nat) (hi : i < xs.length) : ∃ g, A = some ⟨g, 0, none⟩ ∧ w.cell? ⟨g, i, none⟩ = some (.int .i64 ((xs[i]'hi : Nat) : Int)) := by
  have h0 := h.row
  rcases h.row.2 with ⟨h', h0'⟩ | ⟨g, c, cur, h1, h2, h3, h4⟩
  · omega
  · simp only [Value.slice.injEq, true_and] at h1
    obtain ⟨rfl, rfl⟩ := h1
    refine ⟨g, rfl, ?_⟩
    rw [World.ownsRow.cellAt h0 i (by omega)]
    simp [ints, hi]
theorem RI.own (h : RI w B A cap xs) : ∀ r, (Value.slice A xs.length cap).ownBlock = some r → B ≤ r := fun r e => (World.ownsRow.lt h.row r e).1
/-- Behind an append. -/
theorem RI.of {v : Value} {a : Nat} (h : w.ownsRow B 3 1 v (xs.length + 1) (ints xs ++ [.int .i64 (a : Nat)])) : ∃ A cap, v = .slice A (xs.length + 1) cap ∧ RI w B A cap (xs ++ [a]) := by
  have e1 : (xs ++ [a]).length = xs.length + 1 := by simp
  have e2 : ints (xs ++ [a]) = ints xs ++ [.int .i64 (a : Nat)] := by simp [ints]
  rcases h.2 with ⟨_, h0⟩ | ⟨g, c, cur, h1, h2⟩
  · omega
  · refine ⟨some ⟨g, 0, none⟩, c, h1, ?_, by simp⟩
    rw [e1, e2, ← h1]
    exact h
theorem RI.grown {row : Option Nat} (h : RI w B A cap xs) (hg : w.grownBy w' row) (hr : ∀ r, (Value.slice A xs.length cap).ownBlock = some r → row ≠ some r) : RI w' B A cap xs := by
  refine ⟨⟨h.row.1, ?_⟩, h.nul⟩
  rcases h.row.2 with h' | ⟨g, c, cur, h1, h2, h3, h4⟩
  · exact .inl h'
  · have hlt : g < w.heap.size := (Array.getElem?_eq_some_iff.1 h3).1
    have hne := hr g (by rw [h1]; rfl)
    exact .inr ⟨g, c, cur, h1, h2, (hg.block g hlt fun e => hne e.symm).trans h3, h4⟩
theorem RI.apart {A' : Option Addr} {cap' : Nat} {ys : List Nat} (h : RI w B A cap xs) (h' : RI w B A' cap' ys) (hd : ∀ x y, xs[0]? = some x → ys[0]? = some y → x ≠ y) : ∀ r, (Value.slice A xs.length cap).ownBlock = some r → (Value.slice A' ys.length cap').ownBlock ≠ some r := by
  intro r h1 h2
  cases xs with
  | nil => have := h.nul rfl; subst this; cases h1
  | cons x xs =>
    cases ys with
    | nil => have := h'.nul rfl; subst this; cases h2
    | cons y ys =>
      obtain ⟨g, e1, c1⟩ := h.at 0 (by simp)
      obtain ⟨g', e2, c2⟩ := h'.at 0 (by simp)
      subst e1 e2
      simp only [Value.ownBlock, Option.some.injEq] at h1 h2
      rw [h1] at c1
      rw [h2, c1] at c2
      simp at c2
      exact hd x y rfl rfl (by omega)
theorem below_of_grown {B : Nat} {w w' : World} {row : Option Nat} (hg : w.grownBy w' row) (hB : B ≤ w.heap.size) (hr : ∀ r, row = some r → B ≤ r) : Below B w w' := (Below.refl B w).grown hg hB hr
end
/-- All of the slab lies below B. -/
def Lb (L : Pt) (B : Nat) : Prop := L.p < B ∧ L.pa < B ∧ L.ga < B ∧ L.pp < B ∧ L.gp < B
section
variable {w0 w w' : World} {L : Pt} {n B : Nat} {s : St} {f : Nat → Int}
theorem Sb.lb (h : Sb w0 w L n s f) : Lb L w.heap.size := h.sl.raw.lts
theorem Sb.upto (h : Sb w0 w L n s f) (hL : Lb L B) (hB : Below B w w') : Sb w0 w' L n s f := by
  obtain ⟨l1, l2, l3, l4, l5⟩ := hL
  have hg := h.ga
  obtain ⟨t, fr, e⟩ := h.tb.tab
  obtain ⟨t', fr', e'⟩ := h.tb.cl
  have hlw := h.tb.lw
  have hlc := h.tb.lc
  have hs := hB.size
  refine ⟨⟨h.sl.raw.same fun k hk => hB.block k (by omega), h.sl.inv, h.sl.lnk⟩, ⟨⟨t, fr, (hB.block _ (by omega)).trans e⟩, ⟨t', fr', (hB.block _ (by omega)).trans e'⟩, ⟨by omega, hlw.2⟩, ⟨by omega, hlc.2⟩⟩, h.bl.trans (hB.mono (by omega)), h.ga, h.pp, h.gp⟩
end

section
variable {n : Nat} {s : St} {size : Int} {k a : Nat} {l : List Nat} {s1 : St}
theorem Got.keep (h : Got n s size k a l s1) {i b : Nat} (hb : Tkn s i b) : Tkn (alS n s size) i b ∧ (alS n s size i).1 = (s i).1 := by
  by_cases e : i = k
  · subst e
    unfold Tkn
    rw [h.after]
    rcases h.from_ with ⟨hs, _⟩ | ⟨h0, _⟩
    · obtain ⟨h1, h2⟩ := hb
      rw [hs] at h1 h2
      exact ⟨⟨h1, fun hm => h2 (List.mem_cons_of_mem _ hm)⟩, by rw [hs]⟩
    · have := hb.1
      rw [h0, blks_zero] at this
      cases this
  · unfold Tkn
    rw [h.other e]
    exact ⟨hb, rfl⟩
theorem Got.back (h : Got n s size k a l s1) {i b : Nat} (hb : Tkn (alS n s size) i b) : Tkn s i b ∨ b = a := by
  by_cases e : i = k
  · subst e
    unfold Tkn at hb
    rw [h.after] at hb
    by_cases e : b = a
    · exact .inr e
    · rcases h.from_ with ⟨hs, _⟩ | ⟨h0, rfl, ha⟩
      · refine .inl ⟨by rw [hs]; exact hb.1, ?_⟩
        rw [hs]
        intro hm
        rcases List.mem_cons.1 hm with e' | e'
        · exact e e'
        · exact hb.2 e'
      · have h1 := h.at_
        rw [asg_at] at h1
        have h2 : blks i (clsOf size) = a :: l := congrArg Prod.snd h1
        have h3 := hb.1
        rw [h2] at h3
        rcases List.mem_cons.1 h3 with e' | e'
        · exact absurd e' e
        · exact absurd e' hb.2
  · unfold Tkn at hb
    rw [h.other e] at hb
    exact .inl hb
theorem Got.new (h : Got n s size k a l s1) (hI : Inv n s) {i b : Nat} (hb : Tkn s i b) : b ≠ a := by
  rintro rfl
  have h1 := (isB_tkn hI.toInv0 hb).2.2
  have h2 := h.page.1
  obtain rfl : i = k := by omega
  rcases h.from_ with ⟨hs, _⟩ | ⟨h0, _⟩
  · have := hb.2
    rw [hs] at this
    exact this (by simp)
  · have := hb.1
    rw [h0, blks_zero] at this
    cases this
end
end Go.Proofs.YthblpnnbkjhmhaaDoor
