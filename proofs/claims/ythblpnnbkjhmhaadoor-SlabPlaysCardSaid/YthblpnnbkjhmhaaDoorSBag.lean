/- A slab in a law's walk: all that is held of it in one word; the functions' contracts in it; the document's example. Conditions: the tables lie in their blocks. -/
import Derived.Test.YthblpnnbkjhmhaaDoorSNew
namespace Go.Proofs.YthblpnnbkjhmhaaDoor
open Go.RowKit
open Pool (num cnt upd Pl low setR num_testBit quiet_same cnt_le)

/-- Both tables lie in their blocks. -/
structure Tbs (w : World) : Prop where
  tab : Tab w
  cl : Cl w
  lw : 1 < w.heap.size
  lc : 0 < w.heap.size
theorem Tbs.below {w w' : World} (h : Tbs w) (hb : Below w.heap.size w w') : Tbs w' :=
  ⟨h.tab.below hb h.lw, h.cl.below hb h.lc, Nat.lt_of_lt_of_le h.lw hb.size, Nat.lt_of_lt_of_le h.lc hb.size⟩

/-- A slab that was made since w0, in w. -/
structure Sb (w0 w : World) (L : Pt) (n : Nat) (s : St) (f : Nat → Int) : Prop where
  sl : Sl w L n s f
  tb : Tb w L
  bl : Below w0.heap.size w0 w
  ga : w0.heap.size ≤ L.ga
  pp : w0.heap.size ≤ L.pp
  gp : w0.heap.size ≤ L.gp

section
variable {w0 w w' : World} {L : Pt} {n : Nat} {s s' : St} {f f' : Nat → Int}
theorem Sb.fr (h : Sb w0 w L n s f) (hF : Fr L.ga L.pp L.gp w w') (hS : Sl w' L n s' f') : Sb w0 w' L n s' f' :=
  ⟨hS, h.tb.fr hF, h.bl.trans (hF.below h.bl.size h.ga h.pp h.gp), h.ga, h.pp, h.gp⟩
theorem Sb.below (h : Sb w0 w L n s f) (hB : Below w.heap.size w w') : Sb w0 w' L n s f := h.fr (Fr.of_below hB (Nat.le_refl _)) (h.sl.fr_below hB)
theorem Sb.inv (h : Sb w0 w L n s f) : Inv n s := h.sl.inv

theorem sb_new (n : Nat) (hn1 : 1 ≤ n) (hn : n ≤ 128) (hT : Tbs w) (hb : Below w0.heap.size w0 w) :
    Calls Tryd.prog 10 #[.int .i64 n] w fun e w' => ∃ L, e = .returned (.tuple #[.pointer (some ⟨L.p, 0, none⟩), .int .i64 0]) ∧ Sb w0 w' L n st0 (fun _ => 0) := by
  refine (newS_ok n hn1 hn).mono ?_
  rintro e w' ⟨rfl, hS, hB, hsz⟩
  have := hb.size
  have h1 := hT.lw
  have h2 := hT.lc
  refine ⟨newPt w, rfl, hS, ⟨hT.tab.below hB hT.lw, hT.cl.below hB hT.lc, ?_, ?_⟩, hb.trans (hB.mono hb.size), this, ?_, ?_⟩
  · simp only [newPt]; omega
  · simp only [newPt]; omega
  · simp only [newPt]; omega
  · simp only [newPt]; omega
theorem sb_alloc (size : Int) (h : Sb w0 w L n s f) :
    Calls Tryd.prog 14 #[.pointer (some ⟨L.p, 0, none⟩), .int .i64 size] w fun e w' =>
      e = .returned (.tuple #[.int .i64 (alV n s size), .int .i64 (alE n s size)]) ∧
      ∃ f', Sb w0 w' L n (alS n s size) f' ∧ (∀ x, inT s x → f' x = f x) ∧ (alE n s size = 0 → ∀ x : Nat, alV n s size ≤ x → (x : Int) < alV n s size + clsOf size → f' x = 0) ∧ Fr L.ga L.pp L.gp w w' := by
  refine (alloc_any size h.tb h.sl).mono ?_
  rintro e w' ⟨rfl, f', hS, h1, h2, hF⟩
  exact ⟨rfl, f', h.fr hF hS, h1, h2, hF⟩
theorem sb_free (at_ : Int) (h : Sb w0 w L n s f) :
    Calls Tryd.prog 19 #[.pointer (some ⟨L.p, 0, none⟩), .int .i64 at_] w fun e w' =>
      e = .returned (.int .i64 (frE n s at_)) ∧ ∃ f', Sb w0 w' L n (frS n s at_) f' ∧ (∀ x, inT (frS n s at_) x → f' x = f x) ∧ Fr L.ga L.pp L.gp w w' := by
  refine (free_any at_ h.tb h.sl).mono ?_
  rintro e w' ⟨rfl, f', hS, h1, hF⟩
  exact ⟨rfl, f', h.fr hF hS, h1, hF⟩
theorem sb_block (at_ : Int) (h : Sb w0 w L n s f) :
    Calls Tryd.prog 25 #[.pointer (some ⟨L.p, 0, none⟩), .int .i64 at_] w fun e w' => e = .returned (.tuple #[.int .i64 (bkV n s at_), .bool (isB n s at_)]) ∧ Sb w0 w' L n s f ∧ Below w.heap.size w w' := by
  refine (block_any at_ h.sl).mono ?_
  rintro e w' ⟨rfl, hB⟩
  exact ⟨rfl, h.below hB, hB⟩
theorem sb_used (h : Sb w0 w L n s f) :
    Calls Tryd.prog 21 #[.pointer (some ⟨L.p, 0, none⟩)] w fun e w' => e = .returned (.int .i64 (usd s n : Nat)) ∧ Sb w0 w' L n s f ∧ Below w.heap.size w w' := by
  refine (used_any h.sl).mono ?_
  rintro e w' ⟨rfl, hB⟩
  exact ⟨rfl, h.below hB, hB⟩
theorem sb_pages (h : Sb w0 w L n s f) :
    Calls Tryd.prog 23 #[.pointer (some ⟨L.p, 0, none⟩)] w fun e w' => e = .returned (.int .i64 (pgs s n : Nat)) ∧ Sb w0 w' L n s f ∧ Below w.heap.size w w' := by
  refine (pages_any h.sl).mono ?_
  rintro e w' ⟨rfl, hB⟩
  exact ⟨rfl, h.below hB, hB⟩
end

section
variable {w : World}
set_option maxRecDepth 100000 in
theorem shownS_any (hT : Tbs w) : Calls Tryd.prog 9 #[] w fun e w' => e = .returned (.bool true) ∧ Below w.heap.size w w' := by
  have v1 : alV 4 st0 10 = 512 := by decide +kernel
  have v2 : alV 4 (alS 4 st0 10) 16 = 528 := by decide +kernel
  have v3 : alV 4 (alS 4 (alS 4 st0 10) 16) 17 = 1024 := by decide +kernel
  have v4 : frE 4 (alS 4 (alS 4 (alS 4 st0 10) 16) 17) 512 = 0 := by decide +kernel
  have v5 : alV 4 (frS 4 (alS 4 (alS 4 (alS 4 st0 10) 16) 17) 512) 3 = 512 := by decide +kernel
  have v6 : bkV 4 (alS 4 (frS 4 (alS 4 (alS 4 (alS 4 st0 10) 16) 17) 512) 3) 528 = 16 := by decide +kernel
  have v7 : isB 4 (alS 4 (frS 4 (alS 4 (alS 4 (alS 4 st0 10) 16) 17) 512) 3) 528 = true := by decide +kernel
  have v8 : isB 4 (alS 4 (frS 4 (alS 4 (alS 4 (alS 4 st0 10) 16) 17) 512) 3) 529 = false := by decide +kernel
  have v9 : usd (alS 4 (frS 4 (alS 4 (alS 4 (alS 4 st0 10) 16) 17) 512) 3) 4 = 64 := by decide +kernel
  have V1 := Lib.hid v1
  have V2 := Lib.hid v2
  have V3 := Lib.hid v3
  have V4 := Lib.hid v4
  have V5 := Lib.hid v5
  have V6 := Lib.hid v6
  have V7 := Lib.hid v7
  have V8 := Lib.hid v8
  have V9 := Lib.hid v9
  have HT := Lib.hid hT
  clear v1 v2 v3 v4 v5 v6 v7 v8 v9 hT
  go_enter Tryd.func9, Tryd.ntmps9
  go_wp2_with fail
  refine (sb_new (w0 := w) 4 (by decide) (by decide) HT.out (Below.refl _ _)).mono ?_
  rintro e w1 ⟨L, rfl, h1⟩
  have H1 := Lib.hid h1
  clear h1
  go_wp2_with fail
  refine (sb_alloc 10 H1.out).mono ?_
  rw [V1.out]
  rintro e w2 ⟨rfl, f2, h2, -, -, -⟩
  have H2 := Lib.hid h2
  clear h2 V1
  generalize alE 4 st0 10 = e1
  generalize alS 4 st0 10 = s1 at *
  go_wp2_with fail
  refine (sb_alloc 16 H2.out).mono ?_
  rw [V2.out]
  rintro e w3 ⟨rfl, f3, h3, -, -, -⟩
  have H3 := Lib.hid h3
  clear h3 V2
  generalize alE 4 s1 16 = e2
  generalize alS 4 s1 16 = s2 at *
  go_wp2_with fail
  refine (sb_alloc 17 H3.out).mono ?_
  rw [V3.out]
  rintro e w4 ⟨rfl, f4, h4, -, -, -⟩
  have H4 := Lib.hid h4
  clear h4 V3
  generalize alE 4 s2 17 = e3
  generalize alS 4 s2 17 = s3 at *
  go_wp2_with fail
  refine (sb_free 512 H4.out).mono ?_
  rw [V4.out]
  rintro e w5 ⟨rfl, f5, h5, -, -⟩
  have H5 := Lib.hid h5
  clear h5 V4
  generalize frS 4 s3 512 = s4 at *
  go_wp2_with fail
  refine (sb_alloc 3 H5.out).mono ?_
  rw [V5.out]
  rintro e w6 ⟨rfl, f6, h6, -, -, -⟩
  have H6 := Lib.hid h6
  clear h6 V5
  generalize alE 4 s4 3 = e5
  generalize alS 4 s4 3 = s5 at *
  go_wp2_with fail
  refine (sb_block 528 H6.out).mono ?_
  rw [V6.out, V7.out]
  rintro e w7 ⟨rfl, h7, -⟩
  have H7 := Lib.hid h7
  clear h7 V6 V7
  go_wp2_with fail
  refine (sb_block 529 H7.out).mono ?_
  rw [V8.out]
  rintro e w8 ⟨rfl, h8, -⟩
  have H8 := Lib.hid h8
  clear h8 V8
  generalize bkV 4 s5 529 = b9
  go_wp2_with fail
  refine (sb_used H8.out).mono ?_
  rw [V9.out]
  rintro e w9 ⟨rfl, h9, -⟩
  have H9 := Lib.hid h9
  clear h9 V9
  go_wp2
  go_ret
  exact ⟨rfl, H9.out.bl⟩
end
end Go.Proofs.YthblpnnbkjhmhaaDoor
