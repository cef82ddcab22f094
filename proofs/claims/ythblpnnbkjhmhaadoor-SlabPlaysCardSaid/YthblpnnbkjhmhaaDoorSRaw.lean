/- A slab's blocks in memory: its head, its arena, its pool, its pages' row. No condition. -/
import Derived.Test.YthblpnnbkjhmhaaDoorSMath
import Derived.Test.YthblpnnbkjhmhaaDoorCalls
import Derived.Test.YthblpnnbkjhmhaaDoorPTake
import Derived.Test.YthblpnnbkjhmhaaDoorOwn
import Derived.RangeFuncNested
namespace Go.Proofs.YthblpnnbkjhmhaaDoor
open Go.RowKit
open Pool (num cnt upd Pl)

/-- What is kept of a page: class, taken, next. -/
abbrev Rp := Nat → Nat × Nat × Nat
def pcell (q : Rp) (k : Nat) : Value := if k % 3 = 0 then .int .i64 (q (k / 3)).1 else if k % 3 = 1 then .int .u32 (q (k / 3)).2.1 else .int .i64 (q (k / 3)).2.2
def prow (n : Nat) (q : Rp) : Array Value := (vals (3 * n) (pcell q)).toArray
theorem pcell0 (q : Rp) (i : Nat) : pcell q (3 * i) = .int .i64 (q i).1 := by
  unfold pcell
  have h1 : 3 * i % 3 = 0 := by omega
  have h2 : 3 * i / 3 = i := by omega
  rw [if_pos h1, h2]
theorem pcell1 (q : Rp) (i : Nat) : pcell q (3 * i + 1) = .int .u32 (q i).2.1 := by
  unfold pcell
  have h1 : ¬ (3 * i + 1) % 3 = 0 := by omega
  have h2 : (3 * i + 1) / 3 = i := by omega
  have h3 : (3 * i + 1) % 3 = 1 := by omega
  rw [if_neg h1, if_pos h3, h2]
theorem pcell2 (q : Rp) (i : Nat) : pcell q (3 * i + 2) = .int .i64 (q i).2.2 := by
  unfold pcell
  have h1 : ¬ (3 * i + 2) % 3 = 0 := by omega
  have h2 : (3 * i + 2) / 3 = i := by omega
  have h3 : ¬ (3 * i + 2) % 3 = 1 := by omega
  rw [if_neg h1, if_neg h3, h2]
theorem prow_at (n : Nat) (q : Rp) (k : Nat) (h : k < 3 * n) : (prow n q)[k]? = some (pcell q k) := by
  unfold prow
  rw [List.getElem?_toArray, vals_at _ _ _ h]
/-- Page i anew. -/
def rput (q : Rp) (i : Nat) (v : Nat × Nat × Nat) : Rp := fun k => if k = i then v else q k
theorem rput_same (q : Rp) (i : Nat) (v : Nat × Nat × Nat) : rput q i v i = v := by simp [rput]
theorem rput_other (q : Rp) {i k : Nat} (v : Nat × Nat × Nat) (h : k ≠ i) : rput q i v k = q k := by simp [rput, h]
theorem rput_rput (q : Rp) (i : Nat) (v u : Nat × Nat × Nat) : rput (rput q i v) i u = rput q i u := by
  funext k
  simp [rput]
  split <;> simp_all
theorem prow_set (n : Nat) (q q' : Rp) (k : Nat) (u : Value) (h : ∀ j, j < 3 * n → pcell q' j = if j = k then u else pcell q j) : (prow n q).setIfInBounds k u = prow n q' := by
  unfold prow
  rw [List.setIfInBounds_toArray, vals_set]
  congr 1
  exact (vals_congr h).symm
theorem prow_set0 (n : Nat) (q : Rp) (i c : Nat) : (prow n q).setIfInBounds (3 * i) (.int .i64 c) = prow n (rput q i (c, (q i).2)) := by
  refine prow_set _ _ _ _ _ fun j _ => ?_
  by_cases e : j / 3 = i
  · by_cases e0 : j = 3 * i
    · subst e0; rw [pcell0, rput_same, if_pos rfl]
    · rw [if_neg e0]
      unfold pcell
      have : ¬ j % 3 = 0 := by omega
      rw [if_neg this, if_neg this, e, rput_same]
  · have : ¬ j = 3 * i := by omega
    rw [if_neg this]
    unfold pcell
    rw [rput_other _ _ e]
theorem prow_set1 (n : Nat) (q : Rp) (i c : Nat) : (prow n q).setIfInBounds (3 * i + 1) (.int .u32 c) = prow n (rput q i ((q i).1, c, (q i).2.2)) := by
  refine prow_set _ _ _ _ _ fun j _ => ?_
  by_cases e : j / 3 = i
  · by_cases e0 : j = 3 * i + 1
    · subst e0; rw [pcell1, rput_same, if_pos rfl]
    · rw [if_neg e0]
      unfold pcell
      have : ¬ j % 3 = 1 := by omega
      rw [if_neg this, if_neg this, e, rput_same]
  · have : ¬ j = 3 * i + 1 := by omega
    rw [if_neg this]
    unfold pcell
    rw [rput_other _ _ e]
theorem prow_set2 (n : Nat) (q : Rp) (i c : Nat) : (prow n q).setIfInBounds (3 * i + 2) (.int .i64 c) = prow n (rput q i ((q i).1, (q i).2.1, c)) := by
  refine prow_set _ _ _ _ _ fun j _ => ?_
  by_cases e : j / 3 = i
  · by_cases e0 : j = 3 * i + 2
    · subst e0; rw [pcell2, rput_same, if_pos rfl]
    · rw [if_neg e0]
      unfold pcell
      rw [e, rput_same]
      have : j % 3 = 0 ∨ j % 3 = 1 := by omega
      rcases this with h | h <;> simp [h]
  · have : ¬ j = 3 * i + 2 := by omega
    rw [if_neg this]
    unfold pcell
    rw [rput_other _ _ e]

/-- w' is w, but for what the blocks a, b, c hold, and for new blocks. -/
structure Fr (a b c : Nat) (w w' : World) : Prop where
  os : w'.os = w.os
  tape : w'.tape = w.tape
  output : w'.output = w.output
  size : w.heap.size ≤ w'.heap.size
  block : ∀ k, k < w.heap.size → k ≠ a → k ≠ b → k ≠ c → w'.heap[k]? = w.heap[k]?
section
variable {a b c : Nat} {w w' w'' : World}
theorem Fr.refl (a b c : Nat) (w : World) : Fr a b c w w := ⟨rfl, rfl, rfl, Nat.le_refl _, fun _ _ _ _ _ => rfl⟩
theorem Fr.trans (h : Fr a b c w w') (k : Fr a b c w' w'') : Fr a b c w w'' :=
  ⟨k.os.trans h.os, k.tape.trans h.tape, k.output.trans h.output, Nat.le_trans h.size k.size, fun i hi ha hb hc => (k.block i (Nat.lt_of_lt_of_le hi h.size) ha hb hc).trans (h.block i hi ha hb hc)⟩
theorem Fr.of_only {g : Nat} (h : Only g w w') (hg : g = a ∨ g = b ∨ g = c) : Fr a b c w w' :=
  ⟨h.os, h.tape, h.output, Nat.le_of_eq h.size.symm, fun k _ ha hb hc => h.block k (by rintro rfl; rcases hg with e | e | e <;> contradiction)⟩
theorem Fr.of_below {B : Nat} (h : Below B w w') (hB : w.heap.size ≤ B) : Fr a b c w w' :=
  ⟨h.os, h.tape, h.output, h.size, fun k hk _ _ _ => h.block k (by omega)⟩
theorem Fr.alloc (a b c : Nat) (w : World) (o : Obj) : Fr a b c w (w.alloc o) :=
  Fr.of_below ((Below.refl _ w).alloc (Nat.le_refl _) o) (Nat.le_refl _)
theorem Fr.drew (a b c : Nat) (w : World) (m : Nat) : Fr a b c w (w.drewN m) := ⟨rfl, rfl, rfl, Nat.le_refl _, fun _ _ _ _ _ => rfl⟩
theorem Fr.below {B : Nat} (h : Fr a b c w w') (hB : B ≤ w.heap.size) (ha : B ≤ a) (hb : B ≤ b) (hc : B ≤ c) : Below B w w' :=
  ⟨h.os, h.tape, h.output, h.size, fun k hk => h.block k (by omega) (by omega) (by omega) (by omega)⟩
theorem Blk.fr {g : Nat} {t : TypeId} {cs : Array Value} (h : Blk w g t cs) (ho : Fr a b c w w') (ha : g ≠ a) (hb : g ≠ b) (hc : g ≠ c) : Blk w' g t cs := (ho.block g h.lt ha hb hc).trans h
theorem Fr.keeps (h : Fr a b c w w') {ta tb tc : TypeId} {ca cb cc : Array Value} (ha : Blk w a ta ca) (hb : Blk w b tb cb) (hc : Blk w c tc cc) : KeepsOthers w w' := by
  refine ⟨h.size, fun k o hk ho => ?_⟩
  have hlt : k < w.heap.size := (Array.getElem?_eq_some_iff.1 hk).1
  refine (h.block k hlt ?_ ?_ ?_).trans hk
  · rintro rfl; unfold Blk at ha; rw [ha] at hk; cases hk; cases ho
  · rintro rfl; unfold Blk at hb; rw [hb] at hk; cases hk; cases ho
  · rintro rfl; unfold Blk at hc; rw [hc] at hk; cases hk; cases ho
theorem Ow.fr {B g N cp : Nat} {e : TypeId} {h : Nat → Value} (o : Ow w B e g N cp h) (ho : Fr a b c w w') (ha : g ≠ a) (hb : g ≠ b) (hc : g ≠ c) : Ow w' B e g N cp h := o.block (ho.block g o.lt.2 ha hb hc)
end

/-- Where a slab lies: its head, the arena's head and bytes, the pool, the pages' row. -/
structure Pt where
  p : Nat
  pa : Nat
  ga : Nat
  pp : Nat
  gp : Nat

structure Rw (w : World) (L : Pt) (n : Nat) (q : Rp) (f : Nat → Int) (t : Nat → Bool) : Prop where
  head : Blk w L.p 69 #[.pointer (some ⟨L.pa, 0, none⟩), .pointer (some ⟨L.pp, 0, none⟩), .slice (some ⟨L.gp, 0, none⟩) n n]
  ar : Ar w L.pa L.ga (512 * n) f
  pl : Pl w L.pp n t
  pg : Blk w L.gp 77 (prow n q)
  pos : 1 ≤ n
section
variable {w w' : World} {L : Pt} {n : Nat} {q : Rp} {f : Nat → Int} {t : Nat → Bool}
theorem Rw.small (h : Rw w L n q f t) : n ≤ 128 := h.pl.small
theorem Rw.same (h : Rw w L n q f t) (e : ∀ k, k = L.p ∨ k = L.pa ∨ k = L.ga ∨ k = L.pp ∨ k = L.gp → w'.heap[k]? = w.heap[k]?) : Rw w' L n q f t :=
  ⟨(e _ (by simp)).trans h.head, ⟨(e _ (by simp)).trans h.ar.head, (e _ (by simp)).trans h.ar.body, h.ar.small, h.ar.byte⟩, ⟨(e _ (by simp)).trans h.pl.blk, h.pl.small, h.pl.off⟩, (e _ (by simp)).trans h.pg, h.pos⟩
theorem Rw.lts (h : Rw w L n q f t) : L.p < w.heap.size ∧ L.pa < w.heap.size ∧ L.ga < w.heap.size ∧ L.pp < w.heap.size ∧ L.gp < w.heap.size :=
  ⟨h.head.lt, h.ar.head.lt, h.ar.body.lt, h.pl.blk.lt, h.pg.lt⟩
theorem Rw.below {B : Nat} (h : Rw w L n q f t) (hb : Below B w w') (hB : w.heap.size ≤ B) : Rw w' L n q f t := h.same fun k hk => by
  have := h.lts
  exact hb.block k (by omega)
theorem Rw.drew (h : Rw w L n q f t) (m : Nat) : Rw (w.drewN m) L n q f t := h.same fun _ _ => rfl
theorem Rw.alloc (h : Rw w L n q f t) (o : Obj) : Rw (w.alloc o) L n q f t := h.below ((Below.refl _ w).alloc (Nat.le_refl _) o) (Nat.le_refl _)
/-- All five blocks are apart. -/
theorem Rw.ne (h : Rw w L n q f t) : L.p ≠ L.pa ∧ L.p ≠ L.ga ∧ L.p ≠ L.pp ∧ L.p ≠ L.gp ∧ L.pa ≠ L.ga ∧ L.pa ≠ L.pp ∧ L.pa ≠ L.gp ∧ L.ga ≠ L.pp ∧ L.ga ≠ L.gp ∧ L.pp ≠ L.gp :=
  ⟨h.head.apart h.ar.head (by decide), h.head.apart h.ar.body (by decide), h.head.apart h.pl.blk (by decide), h.head.apart h.pg (by decide), h.ar.head.apart h.ar.body (by decide), h.ar.head.apart h.pl.blk (by decide), h.ar.head.apart h.pg (by decide), h.ar.body.apart h.pl.blk (by decide), h.ar.body.apart h.pg (by decide), h.pl.blk.apart h.pg (by decide)⟩
theorem Rw.ofAr {f' : Nat → Int} (h : Rw w L n q f t) (ho : Only L.ga w w') (ha : Ar w' L.pa L.ga (512 * n) f') : Rw w' L n q f' t := by
  obtain ⟨n1, n2, n3, n4, n5, n6, n7, n8, n9, n10⟩ := h.ne
  exact ⟨h.head.only ho n2, ha, h.pl.only ho (fun e => n8 e.symm), h.pg.only ho (fun e => n9 e.symm), h.pos⟩
theorem Rw.ofPl {t' : Nat → Bool} (h : Rw w L n q f t) (ho : Only L.pp w w') (ha : Pl w' L.pp n t') : Rw w' L n q f t' := by
  obtain ⟨n1, n2, n3, n4, n5, n6, n7, n8, n9, n10⟩ := h.ne
  exact ⟨h.head.only ho n3, h.ar.only ho n6 n8, ha, h.pg.only ho (fun e => n10 e.symm), h.pos⟩
theorem Rw.ofPg {q' : Rp} (h : Rw w L n q f t) (ho : Only L.gp w w') (ha : Blk w' L.gp 77 (prow n q')) : Rw w' L n q' f t := by
  obtain ⟨n1, n2, n3, n4, n5, n6, n7, n8, n9, n10⟩ := h.ne
  exact ⟨h.head.only ho n4, h.ar.only ho n7 n9, h.pl.only ho n10, ha, h.pos⟩
theorem Rw.set0 (h : Rw w L n q f t) (i c : Nat) : Rw (w.setCell ⟨L.gp, i * 3, none⟩ (.int .i64 c)) L n (rput q i (c, (q i).2)) f t :=
  h.ofPg (Only.setCellAt w _ _ _) (by have := h.pg.put (i * 3) (.int .i64 c); rwa [Nat.mul_comm i 3, prow_set0, Nat.mul_comm 3 i] at this)
theorem Rw.set1 (h : Rw w L n q f t) (i c : Nat) : Rw (w.setCell ⟨L.gp, i * 3 + 1, none⟩ (.int .u32 c)) L n (rput q i ((q i).1, c, (q i).2.2)) f t :=
  h.ofPg (Only.setCellAt w _ _ _) (by have := h.pg.put (i * 3 + 1) (.int .u32 c); rwa [Nat.mul_comm i 3, prow_set1, Nat.mul_comm 3 i] at this)
theorem Rw.set2 (h : Rw w L n q f t) (i c : Nat) : Rw (w.setCell ⟨L.gp, i * 3 + 2, none⟩ (.int .i64 c)) L n (rput q i ((q i).1, (q i).2.1, c)) f t :=
  h.ofPg (Only.setCellAt w _ _ _) (by have := h.pg.put (i * 3 + 2) (.int .i64 c); rwa [Nat.mul_comm i 3, prow_set2, Nat.mul_comm 3 i] at this)
theorem Rw.h0 (h : Rw w L n q f t) : w.cell? ⟨L.p, 0, none⟩ = some (.pointer (some ⟨L.pa, 0, none⟩)) := h.head.cell 0
theorem Rw.h1 (h : Rw w L n q f t) : w.cell? ⟨L.p, 1, none⟩ = some (.pointer (some ⟨L.pp, 0, none⟩)) := h.head.cell 1
theorem Rw.h2 (h : Rw w L n q f t) : w.cell? ⟨L.p, 2, none⟩ = some (.slice (some ⟨L.gp, 0, none⟩) n n) := h.head.cell 2
theorem Rw.p0 (h : Rw w L n q f t) (i : Nat) (hi : i < n) : w.cell? ⟨L.gp, i * 3, none⟩ = some (.int .i64 (q i).1) := by rw [Nat.mul_comm i 3, h.pg.cell, prow_at _ _ _ (by omega), pcell0]
theorem Rw.p1 (h : Rw w L n q f t) (i : Nat) (hi : i < n) : w.cell? ⟨L.gp, i * 3 + 1, none⟩ = some (.int .u32 (q i).2.1) := by rw [Nat.mul_comm i 3, h.pg.cell, prow_at _ _ _ (by omega), pcell1]
theorem Rw.p2 (h : Rw w L n q f t) (i : Nat) (hi : i < n) : w.cell? ⟨L.gp, i * 3 + 2, none⟩ = some (.int .i64 (q i).2.2) := by rw [Nat.mul_comm i 3, h.pg.cell, prow_at _ _ _ (by omega), pcell2]
theorem Rw.fz (h : Rw w L n q f t) (k : Nat) : w.frozen? ⟨L.gp, k, none⟩ = false := h.pg.frozen k
end
end Go.Proofs.YthblpnnbkjhmhaaDoor
