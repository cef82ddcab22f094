/- The document's answer for the slab: New, with. Condition: its blocks are known. -/
import Derived.Test.YthblpnnbkjhmhaaDoorSRef
namespace Go.Proofs.YthblpnnbkjhmhaaDoor
open Go.RowKit

theorem Tryd.info72 : (Tryd.prog.info? 72).map (fun i => (i.zero, i.size, i.bytes)) = some (some (.agg #[.int .i64 0, .slice none 0 0, .slice none 0 0]), 3, 56) := by kernel_rfl
def updT (T : Nat → List Nat) (i : Nat) (t : List Nat) : Nat → List Nat := fun k => if k = i then t else T k
def updQ (Q : Nat → Qg) (i : Nat) (q : Qg) : Nat → Qg := fun k => if k = i then q else Q k
theorem updT_same (T : Nat → List Nat) (i : Nat) (t : List Nat) : updT T i t i = t := by simp [updT]
theorem updT_other (T : Nat → List Nat) {i k : Nat} (t : List Nat) (h : k ≠ i) : updT T i t k = T k := by simp [updT, h]
theorem updQ_same (Q : Nat → Qg) (i : Nat) (q : Qg) : updQ Q i q i = q := by simp [updQ]
theorem updQ_other (Q : Nat → Qg) {i k : Nat} (q : Qg) (h : k ≠ i) : updQ Q i q k = Q k := by simp [updQ, h]
def cf (s : St) (T : Nat → List Nat) (Q : Nat → Qg) (k : Nat) : Value := if k % 3 = 0 then rc0 s (k / 3) else if k % 3 = 1 then rc1 s Q (k / 3) else rc2 T Q (k / 3)
theorem cf_at {w : World} {B : Bd} {g cp n : Nat} {s : St} {T : Nat → List Nat} {Q : Nat → Qg} (h : Rf w B g cp n s T Q) (k : Nat) (hk : k < n * 3) : w.cell? ⟨g, k, none⟩ = some (cf s T Q k) := by
  obtain ⟨c0, c1, c2⟩ := h.cells (k / 3) (by omega)
  unfold cf
  have : k % 3 = 0 ∨ k % 3 = 1 ∨ k % 3 = 2 := by omega
  rcases this with e | e | e
  · rw [if_pos e, ← c0]; congr 2; omega
  · rw [if_neg (by omega), if_pos e, ← c1]; congr 2; omega
  · rw [if_neg (by omega), if_neg (by omega), ← c2]; congr 2; omega
theorem cf_one (s : St) (T : Nat → List Nat) (Q : Nat → Qg) (k : Nat) : (cf s T Q k).oneCell' = true := by
  unfold cf rc0 rc1 rc2
  (repeat' split) <;> rfl
section
variable {w w' : World} {B : Bd} {g cp n : Nat} {s : St} {T : Nat → List Nat} {Q : Nat → Qg}
theorem run_make_ref (w : World) (n : Nat) (hn : n ≤ 128) :
    (Instr.makeSlice 32 (.int .i64 (n : Int)) (.int .i64 (n : Int))).run Tryd.prog w = .ok (.slice (some ⟨w.heap.size, 0, none⟩) n n) (w.alloc (.cells (vals (n * 3) (cf st0 (fun _ => []) fun _ => ⟨none, 0, none, 0⟩)).toArray 72)) := by
  obtain ⟨i0, hi, hz0, hz1, hz2⟩ := info_parts Tryd.info72
  have h := run_make (P := Tryd.prog) w 32 72 i0 (.agg #[.int .i64 0, .slice none 0 0, .slice none 0 0]) Tryd.underlying32 hi hz0 .i64 .i64 (n : Int) (n : Int) (by omega) (by omega) (by rw [hz2]; omega) (by omega)
  rw [h, hz1]
  have e : madeCells (Value.cells (.agg #[.int .i64 0, .slice none 0 0, .slice none 0 0])) (n * 3) = (vals (n * 3) (cf st0 (fun _ => []) fun _ => ⟨none, 0, none, 0⟩)).toArray := by
    apply Array.ext_getElem?
    intro j
    by_cases hj : j < n * 3
    · have e2 : (vals (n * 3) (cf st0 (fun _ => []) fun _ => ⟨none, 0, none, 0⟩)).toArray[j]? = some (cf st0 (fun _ => []) (fun _ => ⟨none, 0, none, 0⟩) j) := by rw [List.getElem?_toArray, vals_at _ _ _ hj]
      rw [e2]
      have hv : Value.cells (.agg #[.int .i64 0, .slice none 0 0, .slice none 0 0]) = #[.int .i64 0, .slice none 0 0, .slice none 0 0] := by kernel_rfl
      rw [hv]
      unfold madeCells
      have : j % 3 = 0 ∨ j % 3 = 1 ∨ j % 3 = 2 := by omega
      rcases this with h | h | h <;> simp [hj, cf, rc0, rc1, rc2, st0, h]
    · rw [Array.getElem?_eq_none (by rw [size_madeCells]; omega), Array.getElem?_eq_none (by simp [vals]; omega)]
  simp only [Int.toNat_natCast]
  rw [e]
theorem rnew_ok (n : Nat) (hn : n ≤ 128) (hB : B.b ≤ w.heap.size ∧ B.t < w.heap.size) :
    Calls Tryd.prog 13 #[.int .i64 n] w fun e w' => e = .returned (.slice (some ⟨w.heap.size, 0, none⟩) n n) ∧ Rf w' B w.heap.size n n st0 (fun _ => []) (fun _ => ⟨none, 0, none, 0⟩) ∧ Below w.heap.size w w' := by
  have hmk := fun w => run_make_ref w n hn
  go_enter Tryd.func13, Tryd.ntmps13
  go_wp2
  go_ret
  have b := Blk.new w 72 (vals (n * 3) (cf st0 (fun _ => []) fun _ => ⟨none, 0, none, 0⟩)).toArray
  refine ⟨rfl, ⟨⟨hB.1, by have := hB.2; omega⟩, b.lt, Nat.le_refl _, hn, fun i hi => ?_, fun i _ => ⟨Sg.nil _ _ _, Sg.nil _ _ _, Nat.zero_le _, Nat.zero_le _, fun _ => rfl, fun _ => rfl⟩⟩, (Below.refl _ w).alloc (Nat.le_refl _) _⟩
  rw [b.cell, b.cell, b.cell, List.getElem?_toArray, List.getElem?_toArray, List.getElem?_toArray, vals_at _ _ _ (by omega), vals_at _ _ _ (by omega), vals_at _ _ _ (by omega)]
  refine ⟨?_, ?_, ?_⟩
  · unfold cf; rw [if_pos (by omega)]; rfl
  · unfold cf; rw [if_neg (by omega), if_pos (by omega)]; rfl
  · unfold cf; rw [if_neg (by omega), if_neg (by omega)]; rfl
/-- The block of a row that was appended to. -/
theorem row_blk {v : Value} {n B : Nat} {e : TypeId} {size : Nat} {xs : List Value} (h : w.ownsRow B e size v n xs) (hn : 0 < n) : ∃ g cap cur, v = .slice (some ⟨g, 0, none⟩) n cap ∧ B ≤ g ∧ Blk w g e cur ∧ n ≤ cap ∧ ∀ k, k < n * size → cur[k]? = xs[k]? := by
  rcases h.2 with ⟨_, h0⟩ | ⟨g, cap, cur, h1, h2, h3, h4, _, h6, h7⟩
  · omega
  · refine ⟨g, cap, cur, h1, h2, h3, h4, fun k hk => ?_⟩
    rw [← h7, List.getElem?_take, if_pos hk]
    simp
theorem row_none3 (w : World) (B : Nat) (hB : B ≤ w.heap.size) : (w.alloc (.cells #[] 72)).ownsRow B 72 3 (.slice (some ⟨w.heap.size, 0, none⟩) 0 0) 0 [] :=
  ⟨rfl, .inr ⟨w.heap.size, 0, #[], rfl, hB, heap_alloc_new w _, Nat.le_refl _, by unfold maxLen; omega, rfl, rfl⟩⟩
theorem set3_at (cur : Array Value) (i m : Nat) (c0 c1 c2 : Value) (h : i * 3 + 2 < cur.size) :
    (((cur.setIfInBounds (i * 3) c0).setIfInBounds (i * 3 + 1) c1).setIfInBounds (i * 3 + 2) c2)[m]? = if m = i * 3 + 2 then some c2 else if m = i * 3 + 1 then some c1 else if m = i * 3 then some c0 else cur[m]? := by
  simp only [Array.getElem?_setIfInBounds, Array.size_setIfInBounds]
  by_cases e2 : m = i * 3 + 2
  · subst e2; simp [h]
  · by_cases e1 : m = i * 3 + 1
    · subst e1
      have : i * 3 + 1 < cur.size := by omega
      simp [this]
    · by_cases e0 : m = i * 3
      · subst e0
        have : i * 3 < cur.size := by omega
        simp [this]
      · have f0 : ¬ i * 3 = m := fun e => e0 e.symm
        have f1 : ¬ i * 3 + 1 = m := fun e => e1 e.symm
        have f2 : ¬ i * 3 + 2 = m := fun e => e2 e.symm
        simp [e0, e1, e2, f0, f1, f2]
set_option maxRecDepth 100000 in
theorem with_ok (h : Rf w B g cp n s T Q) (i : Nat) (hi : i < n) (p : Nat × List Nat) (t : List Nat) (q : Qg) (hp : Pok w B p t q) (hB : B.b ≤ w.heap.size ∧ B.t < w.heap.size) :
    Calls Tryd.prog 34 #[.slice (some ⟨g, 0, none⟩) n cp, .int .i64 i, .agg #[.int .i64 (p.1 : Nat), .slice q.a1 p.2.length q.k1, .slice q.a2 t.length q.k2]] w fun e w' =>
      ∃ g' cp', e = .returned (.slice (some ⟨g', 0, none⟩) n cp') ∧ Rf w' B g' cp' n (put s i p) (updT T i t) (updQ Q i q) ∧ Below w.heap.size w w' := by
  have hn := h.small
  obtain ⟨i0, hx, hz0, hz1, hz2⟩ := info_parts Tryd.info72
  obtain ⟨w1, hw1⟩ : ∃ w1, w1 = w.alloc (.cells #[.int .i64 (p.1 : Nat), .slice q.a1 p.2.length q.k1, .slice q.a2 t.length q.k2] 72) := ⟨_, rfl⟩
  have b1 : Blk w1 w.heap.size 72 #[.int .i64 (p.1 : Nat), .slice q.a1 p.2.length q.k1, .slice q.a2 t.length q.k2] := by rw [hw1]; exact Blk.new _ _ _
  have s1 : w1.heap.size = w.heap.size + 1 := by rw [hw1]; exact World.size_alloc _ _
  have l1 : Below w.heap.size w w1 := by rw [hw1]; exact (Below.refl _ w).alloc (Nat.le_refl _) _
  obtain ⟨w2, hw2⟩ : ∃ w2, w2 = w1.alloc (.cells #[] 72) := ⟨_, rfl⟩
  have s2 : w2.heap.size = w.heap.size + 2 := by rw [hw2, World.size_alloc, s1]
  have l2 : Below w1.heap.size w1 w2 := by rw [hw2]; exact (Below.refl _ w1).alloc (Nat.le_refl _) _
  have b2 : Blk w2 w.heap.size 72 #[.int .i64 (p.1 : Nat), .slice q.a1 p.2.length q.k1, .slice q.a2 t.length q.k2] := by rw [hw2]; exact b1.alloc _
  have o2 : w2.ownsRow w1.heap.size 72 3 (.slice (some ⟨w1.heap.size, 0, none⟩) 0 0) 0 [] := by rw [hw2]; exact row_none3 w1 _ (Nat.le_refl _)
  have bl2 : Below w.heap.size w w2 := l1.trans (l2.mono (by omega))
  have r2 := h.keep (Kb.below bl2)
  have nw : ∀ j u, (vals (n * 3) (cf s T Q))[j]? = some u → w2.cell? (Addr.add ⟨g, 0, none⟩ j) = some u := by
    intro j u hu
    rw [addr_add, Nat.zero_add]
    have hj : j < n * 3 := by
      have := (List.getElem?_eq_some_iff.1 hu).1
      rw [vals_len] at this
      exact this
    rw [vals_at _ _ _ hj] at hu
    rw [cf_at r2 j hj, hu]
  have HX := Lib.hid hx
  have HZ0 := Lib.hid hz0
  have HZ1 := Lib.hid hz1
  have HZ2 := Lib.hid hz2
  have H := Lib.hid h
  have HP := Lib.hid hp
  have HW1 := Lib.hid hw1
  have HW2 := Lib.hid hw2
  rw [s1] at o2
  have O2 := Lib.hid o2
  have B2 := Lib.hid b2
  have BL2 := Lib.hid bl2
  have NW := Lib.hid nw
  have hv1 := Lib.hid (vals_ones (n * 3) (cf s T Q) (cf_one s T Q))
  have hv2 := Lib.hid (vals_len (n * 3) (cf s T Q))
  clear hx hz0 hz1 hz2 h hp hw1 hw2 b1 o2 b2 bl2 nw r2 l1 l2
  go_enter Tryd.func34, Tryd.ntmps34
  go_wp2_with (at_builtin; rw [← HW1.out, ← HW2.out]; refine wpList_append_own w2 rfl (.tmp 8) (.tmp 9) 32 rfl (w.heap.size + 1) 72 i0 (.agg #[.int .i64 0, .slice none 0 0, .slice none 0 0]) 3 56 Tryd.underlying32 HX.out HZ0.out HZ1.out HZ2.out (by kernel_rfl) (by decide) (.slice (some ⟨w.heap.size + 1, 0, none⟩) 0 0) 0 [] rfl O2.out ⟨g, 0, none⟩ n cp (vals (n * 3) (cf s T Q)) rfl hv2.out NW.out hv1.out (by unfold maxLen; omega) (by omega) (by omega) ?_)
  intro v' w3 hown hgrow _
  have hgb : Below (w.heap.size + 1) w2 w3 := below_of_grown hgrow (by omega) (fun r e => by cases e; exact Nat.le_refl _)
  obtain ⟨g', cp', cur, rfl, hg', hbl', hcp', hcur⟩ := row_blk hown (show 0 < n by omega)
  have b3 := B2.out.below hgb (by omega)
  have q0 : w3.cell? ⟨w.heap.size, 0, none⟩ = some (.int .i64 (p.1 : Nat)) := b3.cell 0
  have q1 : w3.cell? ⟨w.heap.size, 1, none⟩ = some (.slice q.a1 p.2.length q.k1) := b3.cell 1
  have q2 : w3.cell? ⟨w.heap.size, 2, none⟩ = some (.slice q.a2 t.length q.k2) := b3.cell 2
  have hcv : ∀ k, k < n * 3 → cur[k]? = some (cf s T Q k) := fun k hk => by rw [hcur k hk]; first | rw [vals_at _ _ _ hk] | rw [List.nil_append, vals_at _ _ _ hk]
  have r0 : w3.cell? ⟨g', i * 3, none⟩ = some (cf s T Q (i * 3)) := by rw [hbl'.cell]; exact hcv _ (by omega)
  have r1 : w3.cell? ⟨g', i * 3 + 1, none⟩ = some (cf s T Q (i * 3 + 1)) := by rw [hbl'.cell]; exact hcv _ (by omega)
  have r2 : w3.cell? ⟨g', i * 3 + 2, none⟩ = some (cf s T Q (i * 3 + 2)) := by rw [hbl'.cell]; exact hcv _ (by omega)
  have z0 := hbl'.frozen (i * 3)
  have z1 := hbl'.frozen (i * 3 + 1)
  have z2 := hbl'.frozen (i * 3 + 2)
  have HBL := Lib.hid hbl'
  have HCV := Lib.hid hcv
  have HB3 := Lib.hid (BL2.out.trans (hgb.mono (by omega)))
  clear hown hgrow hgb b3 hbl' hcur hcv
  go_wp2
  go_ret
  have b4 := ((HBL.out.put (i * 3) (.int .i64 (p.1 : Nat))).put (i * 3 + 1) (.slice q.a1 p.2.length q.k1)).put (i * 3 + 2) (.slice q.a2 t.length q.k2)
  have hsz : i * 3 + 2 < cur.size := (Array.getElem?_eq_some_iff.1 (HCV.out (i * 3 + 2) (by omega))).1
  have bl4 : Below w.heap.size w (((w3.setCell ⟨g', i * 3, none⟩ (.int .i64 (p.1 : Nat))).setCell ⟨g', i * 3 + 1, none⟩ (.slice q.a1 p.2.length q.k1)).setCell ⟨g', i * 3 + 2, none⟩ (.slice q.a2 t.length q.k2)) :=
    ((HB3.out.trans ((Only.setCellAt _ _ _ _).below (by omega))).trans ((Only.setCellAt _ _ _ _).below (by omega))).trans ((Only.setCellAt _ _ _ _).below (by omega))
  refine ⟨g', cp', rfl, ⟨⟨by omega, by omega⟩, b4.lt, hcp', hn, fun k hk => ?_, fun k hk => ?_⟩, bl4⟩
  · rw [b4.cell, b4.cell, b4.cell, set3_at _ _ _ _ _ _ hsz, set3_at _ _ _ _ _ _ hsz, set3_at _ _ _ _ _ _ hsz]
    by_cases e : k = i
    · subst e
      rw [if_neg (by omega), if_neg (by omega), if_pos rfl, if_neg (by omega), if_pos rfl, if_pos rfl]
      unfold rc0 rc1 rc2
      rw [put_same, updT_same, updQ_same]
      exact ⟨rfl, rfl, rfl⟩
    · rw [if_neg (by omega), if_neg (by omega), if_neg (by omega), if_neg (by omega), if_neg (by omega), if_neg (by omega), if_neg (by omega), if_neg (by omega), if_neg (by omega), HCV.out _ (by omega), HCV.out _ (by omega), HCV.out _ (by omega)]
      unfold rc0 rc1 rc2
      rw [put_other _ _ e, updT_other _ _ e, updQ_other _ _ e]
      have d0 : k * 3 / 3 = k := by omega
      have d1 : (k * 3 + 1) / 3 = k := by omega
      have d2 : (k * 3 + 2) / 3 = k := by omega
      refine ⟨?_, ?_, ?_⟩
      · unfold cf rc0; rw [if_pos (by omega), d0]
      · unfold cf rc1; rw [if_neg (by omega), if_pos (by omega), d1]
      · unfold cf rc2; rw [if_neg (by omega), if_neg (by omega), d2]
  · by_cases e : k = i
    · subst e
      rw [put_same, updT_same, updQ_same]
      exact HP.out.keep (Kb.below bl4)
    · rw [put_other _ _ e, updT_other _ _ e, updQ_other _ _ e]
      exact (H.out.ok k hk).keep (Kb.below bl4)
end
end Go.Proofs.YthblpnnbkjhmhaaDoor
