/- The document's answer for the slab in memory: its words; New, Class, Used, Pages. Condition: its blocks are known. -/
import Derived.Test.YthblpnnbkjhmhaaDoorSUsd
import Derived.Test.YthblpnnbkjhmhaaDoorSEmptyG
import Derived.BigQuiet
namespace Go.Proofs.YthblpnnbkjhmhaaDoor
open Go.RowKit
open Pool (num cnt upd Pl low setR num_testBit quiet_same cnt_le)

/-- Blocks from b on, but for t. -/
structure Bd where
  b : Nat
  t : Nat
/-- A slice that holds xs, in such blocks. -/
def Sg (w : World) (B : Bd) (A : Option Addr) (xs : List Nat) : Prop := ∀ j x, xs[j]? = some x → ∃ b o, A = some ⟨b, o, none⟩ ∧ (B.b ≤ b ∧ b ≠ B.t) ∧ b < w.heap.size ∧ w.cell? ⟨b, o + j, none⟩ = some (.int .i64 (x : Nat))
/-- Where a page's two slices lie. -/
structure Qg where
  a1 : Option Addr
  k1 : Nat
  a2 : Option Addr
  k2 : Nat
structure Pok (w : World) (B : Bd) (p : Nat × List Nat) (t : List Nat) (q : Qg) : Prop where
  free : Sg w B q.a1 p.2
  taken : Sg w B q.a2 t
  l1 : p.2.length ≤ q.k1
  l2 : t.length ≤ q.k2
  z1 : q.a1 = none → q.k1 = 0
  z2 : q.a2 = none → q.k2 = 0
def rc0 (s : St) (i : Nat) : Value := .int .i64 ((s i).1 : Nat)
def rc1 (s : St) (Q : Nat → Qg) (i : Nat) : Value := .slice (Q i).a1 (s i).2.length (Q i).k1
def rc2 (T : Nat → List Nat) (Q : Nat → Qg) (i : Nat) : Value := .slice (Q i).a2 (T i).length (Q i).k2
/-- The document's slab of n pages: classes and free blocks as s says, taken ones as T says. -/
structure Rf (w : World) (B : Bd) (g cp n : Nat) (s : St) (T : Nat → List Nat) (Q : Nat → Qg) : Prop where
  ge : B.b ≤ g ∧ g ≠ B.t
  lt : g < w.heap.size
  cap : n ≤ cp
  small : n ≤ 128
  cells : ∀ i, i < n → w.cell? ⟨g, i * 3, none⟩ = some (rc0 s i) ∧ w.cell? ⟨g, i * 3 + 1, none⟩ = some (rc1 s Q i) ∧ w.cell? ⟨g, i * 3 + 2, none⟩ = some (rc2 T Q i)
  ok : ∀ i, i < n → Pok w B (s i) (T i) (Q i)
/-- What is taken, as lists. -/
structure Tl (s : St) (T : Nat → List Nat) : Prop where
  mem : ∀ i a, a ∈ T i ↔ Tkn s i a
  once : ∀ i, (T i).Nodup
  len : ∀ i, (T i).length = cnt (tk s i) 32
section
variable {w w' : World} {B : Bd} {g cp n : Nat} {s : St} {T : Nat → List Nat} {Q : Nat → Qg} {A : Option Addr} {xs : List Nat}
/-- Nothing that was there from B on has turned. -/
def Kb (B : Bd) (w w' : World) : Prop := w.heap.size ≤ w'.heap.size ∧ ∀ k, (B.b ≤ k ∧ k ≠ B.t) → k < w.heap.size → w'.heap[k]? = w.heap[k]?
theorem Kb.below {w w' : World} (h : Below w.heap.size w w') : Kb B w w' := ⟨h.size, fun k _ hk => h.block k hk⟩
theorem Kb.fr {a b c : Nat} (h : Fr a b c w w') (ha : a < B.b) (hb : b < B.b) (hc : c < B.b) : Kb B w w' := ⟨h.size, fun k h1 h2 => h.block k h2 (by omega) (by omega) (by omega)⟩
theorem Kb.trans {w'' : World} (h : Kb B w w') (k : Kb B w' w'') : Kb B w w'' := ⟨Nat.le_trans h.1 k.1, fun i h1 h2 => (k.2 i h1 (Nat.lt_of_lt_of_le h2 h.1)).trans (h.2 i h1 h2)⟩
theorem Kb.cell (h : Kb B w w') {b o : Nat} (h1 : B.b ≤ b ∧ b ≠ B.t) (h2 : b < w.heap.size) : w'.cell? ⟨b, o, none⟩ = w.cell? ⟨b, o, none⟩ := World.cell?_of_block (h.2 b h1 h2)
theorem Sg.keep (h : Sg w B A xs) (hk : Kb B w w') : Sg w' B A xs := fun j x hx => by
  obtain ⟨b, o, e, h1, h2, h3⟩ := h j x hx
  exact ⟨b, o, e, h1, Nat.lt_of_lt_of_le h2 hk.1, (hk.cell h1 h2).trans h3⟩
theorem Pok.keep {p : Nat × List Nat} {t : List Nat} {q : Qg} (h : Pok w B p t q) (hk : Kb B w w') : Pok w' B p t q := ⟨h.free.keep hk, h.taken.keep hk, h.l1, h.l2, h.z1, h.z2⟩
theorem Rf.keep (h : Rf w B g cp n s T Q) (hk : Kb B w w') : Rf w' B g cp n s T Q :=
  ⟨h.ge, Nat.lt_of_lt_of_le h.lt hk.1, h.cap, h.small, fun i hi => ⟨(hk.cell h.ge h.lt).trans (h.cells i hi).1, (hk.cell h.ge h.lt).trans (h.cells i hi).2.1, (hk.cell h.ge h.lt).trans (h.cells i hi).2.2⟩, fun i hi => (h.ok i hi).keep hk⟩
theorem Sg.nil (w : World) (B : Bd) (A : Option Addr) : Sg w B A [] := fun _ _ h => by simp at h
theorem Sg.of_row {n cap B' : Nat} (h : w.ownsRow B' 3 1 (.slice A n cap) n (ints xs)) (hB : ∀ k, B' ≤ k → B.b ≤ k ∧ k ≠ B.t) : Sg w B A xs := fun j x hx => by
  have hl : xs.length = n := by have := h.1; simp [ints] at this; exact this
  have hj := (List.getElem?_eq_some_iff.1 hx).1
  obtain ⟨g, e, _, h1, h2, _, h3⟩ := row_at2 h (by omega)
  exact ⟨g, 0, e, hB g h2, h1, by rw [Nat.zero_add]; exact h3 j x hx⟩

/-! ### Class -/
set_option maxRecDepth 100000 in
theorem rclass_any (size : Int) (hs : size ≤ 256) :
    Calls Tryd.prog 17 #[.int .i64 size] w fun e w' => e = .returned (.int .i64 (clsOf size : Nat)) ∧ Below w.heap.size w w' := by
  obtain ⟨w1, hw1⟩ : ∃ w1, w1 = w.alloc (.cells #[.int .i64 16, .int .i64 32, .int .i64 64, .int .i64 128, .int .i64 256] 3) := ⟨_, rfl⟩
  have b1 : Blk w1 w.heap.size 3 #[.int .i64 16, .int .i64 32, .int .i64 64, .int .i64 128, .int .i64 256] := by rw [hw1]; exact Blk.new _ _ _
  have l1 : Below w.heap.size w w1 := by rw [hw1]; exact (Below.refl _ w).alloc (Nat.le_refl _) _
  have L1 := Lib.hid l1
  have e0 : w1.cell? ⟨w.heap.size, 0, none⟩ = some (.int .i64 16) := b1.cell 0
  have e1 : w1.cell? ⟨w.heap.size, 1, none⟩ = some (.int .i64 32) := b1.cell 1
  have e2 : w1.cell? ⟨w.heap.size, 2, none⟩ = some (.int .i64 64) := b1.cell 2
  have e3 : w1.cell? ⟨w.heap.size, 3, none⟩ = some (.int .i64 128) := b1.cell 3
  have e4 : w1.cell? ⟨w.heap.size, 4, none⟩ = some (.int .i64 256) := b1.cell 4
  have HW := Lib.hid hw1
  clear b1 l1 hw1
  go_enter Tryd.func17, Tryd.ntmps17
  go_wp2_with fail
  rw [← HW.out]
  go_loop [4] (fun i => ∃ k : Nat, k ≤ 4 ∧ i = .int .i64 k ∧ (1 ≤ k → 16 < size) ∧ (2 ≤ k → 32 < size) ∧ (3 ≤ k → 64 < size) ∧ (4 ≤ k → 128 < size)) (fun i => 5 - (intOf i).toNat)
  case atStart => exact ⟨0, Nat.zero_le _, rfl, by omega, by omega, by omega, by omega⟩
  case round =>
    obtain ⟨k, hk, rfl, h1, h2, h3, h4⟩ := hrel
    have hk5 : k = 0 ∨ k = 1 ∨ k = 2 ∨ k = 3 ∨ k = 4 := by omega
    rcases hk5 with rfl | rfl | rfl | rfl | rfl
    · clear h1 h2 h3 h4
      by_cases hx : size ≤ 16
      · have E := Lib.hid (clsOf_16 hx)
        go_wp2; go_ret; exact ⟨by rw [E.out] <;> rfl, L1.out⟩
      · go_wp2
        go_round
        case rel => exact ⟨1, by omega, rfl, by omega, by omega, by omega, by omega⟩
        case measure => simp [intOf]
    · have h1 := h1 (by omega)
      clear h2 h3 h4
      by_cases hx : size ≤ 32
      · have E := Lib.hid (clsOf_32 h1 hx)
        go_wp2; go_ret; exact ⟨by rw [E.out] <;> rfl, L1.out⟩
      · go_wp2
        go_round
        case rel => exact ⟨2, by omega, rfl, by omega, by omega, by omega, by omega⟩
        case measure => simp [intOf]
    · have h1 := h2 (by omega)
      clear h2 h3 h4
      by_cases hx : size ≤ 64
      · have E := Lib.hid (clsOf_64 h1 hx)
        go_wp2; go_ret; exact ⟨by rw [E.out] <;> rfl, L1.out⟩
      · go_wp2
        go_round
        case rel => exact ⟨3, by omega, rfl, by omega, by omega, by omega, by omega⟩
        case measure => simp [intOf]
    · have h1 := h3 (by omega)
      clear h2 h3 h4
      by_cases hx : size ≤ 128
      · have E := Lib.hid (clsOf_128 h1 hx)
        go_wp2; go_ret; exact ⟨by rw [E.out] <;> rfl, L1.out⟩
      · go_wp2
        go_round
        case rel => exact ⟨4, by omega, rfl, by omega, by omega, by omega, by omega⟩
        case measure => simp [intOf]
    · have h1 := h4 (by omega)
      clear h2 h3 h4
      have E := Lib.hid (clsOf_256 h1)
      go_wp2; go_ret; exact ⟨by rw [E.out] <;> rfl, L1.out⟩

/-! ### Used, Pages -/
theorem usd_T (hT : Tl s T) (k : Nat) : usd s (k + 1) = usd s k + (s k).1 * (T k).length := by rw [hT.len k]; rfl
set_option maxRecDepth 100000 in
theorem rused_any (h : Rf w B g cp n s T Q) (hT : Tl s T) (hI : Inv0 n s) :
    Calls Tryd.prog 22 #[.slice (some ⟨g, 0, none⟩) n cp] w fun e w' => e = .returned (.int .i64 (usd s n : Nat)) ∧ Below w.heap.size w w' := by
  have hn := h.small
  have H := Lib.hid h
  have HT := Lib.hid hT
  have HI := Lib.hid hI
  clear h hT hI
  go_enter Tryd.func22, Tryd.ntmps22
  go_wp2_with fail
  go_loopw [3, 4] (fun u v wr => ∃ k : Nat, k ≤ n ∧ v = .int .i64 k ∧ u = .int .i64 (usd s k : Nat) ∧ Hid (Below w.heap.size w wr)) (fun _ v _ => n - (intOf v).toNat)
  case atStart => exact ⟨0, Nat.zero_le _, rfl, rfl, Lib.hid (Below.refl _ _)⟩
  case round =>
    obtain ⟨k, hk, rfl, rfl, hBl⟩ := hrel
    by_cases hlt : k < n
    · obtain ⟨c0, c1, c2⟩ := (H.out.keep (Kb.below hBl.out)).cells k hlt
      unfold rc0 at c0
      unfold rc2 at c2
      have hu := usd_le HI.out k
      have hus := Lib.hid (usd_T HT.out k)
      have hc := cls_le HI.out k
      have hct := cnt_le (tk s k) 32
      rw [← HT.out.len k] at hct
      have hm := Nat.mul_le_mul hc hct
      have hmi : (((s k).1 : Nat) : Int) * (((T k).length : Nat) : Int) = (((s k).1 * (T k).length : Nat) : Int) := by rw [Int.natCast_mul]
      generalize (T k).length = tl at *
      generalize (s k).1 = c at *
      obtain ⟨m, hmm⟩ : ∃ m, m = c * tl := ⟨_, rfl⟩
      rw [← hmm] at hmi hm
      have HMM := Lib.hid hmm
      clear hmm c1
      generalize usd s k = us at *
      have hw1 : IntKind.i64.wrap ((m : Nat) : Int) = m := IntWalk.i64_in _ (by omega)
      have hw2 : IntKind.i64.wrap (((us : Nat) : Int) + m) = us + m := IntWalk.i64_in _ (by omega)
      go_wp2_with fail
      go_quiet (fail)
      go_wp2
      go_roundw
      case rel =>
        refine ⟨k + 1, hlt, by go_num, ?_, Lib.hid (below_drewN hBl.out _)⟩
        rw [hus.out, ← HMM.out]
        simp
      case measure => simp [intOf]; omega
    · obtain rfl : n = k := by omega
      have hB := hBl
      go_wp2
      go_ret
      exact ⟨rfl, hB.out⟩
theorem rpages_any (h : Rf w B g cp n s T Q) :
    Calls Tryd.prog 24 #[.slice (some ⟨g, 0, none⟩) n cp] w fun e w' => e = .returned (.int .i64 (pgs s n : Nat)) ∧ w = w' := by
  have hn := h.small
  have H := Lib.hid h
  clear h
  go_enter Tryd.func24, Tryd.ntmps24
  go_wp2_with fail
  go_loop [3, 4] (fun u v => ∃ k : Nat, k ≤ n ∧ v = .int .i64 k ∧ u = .int .i64 (pgs s k : Nat)) (fun _ v => n - (intOf v).toNat)
  case atStart => exact ⟨0, Nat.zero_le _, rfl, rfl⟩
  case round =>
    obtain ⟨k, hk, rfl, rfl⟩ := hrel
    by_cases hlt : k < n
    · obtain ⟨c0, _, _⟩ := H.out.cells k hlt
      unfold rc0 at c0
      have hu := pgs_le s k
      have hus : pgs s (k + 1) = pgs s k + if (s k).1 = 0 then 0 else 1 := rfl
      have HUS := Lib.hid hus
      clear hus
      generalize (s k).1 = c at *
      generalize pgs s k = us at *
      by_cases hc : c = 0
      · subst hc
        go_wp2
        go_round
        case rel =>
          refine ⟨k + 1, hlt, by go_num, ?_⟩
          rw [HUS.out]
          rfl
        case measure => simp [intOf]; omega
      · have hci : (0 : Int) < ((c : Nat) : Int) := by omega
        have HCN := Lib.hid hc
        clear hc
        go_wp2
        go_round
        case rel =>
          refine ⟨k + 1, hlt, by go_num, ?_⟩
          rw [HUS.out, if_neg HCN.out]
          simp
        case measure => simp [intOf]; omega
    · obtain rfl : n = k := by omega
      go_wp2
      go_ret
      exact ⟨rfl, rfl⟩
end
end Go.Proofs.YthblpnnbkjhmhaaDoor
