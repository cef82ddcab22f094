/- The walk of ArenaPlays: it returns true, and nothing that was there has turned. Condition: the table of widths lies in its block; the deeds' cells are known. -/
import Derived.Test.YtbdnijpbgbplaaaDoorRefStore
import Derived.OpenShut
namespace Go.Proofs.YtbdnijpbgbplaaaDoor
open Go.RowKit

/-- The deeds that are read. -/
def Deeds (w : World) (A : Option Addr) (len : Nat) : Prop := ∀ i, i < len → ∃ (b o : Nat) (kd at_ n v : Int), A = some ⟨b, o, none⟩ ∧ b < w.heap.size ∧
  w.cell? ⟨b, o + i * 4, none⟩ = some (.int .i64 kd) ∧ w.cell? ⟨b, o + i * 4 + 1, none⟩ = some (.int .i64 at_) ∧ w.cell? ⟨b, o + i * 4 + 2, none⟩ = some (.int .i64 n) ∧ w.cell? ⟨b, o + i * 4 + 3, none⟩ = some (.int .u64 v) ∧
  (Lit.int .i64 at_).wf = true ∧ (Lit.int .i64 n).wf = true ∧ (Lit.int .u64 v).wf = true

/-- What holds ahead of each deed. -/
structure Inv (w : World) (p ga N : Nat) (wr : World) (g c : Nat) (f : Nat → Int) : Prop where
  ar : Ar wr p ga N f
  sl : Sl wr (p + 1) g N c f
  bel : Below w.heap.size w wr
  low : ga < p

section
variable {w wr w' : World} {p ga N g c : Nat} {f : Nat → Int}
theorem Inv.lts (h : Inv w p ga N wr g c f) : p < g ∧ p < wr.heap.size ∧ ga < wr.heap.size ∧ g < wr.heap.size ∧ ga ≠ g := by
  have h1 := h.sl.lt
  have h2 := h.ar.head.lt
  have h3 := h.ar.body.lt
  have h4 := h.low
  omega
theorem Inv.more (h : Inv w p ga N wr g c f) (hb : Below wr.heap.size wr w') : Inv w p ga N w' g c f :=
  ⟨h.ar.below hb h.ar.head.lt h.ar.body.lt, h.sl.below hb h.sl.lt.2, h.bel.trans (hb.mono h.bel.size), h.low⟩
theorem Inv.laid (h : Inv w p ga N wr g c f) (o : Obj) : Inv w p ga N (wr.alloc o) g c f := h.more ((Below.refl _ _).alloc (Nat.le_refl _) _)
end

set_option maxRecDepth 100000 in
set_option maxHeartbeats 1000000 in
theorem plays_some (n : Int) (A : Option Addr) (len cap : Nat) (w : World) (h0 : (Lit.int .i64 n).wf = true) (_hlen : len ≤ 9223372036854775807) (hD : Deeds w A len)
    (hT : Tab w) (hB : 0 < w.heap.size) :
    Calls Tryd.prog 3 #[.int .i64 n, .slice A len cap] w fun e w' => e = .returned (.bool true) ∧ Below w.heap.size w w' := by
  have b0 := bounds_i64 h0
  clear h0
  have HT := Lib.hid hT
  have HD := Lib.hid hD
  clear hT hD
  by_cases hbad : n < 0 ∨ 65536 < n
  · have HN := Lib.hid hbad
    rcases hbad with hbad | hbad
    · go_enter Tryd.func3, Tryd.ntmps3
      go_wp2_with fail
      refine (shown_any HT.out hB).mono ?_
      rintro e w1 ⟨rfl, hb⟩
      have HB := Lib.hid hb
      clear hb
      go_wp2_with fail
      refine (new_bad n HN.out).mono ?_
      rintro e w' ⟨rfl, rfl⟩
      go_wp2
      go_ret
      exact ⟨rfl, HB.out⟩
    · have hge : ¬ n < 0 := by omega
      go_enter Tryd.func3, Tryd.ntmps3
      go_wp2_with fail
      refine (shown_any HT.out hB).mono ?_
      rintro e w1 ⟨rfl, hb⟩
      have HB := Lib.hid hb
      clear hb
      go_wp2_with fail
      refine (new_bad n HN.out).mono ?_
      rintro e w' ⟨rfl, rfl⟩
      go_wp2
      go_ret
      exact ⟨rfl, HB.out⟩
  obtain ⟨N, rfl⟩ := Int.eq_ofNat_of_zero_le (show 0 ≤ n by omega)
  have hN : N ≤ 65536 := by omega
  have hmk := fun w => run_make_bytes w N hN
  have hd1 : decide ((N : Int) < 0) = false := by simp
  have hd2 : decide ((65536 : Int) < (N : Int)) = false := by simp; omega
  clear hbad b0
  go_enter Tryd.func3, Tryd.ntmps3
  go_wp2_with fail
  refine (shown_any HT.out hB).mono ?_
  rintro e w1 ⟨rfl, hb⟩
  have HB1 := Lib.hid hb
  clear hb
  go_wp2_with fail
  refine (new_ok N hN).mono ?_
  rintro e w2 ⟨rfl, hA, hz, hb⟩
  have HA := Lib.hid hA
  have HZ := Lib.hid hz
  have HB2 := Lib.hid (HB1.out.trans (hb.mono HB1.out.size))
  clear hA hz hb
  go_wp2_with fail
  refine (len_any _ _ _ _ HA.out.mem).mono ?_
  rintro e w' ⟨rfl, rfl⟩
  have I0 : Hid (Inv w (w1.heap.size + 1) w1.heap.size N (w2.alloc (.cells (row N fun _ => 0) 5)) w2.heap.size N (fun _ => 0)) := by
    refine ⟨HA.out.below (B := w2.heap.size) ((Below.refl _ _).alloc (Nat.le_refl _) _) HA.out.head.lt HA.out.body.lt, ?_, HB2.out.alloc HB2.out.size _, by omega⟩
    have := World.ownsRow_lit (base := w1.heap.size + 1 + 1) (e := 5) (size := 1) w2 (row N fun _ => 0) N (by have := HZ.out; omega) (by unfold maxLen; omega) (by rw [row_size]; omega)
    exact this
  have hp0 := HB1.out.size
  clear HA HZ HB2
  go_wp2_with fail
  go_loopw [8, 9] (fun b i wr => ∃ (k g c : Nat) (f : Nat → Int), k ≤ len ∧ k ≤ 60 ∧ i = .int .i64 k ∧ b = .slice (some ⟨g, 0, none⟩) N c ∧ Inv w (w1.heap.size + 1) w1.heap.size N wr g c f) (fun _ i _ => len - (intOf i).toNat)
  case atStart => exact ⟨0, _, _, _, by omega, by omega, rfl, rfl, I0.out⟩
  case round =>
    obtain ⟨k, g, c, f, hk, hk60, rfl, rfl, hI⟩ := hrel
    have HI := Lib.hid hI
    have TR := Lib.hid (HT.out.below hI.bel hB)
    clear hI
    by_cases hlt : k < len
    · by_cases h60 : k < 60
      · obtain ⟨b, o, kd, at_, m, v, rfl, hblt, c0, c1, c2, c3, f1, f2, f3⟩ := HD.out k hlt
        have d0 := (HI.out.bel.cell (p := ⟨b, o + k * 4, none⟩) hblt).trans c0
        have d1 := (HI.out.bel.cell (p := ⟨b, o + k * 4 + 1, none⟩) hblt).trans c1
        have d2 := (HI.out.bel.cell (p := ⟨b, o + k * 4 + 2, none⟩) hblt).trans c2
        have d3 := (HI.out.bel.cell (p := ⟨b, o + k * 4 + 3, none⟩) hblt).trans c3
        have b1 := bounds_i64 f1
        have b2 := bounds_i64 f2
        have b3 := bounds_u64 f3
        clear c0 c1 c2 c3 f1 f2 f3
        have LT := Lib.hid (HI.out.lts)
        have HE := Lib.hid (HI.out.laid (.cells #[.int .i64 kd, .int .i64 at_, .int .i64 m, .int .u64 v] 32))
        have TA := Lib.hid (HT.out.below HE.out.bel hB)
        have XB := Lib.hid (Blk.new wr 32 #[.int .i64 kd, .int .i64 at_, .int .i64 m, .int .u64 v])
        by_cases k0 : kd = 0
        · subst k0
          go_wp2_with fail
          refine (load_any _ _ _ _ _ _ TA.out HE.out.ar).mono ?_
          rintro e w' ⟨rfl, rfl⟩
          go_wp2_with fail
          refine (rload_any _ _ _ _ _ _ _ hN HE.out.ar.byte HE.out.sl).mono ?_
          rintro e w' ⟨rfl, rfl⟩
          go_wp2
          go_roundw
          case rel => exact ⟨k + 1, g, c, f, by omega, by omega, by go_num, rfl, HE.out⟩
          case measure => simp [intOf]; omega
        by_cases k1 : kd = 1
        · subst k1
          clear k0
          go_wp2_with fail
          refine (store_any _ _ _ _ _ _ _ TA.out HE.out.ar b3.1).mono ?_
          rintro e w3 ⟨rfl, hA3, hO3⟩
          have A3 := Lib.hid hA3
          have S3 := Lib.hid (HE.out.sl.only hO3 (by have := LT.out; omega))
          have B3 := Lib.hid (HE.out.bel.trans (hO3.below hp0))
          have X3 := XB.out.only hO3 (by have := LT.out; omega)
          have hx1 := X3.cell 1
          have hx2 := X3.cell 2
          have hx3 := X3.cell 3
          have Z3 := Lib.hid hO3.size
          clear hA3 hO3 X3
          go_wp2_with fail
          refine (rstore_any _ _ _ _ _ _ _ _ hN b3.1 b3.2 (by have := Z3.out; have := LT.out; simp at *; omega) S3.out).mono ?_
          rintro e w4 ⟨g', c', rfl, hS4, hB4⟩
          have I4 : Hid (Inv w (w1.heap.size + 1) w1.heap.size N w4 g' c' (stF N f at_ v m)) := ⟨A3.out.below hB4 A3.out.head.lt A3.out.body.lt, hS4, B3.out.trans (hB4.mono B3.out.size), by omega⟩
          clear hS4 hB4
          go_wp2
          go_roundw
          case rel => exact ⟨k + 1, g', c', _, by omega, by omega, by go_num, rfl, I4.out⟩
          case measure => simp [intOf]; omega
        by_cases k2 : kd = 2
        · subst k2
          clear k0 k1
          have b4 : 0 ≤ v % 256 ∧ v % 256 ≤ 255 := by omega
          go_wp2_with fail
          refine (fill_any _ _ _ _ _ _ _ HE.out.ar b2.2 b4).mono ?_
          rintro e w3 ⟨rfl, hA3, hO3⟩
          have A3 := Lib.hid hA3
          have S3 := Lib.hid (HE.out.sl.only hO3 (by have := LT.out; omega))
          have B3 := Lib.hid (HE.out.bel.trans (hO3.below hp0))
          have X3 := XB.out.only hO3 (by have := LT.out; omega)
          have hx1 := X3.cell 1
          have hx2 := X3.cell 2
          have hx3 := X3.cell 3
          have Z3 := Lib.hid hO3.size
          clear hA3 hO3 X3
          go_wp2_with fail
          refine (rfill_any _ _ _ _ _ _ _ _ hN b2.2 (by have := Z3.out; have := LT.out; simp at *; omega) S3.out).mono ?_
          rintro e w4 ⟨g', c', rfl, hS4, hB4⟩
          have I4 : Hid (Inv w (w1.heap.size + 1) w1.heap.size N w4 g' c' (flF N f at_ m (v % 256))) := ⟨A3.out.below hB4 A3.out.head.lt A3.out.body.lt, hS4, B3.out.trans (hB4.mono B3.out.size), by omega⟩
          clear hS4 hB4
          go_wp2
          go_roundw
          case rel => exact ⟨k + 1, g', c', _, by omega, by omega, by go_num, rfl, I4.out⟩
          case measure => simp [intOf]; omega
        by_cases hfit : fits N at_ m = 0
        · obtain ⟨q1, q2, q3⟩ := fits_ok hfit
          obtain ⟨a, rfl⟩ := Int.eq_ofNat_of_zero_le q2
          obtain ⟨j, rfl⟩ := Int.eq_ofNat_of_zero_le q1
          have q4 : a + j ≤ N := by omega
          clear q1 q2 q3 hfit
          go_wp2_with fail
          refine (bytes_ok _ _ _ _ _ _ HE.out.ar q4).mono ?_
          rintro e w3 ⟨rfl, hK, hb⟩
          have K3 := Lib.hid hK
          have I3 : Hid (Inv w (w1.heap.size + 1) w1.heap.size N w3 g c f) := HE.out.more hb
          have X3 := XB.out.below hb (by simp)
          have hx1 := X3.cell 1
          have hx2 := X3.cell 2
          clear hK hb X3
          go_wp2_with fail
          refine (rbytes_ok _ _ _ _ _ hN I3.out.sl.cap q4).mono ?_
          rintro e w' ⟨rfl, rfl⟩
          have hs1 := run_string_all (w := w3) _ j j _ (fun i => I3.out.ar.byte (a + i)) K3.out
          have hs2 := run_string_part (w := w3) _ _ _ _ a j _ I3.out.ar.byte I3.out.sl q4
          simp at hs1
          go_wp2
          go_roundw
          case rel => exact ⟨k + 1, g, c, f, by omega, by omega, by go_num, rfl, I3.out⟩
          case measure => simp [intOf]; omega
        · have FB := Lib.hid hfit
          clear hfit
          go_wp2_with fail
          refine (bytes_bad _ _ _ _ _ _ HE.out.ar b2.2 FB.out).mono ?_
          rintro e w' ⟨rfl, rfl⟩
          go_wp2_with fail
          refine (rbytes_bad _ _ _ _ _ hN b2.2 FB.out).mono ?_
          rintro e w' ⟨rfl, rfl⟩
          have hs := fun w => run_string_nil (w := w)
          go_wp2
          go_roundw
          case rel => exact ⟨k + 1, g, c, f, by omega, by omega, by go_num, rfl, HE.out⟩
          case measure => simp [intOf]; omega
      · go_wp2_with fail
        refine (bytes_all _ _ _ _ HI.out.ar).mono ?_
        rintro e w3 ⟨rfl, hK, hb⟩
        have I3 : Hid (Inv w (w1.heap.size + 1) w1.heap.size N w3 g c f) := HI.out.more hb
        have hs1 := run_string_all (w := w3) _ N N _ I3.out.ar.byte hK
        have hs2 := run_string_cells (w := w3) g 0 N c f I3.out.ar.byte (fun i hi => by rw [Nat.zero_add]; exact I3.out.sl.cell i hi)
        clear hK hb
        go_wp2
        go_ret
        exact ⟨rfl, I3.out.bel⟩
    · go_wp2_with fail
      refine (bytes_all _ _ _ _ HI.out.ar).mono ?_
      rintro e w3 ⟨rfl, hK, hb⟩
      have I3 : Hid (Inv w (w1.heap.size + 1) w1.heap.size N w3 g c f) := HI.out.more hb
      have hs1 := run_string_all (w := w3) _ N N _ I3.out.ar.byte hK
      have hs2 := run_string_cells (w := w3) g 0 N c f I3.out.ar.byte (fun i hi => by rw [Nat.zero_add]; exact I3.out.sl.cell i hi)
      clear hK hb
      go_wp2
      go_ret
      exact ⟨rfl, I3.out.bel⟩
end Go.Proofs.YtbdnijpbgbplaaaDoor
