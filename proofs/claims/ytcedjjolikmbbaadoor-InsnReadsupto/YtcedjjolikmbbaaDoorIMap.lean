/- The contract of firstWords: the map of the first words. Condition: the tables lie in their blocks. -/
import Derived.Test.YtcedjjolikmbbaaDoorIReader
import Derived.Maps.OwnSet
import Derived.Maps.Views
namespace Go.Proofs.YtcedjjolikmbbaaDoor
open Go.RowKit Go.Maps Go.WideMaps
set_option maxRecDepth 100000
set_option maxHeartbeats 4000000

theorem lawS : Keyed Tryd.prog 9 := string_keyed Tryd.underlying9
theorem zeroN (w : World) : (zeroValue 24).run Tryd.prog w = .ok (iv in0) w := by kernel_rfl
def kL (s : List UInt8) : Lit := .string s
theorem kL_of {s : List UInt8} (h : s.length ≤ 4294967295) : keyOf Tryd.prog 9 (.string (st s)) = some (kL s) := by
  have := keyOf_string_mk (P := Tryd.prog) (s := st s) Tryd.underlying9 (by rw [st_size]; unfold maxLen; omega)
  rw [st_data] at this
  exact this
theorem kL_key (s : List UInt8) : WideAt.IsKeyLit (kL s) := by unfold kL; simp [WideAt.IsKeyLit]
theorem kL_inj {a b : List UInt8} (h : kL a = kL b) : a = b := by unfold kL at h; injection h
/-- An instruction as a datum. -/
def inD (i : In) : DataW Unit := .agg [.lit (.int .u8 i.op), .lit (.int .u8 i.a), .lit (.int .u8 i.b), .lit (.int .u8 i.c), .lit (.int .u32 i.im)]
open Classical in
noncomputable def inE (v : Value) : Option (DataW Unit × List MemPlace) := if h : ∃ i : In, v = iv i then some (inD h.choose, []) else none
theorem iv_inj {i j : In} (h : iv i = iv j) : i = j := by
  obtain ⟨a, b, c, d, e⟩ := i
  obtain ⟨a', b', c', d', e'⟩ := j
  simp [iv] at h
  obtain ⟨h1, h2, h3, h4, h5⟩ := h
  simp
  omega
theorem inD_inj {i j : In} (h : inD i = inD j) : i = j := by
  obtain ⟨a, b, c, d, e⟩ := i
  obtain ⟨a', b', c', d', e'⟩ := j
  simp [inD] at h
  obtain ⟨h1, h2, h3, h4, h5⟩ := h
  simp
  omega
theorem inE_mk (i : In) : inE (iv i) = some (inD i, []) := by
  have h : ∃ j : In, iv i = iv j := ⟨i, rfl⟩
  unfold inE
  rw [dif_pos h, ← iv_inj h.choose_spec]
theorem inE_inv {v : Value} {i : In} {ps : List MemPlace} (h : inE v = some (inD i, ps)) : v = iv i := by
  unfold inE at h
  split at h
  · rename_i hx
    simp only [Option.some.injEq, Prod.mk.injEq] at h
    rw [hx.choose_spec, inD_inj h.1]
  · cases h
/-- The map's datum holds the words of l. -/
structure Fm (D : DataW Unit) (l : List (List UInt8 × In)) : Prop where
  map : IsMap D
  has : ∀ s, Maps.has D (kL s) = (lk l s).isSome
  at_ : ∀ s, D.atKey (kL s) (inD in0) = inD ((lk l s).getD in0)
theorem Fm.nil : Fm (.map []) [] := ⟨by simp [IsMap], fun s => by simp [Maps.has, lk], fun s => by simp [DataW.atKey, lk]⟩
theorem Fm.put {D : DataW Unit} {l : List (List UInt8 × In)} (h : Fm D l) (k : List UInt8) (i : In) : Fm (D.put (kL k) (inD i)) ((k, i) :: l) := by
  refine ⟨h.map.put _ _, fun s => ?_, fun s => ?_⟩
  · by_cases e : s = k
    · subst e
      rw [has_put_same h.map (kL_key s)]
      simp [lk]
    · rw [has_put_other (fun e2 => e (kL_inj e2)), h.has]
      simp [lk, show (k == s) = false from by simp; exact fun e2 => e e2.symm]
  · by_cases e : s = k
    · subst e
      rw [atKey_put_same h.map (kL_key s)]
      simp [lk]
    · rw [atKey_put_other (fun e2 => e (kL_inj e2)), h.at_]
      simp [lk, show (k == s) = false from by simp; exact fun e2 => e e2.symm]
theorem feC_step {op c : Nat} (h : c ≠ 0) : feC op (c + 1) = fe op c :: feC op c := by
  rw [feC, if_neg h]
theorem feP_step {op : Nat} (h : op ≠ 0) : feP (op + 1) = feN op ++ feP op := by
  rw [feP, if_neg h]
theorem grown_blk {w w' : World} {b g : Nat} {t : TypeId} {cs : Array Value} (h : Blk w g t cs) (hg : w.grownBy w' (some b)) (hne : g ≠ b) : Blk w' g t cs := (hg.block g h.lt (by simpa using hne)).trans h
theorem grown_only {w w' : World} {g : Nat} (h : Only g w w') : w.grownBy w' (some g) := ⟨h.os, h.tape, h.output, Nat.le_of_eq h.size.symm, fun k _ hk => h.block k (by simpa using hk)⟩
theorem row_fw {op p0 f0 c : Nat} {r : List (Nat × Nat)} (ho : op ≤ 15) (hr : rowN op = (p0, f0) :: r) (hf : fwF f0 = true) (hc : c ≤ highN f0) : fwOk ⟨op, 0, 0, c, 0⟩ := by
  have hf' : f0 = 7 ∨ f0 = 8 := by simpa [fwF] using hf
  refine ⟨by simp only; omega, ?_, ?_⟩
  · intro h
    simp only at h ⊢
    have e : f0 = 7 := by rcases h with rfl | rfl <;> (simp [rowN, rowsN] at hr; omega)
    subst e
    have : highN 7 = 11 := rfl
    omega
  · intro h
    simp only at h ⊢
    have e : f0 = 8 := by rcases h with rfl | rfl <;> (simp [rowN, rowsN] at hr; omega)
    subst e
    have : highN 8 = 9 := rfl
    omega
theorem grown_of {w w' : World} {B : Nat} (h : Below B w w') (hB : w.heap.size ≤ B := by exact Nat.le_refl _) : w.grownBy w' none := ⟨h.os, h.tape, h.output, h.size, fun k hk _ => h.block k (Nat.lt_of_lt_of_le hk hB)⟩
section
variable {w : World}
theorem firstWords_any (T : Hid (Tabs w)) : Calls Tryd.prog 34 #[] w fun e w' => (∃ b n D, e = .returned (.map (some b)) ∧ w'.ownsMap Tryd.prog 9 inE b n D ∧ Fm D (feP 16)) ∧ Below w.heap.size w w' := by
  have hmm := @run_makeMap Tryd.prog
  have b0 : 0 < w.heap.size := by have := T.out.size; omega
  have b5 : 5 < w.heap.size := by have := T.out.size; omega
  go_enter Tryd.func34, Tryd.ntmps34
  go_wp2_with fail
  go_loopw [2] (fun k wr => ∃ (op n : Nat) (D : DataW Unit), 1 ≤ op ∧ op ≤ 16 ∧ n ≤ 30 * op ∧ k = .int .u8 op ∧ Hid (Fm D (feP op)) ∧ Hid (wr.ownsMap Tryd.prog 9 inE w.heap.size n D) ∧ Hid (Below w.heap.size w wr)) (fun k _ => 16 - (intOf k).toNat)
  case atStart => exact ⟨1, 0, .map [], by omega, by omega, by omega, rfl, Fm.nil, World.ownsMap_made w _ _ _, (Below.refl _ _).alloc (Nat.le_refl _) _⟩
  case round =>
    obtain ⟨op, n, D, h1, h2, hn, rfl, HF, HO, HW⟩ := hrel
    by_cases hop : op ≤ 15
    · have hop' : (op : Int) ≤ 15 := by omega
      have q1 : (op : Int) < 16 := by omega
      have wj : IntKind.u8.wrap ((op : Int) + 1) = ((op + 1 : Nat) : Int) := by rw [show (op : Int) + 1 = ((op + 1 : Nat) : Int) by omega]; exact w8i _ (by omega)
      obtain ⟨p0, f0, p1, f1, p2, f2, p3, f3, HR, ⟨y0, z0, y1, z1, y2, z2, y3, z3⟩, r0, s0, r1, s1, r2, s2, r3, s3⟩ := (T.out.out HW.out).row op (by omega)
      clear r0 r1 s1 r2 s2 r3 s3 y0 y1 z1 y2 z2 y3 z3
      have hws := HW.out.size
      have b0' : 0 < wr.heap.size := by omega
      have b5' : 5 < wr.heap.size := by omega
      have hb : w.heap.size < wr.heap.size := HO.out.lt
      obtain ⟨w1, hw1⟩ : ∃ w1, w1 = wr.alloc (Obj.cells #[.int .u8 (op : Int), .int .u8 0, .int .u8 0, .int .u8 0, .int .u32 0] 24) := ⟨_, rfl⟩
      have K1 := Lib.hid (show Blk w1 wr.heap.size 24 #[.int .u8 (op : Int), .int .u8 0, .int .u8 0, .int .u8 0, .int .u32 0] by rw [hw1]; exact Blk.new _ _ _)
      have X1 := Lib.hid (show Below w.heap.size w w1 by rw [hw1]; exact HW.out.alloc hws _)
      have SZ := Lib.hid (show w1.heap.size = wr.heap.size + 1 by rw [hw1]; simp)
      have O1 := Lib.hid (show w1.ownsMap Tryd.prog 9 inE w.heap.size n D by rw [hw1]; exact HO.out.alloc _)
      have HW1 := Lib.hid hw1
      have T1 := Lib.hid (T.out.out X1.out)
      clear hw1
      have FN := Lib.hid (show feN op = if fwF f0 = true then feC op (highN f0 + 1) else [fe op 0] by unfold feN; rw [HR.out]; rfl)
      cases hff : fwF f0
      · have HFF := Lib.hid hff
        have FN1 := Lib.hid (show feP (op + 1) = fe op 0 :: feP op by rw [feP_step (by omega), FN.out, hff]; rfl)
        have HK := Lib.hid (show fwOk ⟨op, 0, 0, 0, 0⟩ by refine ⟨by simp only; omega, fun _ => by simp, fun _ => by simp⟩)
        have HKEY := Lib.hid (kL_of (s := fw ⟨op, 0, 0, 0, 0⟩) (by have := fw_len ⟨op, 0, 0, 0, 0⟩; omega))
        have SS1 := Lib.hid (five K1.out)
        have g3 := K1.out.lt
        clear hff
        go_wp2_with (go_at_call 40; rw [← HW1.out]; refine (inFirst_any f0).mono ?_; rintro e w2 ⟨rfl, rfl⟩; rw [HFF.out])
        go_region_held3 (fun w' => w'.cell? ⟨wr.heap.size, 0, none⟩ = some (.int .u8 (op : Int)) ∧ w'.cell? ⟨wr.heap.size, 1, none⟩ = some (.int .u8 0) ∧ w'.cell? ⟨wr.heap.size, 2, none⟩ = some (.int .u8 0) ∧ w'.cell? ⟨wr.heap.size, 3, none⟩ = some (.int .u8 0) ∧ w'.cell? ⟨wr.heap.size, 4, none⟩ = some (.int .u32 0)) (first | exact SS1.out | (with_reducible exact SS2.out) | (with_reducible exact SS3.out) | go_keep) (first
          | (go_at_call 22; (refine (firstWord_any (Lib.hid (T.out.out (Below.drew X1.out))) ⟨op, 0, 0, 0, 0⟩ HK.out).mono ?_); rintro e w3 ⟨rfl, hb3⟩; have K3 := Lib.hid (K1.out.below ((Below.drew (Below.refl _ _)).trans hb3) g3); have SS2 := Lib.hid (five K3.out); have X3 := Lib.hid ((Below.drew X1.out).trans (hb3.mono X1.out.size)); have O3 := Lib.hid (O1.out.kept (row := none) (grown_of ((Below.drew (Below.refl _ _)).trans hb3)) (by simp)); obtain ⟨w4, hrun, ho4, hg4⟩ := O3.out.update lawS Tryd.underlying68 (by unfold maxLen; omega) HKEY.out (inE_mk ⟨op, 0, 0, 0, 0⟩); have hrun2 : (Instr.mapUpdate 68 (.map (some w.heap.size)) (.string (st (fw ⟨op, 0, 0, 0, 0⟩))) (.agg #[.int .u8 (op : Int), .int .u8 0, .int .u8 0, .int .u8 0, .int .u32 0])).run Tryd.prog w3 = .ok () w4 := hrun; clear hrun; have O4 := Lib.hid ho4; have X4 := Lib.hid (X3.out.grown hg4 X3.out.size (fun k hk => by simp at hk; omega)); have SS3 := Lib.hid (five (grown_blk K3.out hg4 (by omega))); clear ho4 hg4 hb3; unfold sv))
        go_wp2_with fail
        go_roundw
        case rel => exact ⟨op + 1, n + 1, _, by omega, by omega, by omega, by first | rfl | go_num, (by rw [FN1.out]; exact HF.out.put _ _), O4.out, X4.out⟩
        case measure => simp [intOf]; omega
      · have HFF := Lib.hid hff
        obtain ⟨e0, e1, e2⟩ := (T.out.out HW.out).forms f0 z0
        have hlo : lowN f0 = 1 := by
          simp [fwF] at hff
          rcases hff with rfl | rfl <;> rfl
        have hhi : highN f0 ≤ 11 := by
          simp [fwF] at hff
          rcases hff with rfl | rfl <;> decide
        have FK := Lib.hid fun (c : Nat) (hc : c ≤ highN f0) => row_fw (by omega) HR.out hff hc
        have FN1 := Lib.hid (show feP (op + 1) = feC op (highN f0 + 1) ++ feP op by rw [feP_step (by omega), FN.out, if_pos hff])
        have z0' : (f0 : Int) < 10 := by omega
        rw [hlo] at e0
        clear hff e2 hlo
        generalize highN f0 = H at e1 hhi FK FN1
        have E1 := Lib.hid (show wr.cell? ⟨5, f0 * 3 + 1, none⟩ = some (.int .u32 (H : Int)) from e1)
        go_wp2_with (go_at_call 40; rw [← HW1.out]; refine (inFirst_any f0).mono ?_; rintro e w2 ⟨rfl, rfl⟩; rw [HFF.out]; have e0' := ((show Below wr.heap.size wr w2 by rw [HW1.out]; go_grown).cell (p := ⟨5, f0 * 3, none⟩) b5').trans e0)
        have V1 := Lib.hid (show Below wr.heap.size wr w2 by rw [HW1.out]; go_grown)
        clear e0 e0' e1
        obtain ⟨g, hg⟩ : ∃ g, wr.heap.size = g := ⟨_, rfl⟩
        rw [hg] at K1 ⊢
        have hgb : w.heap.size < g := by omega
        replace hg := Lib.hid hg
        go_loopw [5] (fun k wr => ∃ (c m : Nat) (D : DataW Unit) (cv : Int), 1 ≤ c ∧ c ≤ H + 1 ∧ m ≤ 30 * op + c ∧ k = .int .u32 c ∧ Hid (Fm D (feC op c ++ feP op)) ∧ Hid (wr.ownsMap Tryd.prog 9 inE w.heap.size m D) ∧ Hid (Blk wr g 24 #[.int .u8 (op : Int), .int .u8 0, .int .u8 0, .int .u8 cv, .int .u32 0]) ∧ Hid (Below w.heap.size w wr)) (fun k _ => 40 - (intOf k).toNat)
        case atStart => exact ⟨1, n, D, 0, by omega, by omega, by omega, rfl, HF.out, O1.out, K1.out, X1.out⟩
        case round =>
          obtain ⟨c, m, D, cv, hc1, hc2, hm, rfl, HF, HO, KQ, HQ⟩ := hrel
          have e1 := (HQ.out.cell (p := ⟨5, f0 * 3 + 1, none⟩) b5).trans ((HW.out.cell (p := ⟨5, f0 * 3 + 1, none⟩) b5).symm.trans E1.out)
          have g3 := KQ.out.lt
          have hbq : w.heap.size < wr.heap.size := HO.out.lt
          have b5q : 5 < wr.heap.size := by omega
          by_cases hch : c ≤ H
          · have hch' : (c : Int) ≤ H := by omega
            have wc := w8i c (by omega)
            have wj2 : IntKind.u32.wrap ((c : Int) + 1) = ((c + 1 : Nat) : Int) := by rw [show (c : Int) + 1 = ((c + 1 : Nat) : Int) by omega]; exact w32 _ (by omega)
            have kc := KQ.out.cell 3
            have kf := KQ.out.frozen 3
            simp at kc
            obtain ⟨w5, hw5⟩ : ∃ w5, w5 = wr.setCell ⟨g, 3, none⟩ (.int .u8 (c : Int)) := ⟨_, rfl⟩
            have K5 := Lib.hid (show Blk w5 g 24 #[.int .u8 (op : Int), .int .u8 0, .int .u8 0, .int .u8 (c : Int), .int .u32 0] by rw [hw5]; exact KQ.out.put 3 _)
            have X5 := Lib.hid (show Below w.heap.size w w5 by rw [hw5]; exact HQ.out.setCell (by show w.heap.size ≤ g; omega) _)
            have O5 := Lib.hid (show w5.ownsMap Tryd.prog 9 inE w.heap.size m D by rw [hw5]; exact HO.out.kept (row := some g) (grown_only (Only.setCellAt _ _ _ _)) (by simp; omega))
            have HW5 := Lib.hid hw5
            have HK := Lib.hid (FK.out c hch)
            have HKEY := Lib.hid (kL_of (s := fw ⟨op, 0, 0, c, 0⟩) (by have := fw_len ⟨op, 0, 0, c, 0⟩; omega))
            have FC := Lib.hid (show feC op (c + 1) = fe op c :: feC op c from feC_step (by omega))
            have SS1 := Lib.hid (five K5.out)
            have g5 := K5.out.lt
            clear hw5
            go_wp2_with fail
            rw [← HW5.out]
            go_region_held3 (fun w' => w'.cell? ⟨g, 0, none⟩ = some (.int .u8 (op : Int)) ∧ w'.cell? ⟨g, 1, none⟩ = some (.int .u8 0) ∧ w'.cell? ⟨g, 2, none⟩ = some (.int .u8 0) ∧ w'.cell? ⟨g, 3, none⟩ = some (.int .u8 (c : Int)) ∧ w'.cell? ⟨g, 4, none⟩ = some (.int .u32 0)) (first | exact SS1.out | (with_reducible exact SS2.out) | (with_reducible exact SS3.out) | go_keep) (first
              | (go_at_call 22; (refine (firstWord_any (Lib.hid (T.out.out (Below.drew X5.out))) ⟨op, 0, 0, c, 0⟩ HK.out).mono ?_); rintro e w6 ⟨rfl, hb6⟩; have K6 := Lib.hid (K5.out.below ((Below.drew (Below.refl _ _)).trans hb6) g5); have SS2 := Lib.hid (five K6.out); have X6 := Lib.hid ((Below.drew X5.out).trans (hb6.mono X5.out.size)); have O6 := Lib.hid (O5.out.kept (row := none) (grown_of ((Below.drew (Below.refl _ _)).trans hb6)) (by simp)); obtain ⟨w7, hrun, ho7, hg7⟩ := O6.out.update lawS Tryd.underlying68 (by unfold maxLen; omega) HKEY.out (inE_mk ⟨op, 0, 0, c, 0⟩); have hrun2 : (Instr.mapUpdate 68 (.map (some w.heap.size)) (.string (st (fw ⟨op, 0, 0, c, 0⟩))) (.agg #[.int .u8 (op : Int), .int .u8 0, .int .u8 0, .int .u8 (c : Int), .int .u32 0])).run Tryd.prog w6 = .ok () w7 := hrun; clear hrun; have O7 := Lib.hid ho7; have X7 := Lib.hid (X6.out.grown hg7 X6.out.size (fun k hk => by simp at hk; omega)); have K7 := Lib.hid (grown_blk K6.out hg7 (by omega)); have SS3 := Lib.hid (five K7.out); clear ho7 hg7 hb6; unfold sv))
            go_wp2_with fail
            go_roundw
            case rel => exact ⟨c + 1, m + 1, _, (c : Int), by omega, by omega, by omega, by first | rfl | go_num, Lib.hid (by rw [FC.out]; exact HF.out.put _ _), O7.out, K7.out, X7.out⟩
            case measure => simp [intOf]; omega
          · obtain rfl : c = H + 1 := by omega
            go_wp2_with fail
            go_roundw
            case rel => exact ⟨op + 1, m, D, by omega, by omega, by omega, by first | rfl | go_num, Lib.hid (by rw [FN1.out]; exact HF.out), HO.out, HQ.out⟩
            case measure => simp [intOf]; omega
    · obtain rfl : op = 16 := by omega
      go_wp2_with fail
      go_ret
      exact ⟨⟨_, _, _, rfl, HO.out, HF.out⟩, HW.out⟩
end
end Go.Proofs.YtcedjjolikmbbaaDoor
