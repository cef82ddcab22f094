/- The contract of checkField. Condition: the types can be read. -/
import Derived.Test.YtnkjlocjfljjlaaTTarget
namespace Go.Proofs.Ytnkjlocjfljjlaa
open Go.RowKit
set_option maxRecDepth 100000
set_option maxHeartbeats 4000000
section
variable {w : World}
theorem checkField_any (A : Option Addr) (n cap : Nat) (ts : List Ty) (h : Lt w A n cap ts) (t : Ty) (FS : Value) (f : Fd) (hok : f.ok) (g : Nat) (hg : g < w.heap.size) (hc : w.cell? ⟨g, 0, none⟩ = some (.slice A n cap)) :
    Calls Try.prog 42 #[.agg #[.string t.name, .bool t.value, .bool t.refs, FS], fv f, .func (.func 22) #[] #[.pointer (some ⟨g, 0, none⟩)]] w fun e w' => e = .returned (.int .i64 (fdE ts t.value f : Nat)) ∧ Below w.heap.size w w' := by
  cases hb : bel t.value f
  case false =>
    have HF := Lib.hid (fdE_bel (ts := ts) hb)
    have HB := Lib.hid hb
    clear hb
    obtain ⟨kd, ln, ty, lk, ky⟩ := f
    unfold fv
    go_enter Try.func42, Try.ntmps42
    go_wp2_with (go_at_call 54; refine (belongs_any t FS ⟨kd, ln, ty, lk, ky⟩ hok).mono ?_; rintro e w1 ⟨rfl, hb⟩; rw [HB.out]; have HW := Lib.hid (show Below w.heap.size w w1 from Below.trans (by (repeat' (first | exact Below.refl _ _ | assumption | (refine Below.alloc ?_ (by (try simp) <;> omega) _)))) (hb.mono (by simp <;> omega))); clear hb)
    go_ret
    rw [HF.out]
    exact ⟨rfl, HW.out⟩
  case true =>
    have HB := Lib.hid hb
    clear hb
    obtain ⟨kd, ln, ty, lk, ky⟩ := f
    unfold fv
    have H := Lib.hid h
    have hle := h.le
    have hmx := h.max
    have HC := Lib.hid hc
    clear h hc
    rcases kinds kd with rfl | rfl | rfl | rfl | rfl | rfl | rfl | ⟨n1, n2, n3, n4, n5, n6, n7⟩
    · have HE := Lib.hid (show fdE ts t.value ⟨1, ln, ty, lk, ky⟩ = if lenF ⟨1, ln, ty, lk, ky⟩ = true then 0 else 4 from fdE_one HB.out rfl)
      cases hl : lenF ⟨1, ln, ty, lk, ky⟩
      case' false => have HF := Lib.hid (show fdE ts t.value ⟨1, ln, ty, lk, ky⟩ = 4 by rw [HE.out, hl]; rfl)
      case' true => have HF := Lib.hid (show fdE ts t.value ⟨1, ln, ty, lk, ky⟩ = 0 by rw [HE.out, hl]; rfl)
      all_goals
        have HL := Lib.hid hl
        clear hl
        go_enter Try.func42, Try.ntmps42
        go_wp2_with (go_at_call 54; refine (belongs_any t FS ⟨1, ln, ty, lk, ky⟩ hok).mono ?_; rintro e w1 ⟨rfl, hb⟩; rw [HB.out]; have d0 := hb.cell (p := ⟨w.heap.size + 1, 0, none⟩) (by simp); have d1 := hb.cell (p := ⟨w.heap.size + 1, 1, none⟩) (by simp); have d2 := hb.cell (p := ⟨w.heap.size + 1, 2, none⟩) (by simp); have d3 := hb.cell (p := ⟨w.heap.size + 1, 3, none⟩) (by simp); have d4 := hb.cell (p := ⟨w.heap.size + 1, 4, none⟩) (by simp); simp at d0 d1 d2 d3 d4; have HW := Lib.hid (show Below w.heap.size w w1 from Below.trans (by (repeat' (first | exact Below.refl _ _ | assumption | (refine Below.alloc ?_ (by (try simp) <;> omega) _)))) (hb.mono (by simp <;> omega))); have hs1 : w.heap.size + 2 ≤ w1.heap.size := (by simpa using hb.size); clear hb)
        go_wp2_with (go_at_call 47; refine (lenFits_any ⟨1, ln, ty, lk, ky⟩).mono ?_; rintro e w2 ⟨rfl, hb⟩; rw [HL.out]; have HW2 := Lib.hid (HW.out.trans (hb.mono (by omega))); clear hb)
        go_ret
        rw [HF.out]
        exact ⟨rfl, HW2.out⟩
    · have HE := Lib.hid (show fdE ts t.value ⟨2, ln, ty, lk, ky⟩ = match tgt ts ty with | none => 4 | some u => if lead ⟨2, ln, ty, lk, ky⟩ u = true then 0 else 7 from fdE_tgt HB.out (by simp))
      cases ht : tgt ts ty with
      | none =>
        have HF := Lib.hid (show fdE ts t.value ⟨2, ln, ty, lk, ky⟩ = 4 by rw [HE.out, ht])
        have HT := Lib.hid ht
        clear ht
        go_enter Try.func42, Try.ntmps42
        go_wp2_with (go_at_call 54; refine (belongs_any t FS ⟨2, ln, ty, lk, ky⟩ hok).mono ?_; rintro e w1 ⟨rfl, hb⟩; rw [HB.out]; have d0 := hb.cell (p := ⟨w.heap.size + 1, 0, none⟩) (by simp); have d1 := hb.cell (p := ⟨w.heap.size + 1, 1, none⟩) (by simp); have d2 := hb.cell (p := ⟨w.heap.size + 1, 2, none⟩) (by simp); have d3 := hb.cell (p := ⟨w.heap.size + 1, 3, none⟩) (by simp); have d4 := hb.cell (p := ⟨w.heap.size + 1, 4, none⟩) (by simp); simp at d0 d1 d2 d3 d4; have HW := Lib.hid (show Below w.heap.size w w1 from Below.trans (by (repeat' (first | exact Below.refl _ _ | assumption | (refine Below.alloc ?_ (by (try simp) <;> omega) _)))) (hb.mono (by simp <;> omega))); have hs1 : w.heap.size + 2 ≤ w1.heap.size := (by simpa using hb.size); clear hb)
        go_wp2_with (go_at_call 22; refine (target_no A n cap ts (H.out.below HW.out (Nat.le_refl _)) ⟨2, ln, ty, lk, ky⟩ g (by omega) ((HW.out.cell (p := ⟨g, 0, none⟩) hg).trans HC.out) HT.out).mono ?_; rintro e w2 ⟨rfl, hb⟩; have HW2 := Lib.hid (HW.out.trans (hb.mono (by omega))); have hs2 := hb.size; clear hb)
        go_ret
        rw [HF.out]
        refine ⟨rfl, HW2.out.alloc (by omega) _⟩
      | some u =>
        have HT := Lib.hid ht
        obtain ⟨un, uv, ur, uf⟩ := u
        cases hl : lead ⟨2, ln, ty, lk, ky⟩ ⟨un, uv, ur, uf⟩
        case' false => have HF := Lib.hid (show fdE ts t.value ⟨2, ln, ty, lk, ky⟩ = 7 by rw [HE.out, ht]; simp [hl])
        case' true => have HF := Lib.hid (show fdE ts t.value ⟨2, ln, ty, lk, ky⟩ = 0 by rw [HE.out, ht]; simp [hl])
        all_goals
          have HL := Lib.hid hl
          clear hl ht
          go_enter Try.func42, Try.ntmps42
          go_wp2_with (go_at_call 54; refine (belongs_any t FS ⟨2, ln, ty, lk, ky⟩ hok).mono ?_; rintro e w1 ⟨rfl, hb⟩; rw [HB.out]; have d0 := hb.cell (p := ⟨w.heap.size + 1, 0, none⟩) (by simp); have d1 := hb.cell (p := ⟨w.heap.size + 1, 1, none⟩) (by simp); have d2 := hb.cell (p := ⟨w.heap.size + 1, 2, none⟩) (by simp); have d3 := hb.cell (p := ⟨w.heap.size + 1, 3, none⟩) (by simp); have d4 := hb.cell (p := ⟨w.heap.size + 1, 4, none⟩) (by simp); simp at d0 d1 d2 d3 d4; have HW := Lib.hid (show Below w.heap.size w w1 from Below.trans (by (repeat' (first | exact Below.refl _ _ | assumption | (refine Below.alloc ?_ (by (try simp) <;> omega) _)))) (hb.mono (by simp <;> omega))); have hs1 : w.heap.size + 2 ≤ w1.heap.size := (by simpa using hb.size); clear hb)
          go_wp2_with (go_at_call 22; refine (target_ok A n cap ts (H.out.below HW.out (Nat.le_refl _)) ⟨2, ln, ty, lk, ky⟩ g (by omega) ((HW.out.cell (p := ⟨g, 0, none⟩) hg).trans HC.out) ⟨un, uv, ur, uf⟩ HT.out).mono ?_; rintro e w2 ⟨FA, fk, fc, rfl, hf, hb⟩; have hb3 := hb.alloc hb.size (Obj.cells #[.string un, .bool uv, .bool ur, .slice FA fk fc] 32); have q0 := (hb3.cell (p := ⟨w.heap.size + 1, 0, none⟩) (by simp only; omega)).trans d0; have q1 := (hb3.cell (p := ⟨w.heap.size + 1, 1, none⟩) (by simp only; omega)).trans d1; have q2 := (hb3.cell (p := ⟨w.heap.size + 1, 2, none⟩) (by simp only; omega)).trans d2; have q3 := (hb3.cell (p := ⟨w.heap.size + 1, 3, none⟩) (by simp only; omega)).trans d3; have q4 := (hb3.cell (p := ⟨w.heap.size + 1, 4, none⟩) (by simp only; omega)).trans d4; have HFF := Lib.hid (hf.below hb (Nat.le_refl _)); have HW2 := Lib.hid (HW.out.trans (hb.mono (by omega))); have hs2 := hb.size; clear hb hf hb3)
          go_wp2_with (go_at_call 55; refine (leadsTo_any ⟨2, ln, ty, lk, ky⟩ ⟨un, uv, ur, uf⟩ FA fk fc (HFF.out.below ((Below.refl _ w2).alloc (Nat.le_refl _) _) (Nat.le_refl _))).mono ?_; rintro e w3 ⟨rfl, hb⟩; rw [HL.out]; have HW3 := Lib.hid ((HW2.out.alloc (by omega) _).trans (hb.mono (by simp; omega))); clear hb)
          go_ret
          rw [HF.out]
          exact ⟨rfl, HW3.out⟩
    · have HF := Lib.hid (show fdE ts t.value ⟨3, ln, ty, lk, ky⟩ = 0 from fdE_else HB.out (by simp))
      go_enter Try.func42, Try.ntmps42
      go_wp2_with (go_at_call 54; refine (belongs_any t FS ⟨3, ln, ty, lk, ky⟩ hok).mono ?_; rintro e w1 ⟨rfl, hb⟩; rw [HB.out]; have d0 := hb.cell (p := ⟨w.heap.size + 1, 0, none⟩) (by simp); have d1 := hb.cell (p := ⟨w.heap.size + 1, 1, none⟩) (by simp); have d2 := hb.cell (p := ⟨w.heap.size + 1, 2, none⟩) (by simp); have d3 := hb.cell (p := ⟨w.heap.size + 1, 3, none⟩) (by simp); have d4 := hb.cell (p := ⟨w.heap.size + 1, 4, none⟩) (by simp); simp at d0 d1 d2 d3 d4; have HW := Lib.hid (show Below w.heap.size w w1 from Below.trans (by (repeat' (first | exact Below.refl _ _ | assumption | (refine Below.alloc ?_ (by (try simp) <;> omega) _)))) (hb.mono (by simp <;> omega))); have hs1 : w.heap.size + 2 ≤ w1.heap.size := (by simpa using hb.size); clear hb)
      go_ret
      rw [HF.out]
      exact ⟨rfl, HW.out⟩
    · have HF := Lib.hid (show fdE ts t.value ⟨4, ln, ty, lk, ky⟩ = 0 from fdE_else HB.out (by simp))
      go_enter Try.func42, Try.ntmps42
      go_wp2_with (go_at_call 54; refine (belongs_any t FS ⟨4, ln, ty, lk, ky⟩ hok).mono ?_; rintro e w1 ⟨rfl, hb⟩; rw [HB.out]; have d0 := hb.cell (p := ⟨w.heap.size + 1, 0, none⟩) (by simp); have d1 := hb.cell (p := ⟨w.heap.size + 1, 1, none⟩) (by simp); have d2 := hb.cell (p := ⟨w.heap.size + 1, 2, none⟩) (by simp); have d3 := hb.cell (p := ⟨w.heap.size + 1, 3, none⟩) (by simp); have d4 := hb.cell (p := ⟨w.heap.size + 1, 4, none⟩) (by simp); simp at d0 d1 d2 d3 d4; have HW := Lib.hid (show Below w.heap.size w w1 from Below.trans (by (repeat' (first | exact Below.refl _ _ | assumption | (refine Below.alloc ?_ (by (try simp) <;> omega) _)))) (hb.mono (by simp <;> omega))); have hs1 : w.heap.size + 2 ≤ w1.heap.size := (by simpa using hb.size); clear hb)
      go_ret
      rw [HF.out]
      exact ⟨rfl, HW.out⟩
    · have HE := Lib.hid (show fdE ts t.value ⟨5, ln, ty, lk, ky⟩ = match tgt ts ty with | none => 4 | some u => if lead ⟨5, ln, ty, lk, ky⟩ u = true then 0 else 7 from fdE_tgt HB.out (by simp))
      cases ht : tgt ts ty with
      | none =>
        have HF := Lib.hid (show fdE ts t.value ⟨5, ln, ty, lk, ky⟩ = 4 by rw [HE.out, ht])
        have HT := Lib.hid ht
        clear ht
        go_enter Try.func42, Try.ntmps42
        go_wp2_with (go_at_call 54; refine (belongs_any t FS ⟨5, ln, ty, lk, ky⟩ hok).mono ?_; rintro e w1 ⟨rfl, hb⟩; rw [HB.out]; have d0 := hb.cell (p := ⟨w.heap.size + 1, 0, none⟩) (by simp); have d1 := hb.cell (p := ⟨w.heap.size + 1, 1, none⟩) (by simp); have d2 := hb.cell (p := ⟨w.heap.size + 1, 2, none⟩) (by simp); have d3 := hb.cell (p := ⟨w.heap.size + 1, 3, none⟩) (by simp); have d4 := hb.cell (p := ⟨w.heap.size + 1, 4, none⟩) (by simp); simp at d0 d1 d2 d3 d4; have HW := Lib.hid (show Below w.heap.size w w1 from Below.trans (by (repeat' (first | exact Below.refl _ _ | assumption | (refine Below.alloc ?_ (by (try simp) <;> omega) _)))) (hb.mono (by simp <;> omega))); have hs1 : w.heap.size + 2 ≤ w1.heap.size := (by simpa using hb.size); clear hb)
        go_wp2_with (go_at_call 22; refine (target_no A n cap ts (H.out.below HW.out (Nat.le_refl _)) ⟨5, ln, ty, lk, ky⟩ g (by omega) ((HW.out.cell (p := ⟨g, 0, none⟩) hg).trans HC.out) HT.out).mono ?_; rintro e w2 ⟨rfl, hb⟩; have HW2 := Lib.hid (HW.out.trans (hb.mono (by omega))); have hs2 := hb.size; clear hb)
        go_ret
        rw [HF.out]
        refine ⟨rfl, HW2.out.alloc (by omega) _⟩
      | some u =>
        have HT := Lib.hid ht
        obtain ⟨un, uv, ur, uf⟩ := u
        cases hl : lead ⟨5, ln, ty, lk, ky⟩ ⟨un, uv, ur, uf⟩
        case' false => have HF := Lib.hid (show fdE ts t.value ⟨5, ln, ty, lk, ky⟩ = 7 by rw [HE.out, ht]; simp [hl])
        case' true => have HF := Lib.hid (show fdE ts t.value ⟨5, ln, ty, lk, ky⟩ = 0 by rw [HE.out, ht]; simp [hl])
        all_goals
          have HL := Lib.hid hl
          clear hl ht
          go_enter Try.func42, Try.ntmps42
          go_wp2_with (go_at_call 54; refine (belongs_any t FS ⟨5, ln, ty, lk, ky⟩ hok).mono ?_; rintro e w1 ⟨rfl, hb⟩; rw [HB.out]; have d0 := hb.cell (p := ⟨w.heap.size + 1, 0, none⟩) (by simp); have d1 := hb.cell (p := ⟨w.heap.size + 1, 1, none⟩) (by simp); have d2 := hb.cell (p := ⟨w.heap.size + 1, 2, none⟩) (by simp); have d3 := hb.cell (p := ⟨w.heap.size + 1, 3, none⟩) (by simp); have d4 := hb.cell (p := ⟨w.heap.size + 1, 4, none⟩) (by simp); simp at d0 d1 d2 d3 d4; have HW := Lib.hid (show Below w.heap.size w w1 from Below.trans (by (repeat' (first | exact Below.refl _ _ | assumption | (refine Below.alloc ?_ (by (try simp) <;> omega) _)))) (hb.mono (by simp <;> omega))); have hs1 : w.heap.size + 2 ≤ w1.heap.size := (by simpa using hb.size); clear hb)
          go_wp2_with (go_at_call 22; refine (target_ok A n cap ts (H.out.below HW.out (Nat.le_refl _)) ⟨5, ln, ty, lk, ky⟩ g (by omega) ((HW.out.cell (p := ⟨g, 0, none⟩) hg).trans HC.out) ⟨un, uv, ur, uf⟩ HT.out).mono ?_; rintro e w2 ⟨FA, fk, fc, rfl, hf, hb⟩; have hb3 := hb.alloc hb.size (Obj.cells #[.string un, .bool uv, .bool ur, .slice FA fk fc] 32); have q0 := (hb3.cell (p := ⟨w.heap.size + 1, 0, none⟩) (by simp only; omega)).trans d0; have q1 := (hb3.cell (p := ⟨w.heap.size + 1, 1, none⟩) (by simp only; omega)).trans d1; have q2 := (hb3.cell (p := ⟨w.heap.size + 1, 2, none⟩) (by simp only; omega)).trans d2; have q3 := (hb3.cell (p := ⟨w.heap.size + 1, 3, none⟩) (by simp only; omega)).trans d3; have q4 := (hb3.cell (p := ⟨w.heap.size + 1, 4, none⟩) (by simp only; omega)).trans d4; have HFF := Lib.hid (hf.below hb (Nat.le_refl _)); have HW2 := Lib.hid (HW.out.trans (hb.mono (by omega))); have hs2 := hb.size; clear hb hf hb3)
          go_wp2_with (go_at_call 55; refine (leadsTo_any ⟨5, ln, ty, lk, ky⟩ ⟨un, uv, ur, uf⟩ FA fk fc (HFF.out.below ((Below.refl _ w2).alloc (Nat.le_refl _) _) (Nat.le_refl _))).mono ?_; rintro e w3 ⟨rfl, hb⟩; rw [HL.out]; have HW3 := Lib.hid ((HW2.out.alloc (by omega) _).trans (hb.mono (by simp; omega))); clear hb)
          go_ret
          rw [HF.out]
          exact ⟨rfl, HW3.out⟩
    · have HE := Lib.hid (show fdE ts t.value ⟨6, ln, ty, lk, ky⟩ = match tgt ts ty with | none => 4 | some u => if lead ⟨6, ln, ty, lk, ky⟩ u = true then 0 else 7 from fdE_tgt HB.out (by simp))
      cases ht : tgt ts ty with
      | none =>
        have HF := Lib.hid (show fdE ts t.value ⟨6, ln, ty, lk, ky⟩ = 4 by rw [HE.out, ht])
        have HT := Lib.hid ht
        clear ht
        go_enter Try.func42, Try.ntmps42
        go_wp2_with (go_at_call 54; refine (belongs_any t FS ⟨6, ln, ty, lk, ky⟩ hok).mono ?_; rintro e w1 ⟨rfl, hb⟩; rw [HB.out]; have d0 := hb.cell (p := ⟨w.heap.size + 1, 0, none⟩) (by simp); have d1 := hb.cell (p := ⟨w.heap.size + 1, 1, none⟩) (by simp); have d2 := hb.cell (p := ⟨w.heap.size + 1, 2, none⟩) (by simp); have d3 := hb.cell (p := ⟨w.heap.size + 1, 3, none⟩) (by simp); have d4 := hb.cell (p := ⟨w.heap.size + 1, 4, none⟩) (by simp); simp at d0 d1 d2 d3 d4; have HW := Lib.hid (show Below w.heap.size w w1 from Below.trans (by (repeat' (first | exact Below.refl _ _ | assumption | (refine Below.alloc ?_ (by (try simp) <;> omega) _)))) (hb.mono (by simp <;> omega))); have hs1 : w.heap.size + 2 ≤ w1.heap.size := (by simpa using hb.size); clear hb)
        go_wp2_with (go_at_call 22; refine (target_no A n cap ts (H.out.below HW.out (Nat.le_refl _)) ⟨6, ln, ty, lk, ky⟩ g (by omega) ((HW.out.cell (p := ⟨g, 0, none⟩) hg).trans HC.out) HT.out).mono ?_; rintro e w2 ⟨rfl, hb⟩; have HW2 := Lib.hid (HW.out.trans (hb.mono (by omega))); have hs2 := hb.size; clear hb)
        go_ret
        rw [HF.out]
        refine ⟨rfl, HW2.out.alloc (by omega) _⟩
      | some u =>
        have HT := Lib.hid ht
        obtain ⟨un, uv, ur, uf⟩ := u
        cases hl : lead ⟨6, ln, ty, lk, ky⟩ ⟨un, uv, ur, uf⟩
        case' false => have HF := Lib.hid (show fdE ts t.value ⟨6, ln, ty, lk, ky⟩ = 7 by rw [HE.out, ht]; simp [hl])
        case' true => have HF := Lib.hid (show fdE ts t.value ⟨6, ln, ty, lk, ky⟩ = 0 by rw [HE.out, ht]; simp [hl])
        all_goals
          have HL := Lib.hid hl
          clear hl ht
          go_enter Try.func42, Try.ntmps42
          go_wp2_with (go_at_call 54; refine (belongs_any t FS ⟨6, ln, ty, lk, ky⟩ hok).mono ?_; rintro e w1 ⟨rfl, hb⟩; rw [HB.out]; have d0 := hb.cell (p := ⟨w.heap.size + 1, 0, none⟩) (by simp); have d1 := hb.cell (p := ⟨w.heap.size + 1, 1, none⟩) (by simp); have d2 := hb.cell (p := ⟨w.heap.size + 1, 2, none⟩) (by simp); have d3 := hb.cell (p := ⟨w.heap.size + 1, 3, none⟩) (by simp); have d4 := hb.cell (p := ⟨w.heap.size + 1, 4, none⟩) (by simp); simp at d0 d1 d2 d3 d4; have HW := Lib.hid (show Below w.heap.size w w1 from Below.trans (by (repeat' (first | exact Below.refl _ _ | assumption | (refine Below.alloc ?_ (by (try simp) <;> omega) _)))) (hb.mono (by simp <;> omega))); have hs1 : w.heap.size + 2 ≤ w1.heap.size := (by simpa using hb.size); clear hb)
          go_wp2_with (go_at_call 22; refine (target_ok A n cap ts (H.out.below HW.out (Nat.le_refl _)) ⟨6, ln, ty, lk, ky⟩ g (by omega) ((HW.out.cell (p := ⟨g, 0, none⟩) hg).trans HC.out) ⟨un, uv, ur, uf⟩ HT.out).mono ?_; rintro e w2 ⟨FA, fk, fc, rfl, hf, hb⟩; have hb3 := hb.alloc hb.size (Obj.cells #[.string un, .bool uv, .bool ur, .slice FA fk fc] 32); have q0 := (hb3.cell (p := ⟨w.heap.size + 1, 0, none⟩) (by simp only; omega)).trans d0; have q1 := (hb3.cell (p := ⟨w.heap.size + 1, 1, none⟩) (by simp only; omega)).trans d1; have q2 := (hb3.cell (p := ⟨w.heap.size + 1, 2, none⟩) (by simp only; omega)).trans d2; have q3 := (hb3.cell (p := ⟨w.heap.size + 1, 3, none⟩) (by simp only; omega)).trans d3; have q4 := (hb3.cell (p := ⟨w.heap.size + 1, 4, none⟩) (by simp only; omega)).trans d4; have HFF := Lib.hid (hf.below hb (Nat.le_refl _)); have HW2 := Lib.hid (HW.out.trans (hb.mono (by omega))); have hs2 := hb.size; clear hb hf hb3)
          go_wp2_with (go_at_call 55; refine (leadsTo_any ⟨6, ln, ty, lk, ky⟩ ⟨un, uv, ur, uf⟩ FA fk fc (HFF.out.below ((Below.refl _ w2).alloc (Nat.le_refl _) _) (Nat.le_refl _))).mono ?_; rintro e w3 ⟨rfl, hb⟩; rw [HL.out]; have HW3 := Lib.hid ((HW2.out.alloc (by omega) _).trans (hb.mono (by simp; omega))); clear hb)
          go_ret
          rw [HF.out]
          exact ⟨rfl, HW3.out⟩
    · have HF := Lib.hid (show fdE ts t.value ⟨7, ln, ty, lk, ky⟩ = 0 from fdE_else HB.out (by simp))
      go_enter Try.func42, Try.ntmps42
      go_wp2_with (go_at_call 54; refine (belongs_any t FS ⟨7, ln, ty, lk, ky⟩ hok).mono ?_; rintro e w1 ⟨rfl, hb⟩; rw [HB.out]; have d0 := hb.cell (p := ⟨w.heap.size + 1, 0, none⟩) (by simp); have d1 := hb.cell (p := ⟨w.heap.size + 1, 1, none⟩) (by simp); have d2 := hb.cell (p := ⟨w.heap.size + 1, 2, none⟩) (by simp); have d3 := hb.cell (p := ⟨w.heap.size + 1, 3, none⟩) (by simp); have d4 := hb.cell (p := ⟨w.heap.size + 1, 4, none⟩) (by simp); simp at d0 d1 d2 d3 d4; have HW := Lib.hid (show Below w.heap.size w w1 from Below.trans (by (repeat' (first | exact Below.refl _ _ | assumption | (refine Below.alloc ?_ (by (try simp) <;> omega) _)))) (hb.mono (by simp <;> omega))); have hs1 : w.heap.size + 2 ≤ w1.heap.size := (by simpa using hb.size); clear hb)
      go_ret
      rw [HF.out]
      exact ⟨rfl, HW.out⟩
    · have := HB.out
      simp at n1 n2 n3 n4 n5 n6 n7
      simp [bel, n1, n2, n3, n4, n5, n6, n7] at this
end
end Go.Proofs.Ytnkjlocjfljjlaa
