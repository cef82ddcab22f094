/- The contract of the document's Field, the kinds that have a target; and of all kinds. Condition: the types can be read. -/
import Derived.Test.YtnkjlocjfljjlaaTRFieldA
namespace Go.Proofs.Ytnkjlocjfljjlaa
open Go.RowKit
set_option maxRecDepth 100000
set_option maxHeartbeats 4000000
section
variable {w : World}
theorem rfield_2 (A : Option Addr) (n cap : Nat) (ts : List Ty) (h : Lt w A n cap ts) (nm : ByteArray) (v r : Bool) (FS : Value) (ln ty lk ky : Int) :
    Calls Try.prog 45 #[.slice A n cap, .agg #[.string nm, .bool v, .bool r, FS], fv ⟨2, ln, ty, lk, ky⟩] w fun e w' => e = .returned (.int .i64 (fdE ts v ⟨2, ln, ty, lk, ky⟩ : Nat)) ∧ Below w.heap.size w w' := by
  unfold fv
  have hle := h.le
  have hmx := h.max
  have H := Lib.hid h
  have HN := Lib.hid h.len
  clear h
  cases z0 : (ln == 0)
  case false =>
    have HF := Lib.hid (show fdE ts v ⟨2, ln, ty, lk, ky⟩ = 7 from fdE_bel (by simp at z0; simp [bel, z0]))
    go_enter Try.func45, Try.ntmps45
    go_wp2_with fail
    go_ret
    rw [HF.out]
    refine ⟨rfl, ?_⟩
    (repeat' (first | exact Below.refl _ _ | assumption | (refine Below.alloc ?_ (by (try simp) <;> omega) _)))
  obtain rfl : ln = 0 := by simpa using z0
  clear z0
  cases z1 : (lk == 0)
  case false =>
    have HF := Lib.hid (show fdE ts v ⟨2, 0, ty, lk, ky⟩ = 7 from fdE_bel (by simp at z1; simp [bel, z1]))
    go_enter Try.func45, Try.ntmps45
    go_wp2_with fail
    go_ret
    rw [HF.out]
    refine ⟨rfl, ?_⟩
    (repeat' (first | exact Below.refl _ _ | assumption | (refine Below.alloc ?_ (by (try simp) <;> omega) _)))
  obtain rfl : lk = 0 := by simpa using z1
  clear z1
  cases z2 : (ky == 0)
  case false =>
    have HF := Lib.hid (show fdE ts v ⟨2, 0, ty, 0, ky⟩ = 7 from fdE_bel (by simp at z2; simp [bel, z2]))
    go_enter Try.func45, Try.ntmps45
    go_wp2_with fail
    go_ret
    rw [HF.out]
    refine ⟨rfl, ?_⟩
    (repeat' (first | exact Below.refl _ _ | assumption | (refine Below.alloc ?_ (by (try simp) <;> omega) _)))
  obtain rfl : ky = 0 := by simpa using z2
  clear z2
  have HE := Lib.hid (show fdE ts v ⟨2, 0, ty, 0, 0⟩ = match tgt ts ty with | none => 4 | some u => if lead ⟨2, 0, ty, 0, 0⟩ u = true then 0 else 7 from fdE_tgt (by simp [bel]) (by simp))
  by_cases hneg : ty < 0
  · have HF := Lib.hid (show fdE ts v ⟨2, 0, ty, 0, 0⟩ = 4 by rw [HE.out, tgt_neg hneg])
    go_enter Try.func45, Try.ntmps45
    go_wp2_with fail
    go_ret
    rw [HF.out]
    refine ⟨rfl, ?_⟩
    (repeat' (first | exact Below.refl _ _ | assumption | (refine Below.alloc ?_ (by (try simp) <;> omega) _)))
  obtain ⟨m, rfl⟩ : ∃ m : Nat, ty = (m : Int) := ⟨ty.toNat, by omega⟩
  clear hneg
  by_cases hm : m < n
  case neg =>
    have HF := Lib.hid (show fdE ts v ⟨2, 0, (m : Int), 0, 0⟩ = 4 by rw [HE.out, tgt_far (by rw [HN.out]; omega)])
    go_enter Try.func45, Try.ntmps45
    go_wp2_with fail
    go_ret
    rw [HF.out]
    refine ⟨rfl, ?_⟩
    (repeat' (first | exact Below.refl _ _ | assumption | (refine Below.alloc ?_ (by (try simp) <;> omega) _)))
  obtain ⟨b, o, u, FA, fk, fc, rfl, hu, hnm, hb, c0, c1, c2, c3, hf⟩ := H.out.at m hm
  obtain ⟨un, uv, ur, uf⟩ := u
  simp only at c0 c1 c2 hf
  clear hnm
  have HE2 := Lib.hid (show fdE ts v ⟨2, 0, (m : Int), 0, 0⟩ = if lead ⟨2, 0, (m : Int), 0, 0⟩ ⟨un, uv, ur, uf⟩ = true then 0 else 7 by rw [HE.out, tgt_at hu.out])
  cases uv
  case true =>
    have HF := Lib.hid (show fdE ts v ⟨2, 0, (m : Int), 0, 0⟩ = 7 by rw [HE2.out]; rfl)
    go_enter Try.func45, Try.ntmps45
    go_wp2_with fail
    go_ret
    rw [HF.out]
    refine ⟨rfl, ?_⟩
    (repeat' (first | exact Below.refl _ _ | assumption | (refine Below.alloc ?_ (by (try simp) <;> omega) _)))
  have HF := Lib.hid (show fdE ts v ⟨2, 0, (m : Int), 0, 0⟩ = 0 by rw [HE2.out]; rfl)
  go_enter Try.func45, Try.ntmps45
  go_wp2_with fail
  go_ret
  rw [HF.out]
  refine ⟨rfl, ?_⟩
  (repeat' (first | exact Below.refl _ _ | assumption | (refine Below.alloc ?_ (by (try simp) <;> omega) _)))
theorem rfield_5 (A : Option Addr) (n cap : Nat) (ts : List Ty) (h : Lt w A n cap ts) (nm : ByteArray) (v r : Bool) (FS : Value) (ln ty lk ky : Int) :
    Calls Try.prog 45 #[.slice A n cap, .agg #[.string nm, .bool v, .bool r, FS], fv ⟨5, ln, ty, lk, ky⟩] w fun e w' => e = .returned (.int .i64 (fdE ts v ⟨5, ln, ty, lk, ky⟩ : Nat)) ∧ Below w.heap.size w w' := by
  unfold fv
  have hle := h.le
  have hmx := h.max
  have H := Lib.hid h
  have HN := Lib.hid h.len
  clear h
  cases z0 : (ln == 0)
  case false =>
    have HF := Lib.hid (show fdE ts v ⟨5, ln, ty, lk, ky⟩ = 7 from fdE_bel (by simp at z0; simp [bel, z0]))
    go_enter Try.func45, Try.ntmps45
    go_wp2_with fail
    go_ret
    rw [HF.out]
    refine ⟨rfl, ?_⟩
    (repeat' (first | exact Below.refl _ _ | assumption | (refine Below.alloc ?_ (by (try simp) <;> omega) _)))
  obtain rfl : ln = 0 := by simpa using z0
  clear z0
  cases z1 : (ky == 0)
  case false =>
    have HF := Lib.hid (show fdE ts v ⟨5, 0, ty, lk, ky⟩ = 7 from fdE_bel (by simp at z1; simp [bel, z1]))
    go_enter Try.func45, Try.ntmps45
    go_wp2_with fail
    go_ret
    rw [HF.out]
    refine ⟨rfl, ?_⟩
    (repeat' (first | exact Below.refl _ _ | assumption | (refine Below.alloc ?_ (by (try simp) <;> omega) _)))
  obtain rfl : ky = 0 := by simpa using z1
  clear z1
  cases v
  case false =>
    have HF := Lib.hid (show fdE ts false ⟨5, 0, ty, lk, 0⟩ = 7 from fdE_bel (by simp [bel]))
    go_enter Try.func45, Try.ntmps45
    go_wp2_with fail
    go_ret
    rw [HF.out]
    refine ⟨rfl, ?_⟩
    (repeat' (first | exact Below.refl _ _ | assumption | (refine Below.alloc ?_ (by (try simp) <;> omega) _)))
  have HE := Lib.hid (show fdE ts true ⟨5, 0, ty, lk, 0⟩ = match tgt ts ty with | none => 4 | some u => if lead ⟨5, 0, ty, lk, 0⟩ u = true then 0 else 7 from fdE_tgt (by simp [bel]) (by simp))
  by_cases hneg : ty < 0
  · have HF := Lib.hid (show fdE ts true ⟨5, 0, ty, lk, 0⟩ = 4 by rw [HE.out, tgt_neg hneg])
    go_enter Try.func45, Try.ntmps45
    go_wp2_with fail
    go_ret
    rw [HF.out]
    refine ⟨rfl, ?_⟩
    (repeat' (first | exact Below.refl _ _ | assumption | (refine Below.alloc ?_ (by (try simp) <;> omega) _)))
  obtain ⟨m, rfl⟩ : ∃ m : Nat, ty = (m : Int) := ⟨ty.toNat, by omega⟩
  clear hneg
  by_cases hm : m < n
  case neg =>
    have HF := Lib.hid (show fdE ts true ⟨5, 0, (m : Int), lk, 0⟩ = 4 by rw [HE.out, tgt_far (by rw [HN.out]; omega)])
    go_enter Try.func45, Try.ntmps45
    go_wp2_with fail
    go_ret
    rw [HF.out]
    refine ⟨rfl, ?_⟩
    (repeat' (first | exact Below.refl _ _ | assumption | (refine Below.alloc ?_ (by (try simp) <;> omega) _)))
  obtain ⟨b, o, u, FA, fk, fc, rfl, hu, hnm, hb, c0, c1, c2, c3, hf⟩ := H.out.at m hm
  obtain ⟨un, uv, ur, uf⟩ := u
  simp only at c0 c1 c2 hf
  clear hnm
  have HE2 := Lib.hid (show fdE ts true ⟨5, 0, (m : Int), lk, 0⟩ = if lead ⟨5, 0, (m : Int), lk, 0⟩ ⟨un, uv, ur, uf⟩ = true then 0 else 7 by rw [HE.out, tgt_at hu.out])
  cases uv
  case true =>
    have HF := Lib.hid (show fdE ts true ⟨5, 0, (m : Int), lk, 0⟩ = 7 by rw [HE2.out]; rfl)
    go_enter Try.func45, Try.ntmps45
    go_wp2_with fail
    go_ret
    rw [HF.out]
    refine ⟨rfl, ?_⟩
    (repeat' (first | exact Below.refl _ _ | assumption | (refine Below.alloc ?_ (by (try simp) <;> omega) _)))
  have HL := Lib.hid (show lead ⟨5, 0, (m : Int), lk, 0⟩ ⟨un, false, ur, uf⟩ = decide (kat uf lk = 3) from rfl)
  by_cases hq : kat uf lk = 3
  case' pos => have HF := Lib.hid (show fdE ts true ⟨5, 0, (m : Int), lk, 0⟩ = 0 by rw [HE2.out, HL.out]; simp [hq]); have hk3 : (kat uf lk != 3) = false := by simp [hq]
  case' neg => have HF := Lib.hid (show fdE ts true ⟨5, 0, (m : Int), lk, 0⟩ = 7 by rw [HE2.out, HL.out]; simp [hq]); have hk3 : (kat uf lk != 3) = true := by simp [hq]
  all_goals
    clear hq
    go_enter Try.func45, Try.ntmps45
    go_wp2_with (go_at_call 56; refine (rkind_any ⟨un, false, ur, uf⟩ FA fk fc (hf.out.below (B := w.heap.size) (by (repeat' (first | exact Below.refl _ _ | assumption | (refine Below.alloc ?_ (by (try simp) <;> omega) _)))) (Nat.le_refl _)) lk).mono ?_; rintro e w1 ⟨rfl, hb⟩; have d0 := hb.cell (p := ⟨w.heap.size + 1, 0, none⟩) (by simp <;> omega); have d4 := hb.cell (p := ⟨w.heap.size + 1, 4, none⟩) (by simp <;> omega); have e0 := hb.cell (p := ⟨w.heap.size + 1 + 1, 0, none⟩) (by simp); have e1 := hb.cell (p := ⟨w.heap.size + 1 + 1, 1, none⟩) (by simp); have e2 := hb.cell (p := ⟨w.heap.size + 1 + 1, 2, none⟩) (by simp); have e3 := hb.cell (p := ⟨w.heap.size + 1 + 1, 3, none⟩) (by simp); have HB := Lib.hid (show Below w.heap.size w w1 from Below.trans (by (repeat' (first | exact Below.refl _ _ | assumption | (refine Below.alloc ?_ (by (try simp) <;> omega) _)))) (hb.mono (by simp <;> omega))); clear hb)
    go_ret
    rw [HF.out]
    exact ⟨rfl, HB.out⟩
theorem rfield_6 (A : Option Addr) (n cap : Nat) (ts : List Ty) (h : Lt w A n cap ts) (nm : ByteArray) (v r : Bool) (FS : Value) (ln ty lk ky : Int) :
    Calls Try.prog 45 #[.slice A n cap, .agg #[.string nm, .bool v, .bool r, FS], fv ⟨6, ln, ty, lk, ky⟩] w fun e w' => e = .returned (.int .i64 (fdE ts v ⟨6, ln, ty, lk, ky⟩ : Nat)) ∧ Below w.heap.size w w' := by
  unfold fv
  have hle := h.le
  have hmx := h.max
  have H := Lib.hid h
  have HN := Lib.hid h.len
  clear h
  cases z0 : (ln == 0)
  case false =>
    have HF := Lib.hid (show fdE ts v ⟨6, ln, ty, lk, ky⟩ = 7 from fdE_bel (by simp at z0; simp [bel, z0]))
    go_enter Try.func45, Try.ntmps45
    go_wp2_with fail
    go_ret
    rw [HF.out]
    refine ⟨rfl, ?_⟩
    (repeat' (first | exact Below.refl _ _ | assumption | (refine Below.alloc ?_ (by (try simp) <;> omega) _)))
  obtain rfl : ln = 0 := by simpa using z0
  clear z0
  cases v
  case false =>
    have HF := Lib.hid (show fdE ts false ⟨6, 0, ty, lk, ky⟩ = 7 from fdE_bel (by simp [bel]))
    go_enter Try.func45, Try.ntmps45
    go_wp2_with fail
    go_ret
    rw [HF.out]
    refine ⟨rfl, ?_⟩
    (repeat' (first | exact Below.refl _ _ | assumption | (refine Below.alloc ?_ (by (try simp) <;> omega) _)))
  have HE := Lib.hid (show fdE ts true ⟨6, 0, ty, lk, ky⟩ = match tgt ts ty with | none => 4 | some u => if lead ⟨6, 0, ty, lk, ky⟩ u = true then 0 else 7 from fdE_tgt (by simp [bel]) (by simp))
  by_cases hneg : ty < 0
  · have HF := Lib.hid (show fdE ts true ⟨6, 0, ty, lk, ky⟩ = 4 by rw [HE.out, tgt_neg hneg])
    go_enter Try.func45, Try.ntmps45
    go_wp2_with fail
    go_ret
    rw [HF.out]
    refine ⟨rfl, ?_⟩
    (repeat' (first | exact Below.refl _ _ | assumption | (refine Below.alloc ?_ (by (try simp) <;> omega) _)))
  obtain ⟨m, rfl⟩ : ∃ m : Nat, ty = (m : Int) := ⟨ty.toNat, by omega⟩
  clear hneg
  by_cases hm : m < n
  case neg =>
    have HF := Lib.hid (show fdE ts true ⟨6, 0, (m : Int), lk, ky⟩ = 4 by rw [HE.out, tgt_far (by rw [HN.out]; omega)])
    go_enter Try.func45, Try.ntmps45
    go_wp2_with fail
    go_ret
    rw [HF.out]
    refine ⟨rfl, ?_⟩
    (repeat' (first | exact Below.refl _ _ | assumption | (refine Below.alloc ?_ (by (try simp) <;> omega) _)))
  obtain ⟨b, o, u, FA, fk, fc, rfl, hu, hnm, hb, c0, c1, c2, c3, hf⟩ := H.out.at m hm
  obtain ⟨un, uv, ur, uf⟩ := u
  simp only at c0 c1 c2 hf
  clear hnm
  have HE2 := Lib.hid (show fdE ts true ⟨6, 0, (m : Int), lk, ky⟩ = if lead ⟨6, 0, (m : Int), lk, ky⟩ ⟨un, uv, ur, uf⟩ = true then 0 else 7 by rw [HE.out, tgt_at hu.out])
  cases uv
  case true =>
    have HF := Lib.hid (show fdE ts true ⟨6, 0, (m : Int), lk, ky⟩ = 7 by rw [HE2.out]; rfl)
    go_enter Try.func45, Try.ntmps45
    go_wp2_with fail
    go_ret
    rw [HF.out]
    refine ⟨rfl, ?_⟩
    (repeat' (first | exact Below.refl _ _ | assumption | (refine Below.alloc ?_ (by (try simp) <;> omega) _)))
  have HL := Lib.hid (show lead ⟨6, 0, (m : Int), lk, ky⟩ ⟨un, false, ur, uf⟩ = (!ur && decide (kat uf lk = 4) && decide (kat uf ky = 1)) from rfl)
  cases ur
  case true =>
    have HF := Lib.hid (show fdE ts true ⟨6, 0, (m : Int), lk, ky⟩ = 7 by rw [HE2.out, HL.out]; simp)
    go_enter Try.func45, Try.ntmps45
    go_wp2_with fail
    go_ret
    rw [HF.out]
    refine ⟨rfl, ?_⟩
    (repeat' (first | exact Below.refl _ _ | assumption | (refine Below.alloc ?_ (by (try simp) <;> omega) _)))
  by_cases hq : kat uf lk = 4
  case neg =>
    have HF := Lib.hid (show fdE ts true ⟨6, 0, (m : Int), lk, ky⟩ = 7 by rw [HE2.out, HL.out]; simp [hq])
    have hk4 : (kat uf lk != 4) = true := by simp [hq]
    clear hq
    go_enter Try.func45, Try.ntmps45
    go_wp2_with (go_at_call 56; refine (rkind_any ⟨un, false, false, uf⟩ FA fk fc (hf.out.below (B := w.heap.size) (by (repeat' (first | exact Below.refl _ _ | assumption | (refine Below.alloc ?_ (by (try simp) <;> omega) _)))) (Nat.le_refl _)) lk).mono ?_; rintro e w1 ⟨rfl, hb⟩; have d0 := hb.cell (p := ⟨w.heap.size + 1, 0, none⟩) (by simp <;> omega); have d4 := hb.cell (p := ⟨w.heap.size + 1, 4, none⟩) (by simp <;> omega); have e0 := hb.cell (p := ⟨w.heap.size + 1 + 1, 0, none⟩) (by simp); have e1 := hb.cell (p := ⟨w.heap.size + 1 + 1, 1, none⟩) (by simp); have e2 := hb.cell (p := ⟨w.heap.size + 1 + 1, 2, none⟩) (by simp); have e3 := hb.cell (p := ⟨w.heap.size + 1 + 1, 3, none⟩) (by simp); have HB := Lib.hid (show Below w.heap.size w w1 from Below.trans (by (repeat' (first | exact Below.refl _ _ | assumption | (refine Below.alloc ?_ (by (try simp) <;> omega) _)))) (hb.mono (by simp <;> omega))); clear hb)
    go_ret
    rw [HF.out]
    exact ⟨rfl, HB.out⟩
  have hk4 : (kat uf lk != 4) = false := by simp [hq]
  have HQ := Lib.hid hq
  by_cases hp : kat uf ky = 1
  case' pos => have HF := Lib.hid (show fdE ts true ⟨6, 0, (m : Int), lk, ky⟩ = 0 by rw [HE2.out, HL.out]; simp [hq, hp]); have hk1 : (kat uf ky != 1) = false := by simp [hp]
  case' neg => have HF := Lib.hid (show fdE ts true ⟨6, 0, (m : Int), lk, ky⟩ = 7 by rw [HE2.out, HL.out]; simp [hp]); have hk1 : (kat uf ky != 1) = true := by simp [hp]
  all_goals
    clear hq hp
    go_enter Try.func45, Try.ntmps45
    go_wp2_with (go_at_call 56; have _t := HQ; clear HQ; refine (rkind_any ⟨un, false, false, uf⟩ FA fk fc (hf.out.below (B := w.heap.size) (by (repeat' (first | exact Below.refl _ _ | assumption | (refine Below.alloc ?_ (by (try simp) <;> omega) _)))) (Nat.le_refl _)) lk).mono ?_; rintro e w1 ⟨rfl, hb⟩; have d0 := hb.cell (p := ⟨w.heap.size + 1, 0, none⟩) (by simp <;> omega); have d4 := hb.cell (p := ⟨w.heap.size + 1, 4, none⟩) (by simp <;> omega); have e0 := hb.cell (p := ⟨w.heap.size + 1 + 1, 0, none⟩) (by simp); have e1 := hb.cell (p := ⟨w.heap.size + 1 + 1, 1, none⟩) (by simp); have e2 := hb.cell (p := ⟨w.heap.size + 1 + 1, 2, none⟩) (by simp); have e3 := hb.cell (p := ⟨w.heap.size + 1 + 1, 3, none⟩) (by simp); have HB := Lib.hid (show Below w.heap.size w w1 from Below.trans (by (repeat' (first | exact Below.refl _ _ | assumption | (refine Below.alloc ?_ (by (try simp) <;> omega) _)))) (hb.mono (by simp <;> omega))); clear hb)
    go_wp2_with (go_at_call 56; refine (rkind_any ⟨un, false, false, uf⟩ FA fk fc (hf.out.below HB.out (Nat.le_refl _)) ky).mono ?_; rintro e w2 ⟨rfl, hb⟩; have HB2 := Lib.hid (HB.out.trans (hb.mono HB.out.size)); clear hb)
    go_ret
    rw [HF.out]
    exact ⟨rfl, HB2.out⟩
end
end Go.Proofs.Ytnkjlocjfljjlaa
