/- The contract of the document's Field. Condition: the types can be read. -/
import Derived.Test.YtnkjlocjfljjlaaTSmall
namespace Go.Proofs.Ytnkjlocjfljjlaa
open Go.RowKit
set_option maxRecDepth 100000
set_option maxHeartbeats 4000000

theorem fdE_bel {ts : List Ty} {v : Bool} {f : Fd} (h : bel v f = false) : fdE ts v f = 7 := by unfold fdE; rw [if_pos h]
theorem fdE_one {ts : List Ty} {v : Bool} {f : Fd} (h : bel v f = true) (hk : f.kind = 1) : fdE ts v f = if lenF f = true then 0 else 4 := by
  unfold fdE lenF
  rw [if_neg (by rw [h]; decide), if_pos hk]
  simp
theorem fdE_tgt {ts : List Ty} {v : Bool} {f : Fd} (h : bel v f = true) (hk : f.kind = 2 ∨ f.kind = 5 ∨ f.kind = 6) : fdE ts v f = match tgt ts f.ty with | none => 4 | some u => if lead f u = true then 0 else 7 := by
  unfold fdE
  rw [if_neg (by rw [h]; decide), if_neg (by omega), if_pos hk]
  rfl
theorem fdE_else {ts : List Ty} {v : Bool} {f : Fd} (h : bel v f = true) (hk : f.kind = 3 ∨ f.kind = 4 ∨ f.kind = 7) : fdE ts v f = 0 := by
  unfold fdE
  rw [if_neg (by rw [h]; decide), if_neg (by omega), if_neg (by omega)]
theorem tgt_neg {ts : List Ty} {i : Int} (h : i < 0) : tgt ts i = none := by unfold tgt; rw [if_pos h]
theorem tgt_far {ts : List Ty} {k : Nat} (h : ts.length ≤ k) : tgt ts (k : Int) = none := by
  unfold tgt
  rw [if_neg (by omega)]
  simp [h]
theorem tgt_at {ts : List Ty} {k : Nat} {u : Ty} (h : ts[k]? = some u) : tgt ts (k : Int) = some u := by
  unfold tgt
  rw [if_neg (by omega)]
  simpa using h
section
variable {w : World}
theorem rfield_1 (A : Option Addr) (n cap : Nat) (ts : List Ty) (nm : ByteArray) (v r : Bool) (FS : Value) (ln ty lk ky : Int) :
    Calls Try.prog 45 #[.slice A n cap, .agg #[.string nm, .bool v, .bool r, FS], fv ⟨1, ln, ty, lk, ky⟩] w fun e w' => e = .returned (.int .i64 (fdE ts v ⟨1, ln, ty, lk, ky⟩ : Nat)) ∧ Below w.heap.size w w' := by
  unfold fv
  cases z0 : (ty == 0)
  case false =>
    have HF := Lib.hid (show fdE ts v ⟨1, ln, ty, lk, ky⟩ = 7 from fdE_bel (by simp at z0; simp [bel, z0]))
    go_enter Try.func45, Try.ntmps45
    go_wp2_with fail
    go_ret
    rw [HF.out]
    refine ⟨rfl, ?_⟩
    (repeat' (first | exact Below.refl _ _ | assumption | (refine Below.alloc ?_ (by (try simp) <;> omega) _)))
  obtain rfl : ty = 0 := by simpa using z0
  clear z0
  cases z1 : (lk == 0)
  case false =>
    have HF := Lib.hid (show fdE ts v ⟨1, ln, 0, lk, ky⟩ = 7 from fdE_bel (by simp at z1; simp [bel, z1]))
    go_enter Try.func45, Try.ntmps45
    go_wp2_with fail
    go_ret
    rw [HF.out]
    refine ⟨rfl, ?_⟩
    (repeat' (first | exact Below.refl _ _ | assumption | (refine Below.alloc ?_ (by (try simp) <;> omega) _)))
  obtain rfl : lk = 0 := by simpa using z1
  clear z1
  cases z2 : (ky == 0)
  case false =>
    have HF := Lib.hid (show fdE ts v ⟨1, ln, 0, 0, ky⟩ = 7 from fdE_bel (by simp at z2; simp [bel, z2]))
    go_enter Try.func45, Try.ntmps45
    go_wp2_with fail
    go_ret
    rw [HF.out]
    refine ⟨rfl, ?_⟩
    (repeat' (first | exact Below.refl _ _ | assumption | (refine Below.alloc ?_ (by (try simp) <;> omega) _)))
  obtain rfl : ky = 0 := by simpa using z2
  clear z2
  have HE := Lib.hid (show fdE ts v ⟨1, ln, 0, 0, 0⟩ = if lenF ⟨1, ln, 0, 0, 0⟩ = true then 0 else 4 from fdE_one (by simp [bel]) rfl)
  cases hl : lenF ⟨1, ln, 0, 0, 0⟩
  case' false => have HF := Lib.hid (show fdE ts v ⟨1, ln, 0, 0, 0⟩ = 4 by rw [HE.out, hl]; rfl); have hz : (fsz ⟨1, ln, 0, 0, 0⟩ == 0) = true := by (simp [lenF] at hl; simp [fsz]; intro h1 h2; have := hl h1; omega)
  case' true => have HF := Lib.hid (show fdE ts v ⟨1, ln, 0, 0, 0⟩ = 0 by rw [HE.out, hl]; rfl); have hz : (fsz ⟨1, ln, 0, 0, 0⟩ == 0) = false := by (simp [lenF] at hl; simp [fsz, hl]; omega)
  all_goals
    clear hl
    go_enter Try.func45, Try.ntmps45
    go_wp2_with (go_at_call 29; refine (rsize_any ⟨1, ln, 0, 0, 0⟩).mono ?_; rintro e w1 ⟨rfl, hb⟩; have cV := hb.cell (p := ⟨w.heap.size + 1, 0, none⟩) (by simp <;> omega); have HB := Lib.hid hb; clear hb)
    go_ret
    rw [HF.out]
    refine ⟨rfl, Below.trans ?_ (HB.out.mono (by simp <;> omega))⟩
    (repeat' (first | exact Below.refl _ _ | assumption | (refine Below.alloc ?_ (by (try simp) <;> omega) _)))
theorem rfield_3 (A : Option Addr) (n cap : Nat) (ts : List Ty) (nm : ByteArray) (v r : Bool) (FS : Value) (ln ty lk ky : Int) :
    Calls Try.prog 45 #[.slice A n cap, .agg #[.string nm, .bool v, .bool r, FS], fv ⟨3, ln, ty, lk, ky⟩] w fun e w' => e = .returned (.int .i64 (fdE ts v ⟨3, ln, ty, lk, ky⟩ : Nat)) ∧ Below w.heap.size w w' := by
  unfold fv
  cases z0 : (ln == 0)
  case false =>
    have HF := Lib.hid (show fdE ts v ⟨3, ln, ty, lk, ky⟩ = 7 from fdE_bel (by simp at z0; simp [bel, z0]))
    go_enter Try.func45, Try.ntmps45
    go_wp2_with fail
    go_ret
    rw [HF.out]
    refine ⟨rfl, ?_⟩
    (repeat' (first | exact Below.refl _ _ | assumption | (refine Below.alloc ?_ (by (try simp) <;> omega) _)))
  obtain rfl : ln = 0 := by simpa using z0
  clear z0
  cases z1 : (ty == 0)
  case false =>
    have HF := Lib.hid (show fdE ts v ⟨3, 0, ty, lk, ky⟩ = 7 from fdE_bel (by simp at z1; simp [bel, z1]))
    go_enter Try.func45, Try.ntmps45
    go_wp2_with fail
    go_ret
    rw [HF.out]
    refine ⟨rfl, ?_⟩
    (repeat' (first | exact Below.refl _ _ | assumption | (refine Below.alloc ?_ (by (try simp) <;> omega) _)))
  obtain rfl : ty = 0 := by simpa using z1
  clear z1
  cases z2 : (lk == 0)
  case false =>
    have HF := Lib.hid (show fdE ts v ⟨3, 0, 0, lk, ky⟩ = 7 from fdE_bel (by simp at z2; simp [bel, z2]))
    go_enter Try.func45, Try.ntmps45
    go_wp2_with fail
    go_ret
    rw [HF.out]
    refine ⟨rfl, ?_⟩
    (repeat' (first | exact Below.refl _ _ | assumption | (refine Below.alloc ?_ (by (try simp) <;> omega) _)))
  obtain rfl : lk = 0 := by simpa using z2
  clear z2
  cases z3 : (ky == 0)
  case false =>
    have HF := Lib.hid (show fdE ts v ⟨3, 0, 0, 0, ky⟩ = 7 from fdE_bel (by simp at z3; simp [bel, z3]))
    go_enter Try.func45, Try.ntmps45
    go_wp2_with fail
    go_ret
    rw [HF.out]
    refine ⟨rfl, ?_⟩
    (repeat' (first | exact Below.refl _ _ | assumption | (refine Below.alloc ?_ (by (try simp) <;> omega) _)))
  obtain rfl : ky = 0 := by simpa using z3
  clear z3
  cases v
  case true =>
    have HF := Lib.hid (show fdE ts true ⟨3, 0, 0, 0, 0⟩ = 7 from fdE_bel (by simp [bel]))
    go_enter Try.func45, Try.ntmps45
    go_wp2_with fail
    go_ret
    rw [HF.out]
    refine ⟨rfl, ?_⟩
    (repeat' (first | exact Below.refl _ _ | assumption | (refine Below.alloc ?_ (by (try simp) <;> omega) _)))
  have HF := Lib.hid (show fdE ts false ⟨3, 0, 0, 0, 0⟩ = 0 from fdE_else (by simp [bel]) (by simp))
  go_enter Try.func45, Try.ntmps45
  go_wp2_with fail
  go_ret
  rw [HF.out]
  refine ⟨rfl, ?_⟩
  (repeat' (first | exact Below.refl _ _ | assumption | (refine Below.alloc ?_ (by (try simp) <;> omega) _)))
theorem rfield_4 (A : Option Addr) (n cap : Nat) (ts : List Ty) (nm : ByteArray) (v r : Bool) (FS : Value) (ln ty lk ky : Int) :
    Calls Try.prog 45 #[.slice A n cap, .agg #[.string nm, .bool v, .bool r, FS], fv ⟨4, ln, ty, lk, ky⟩] w fun e w' => e = .returned (.int .i64 (fdE ts v ⟨4, ln, ty, lk, ky⟩ : Nat)) ∧ Below w.heap.size w w' := by
  unfold fv
  cases z0 : (ln == 0)
  case false =>
    have HF := Lib.hid (show fdE ts v ⟨4, ln, ty, lk, ky⟩ = 7 from fdE_bel (by simp at z0; simp [bel, z0]))
    go_enter Try.func45, Try.ntmps45
    go_wp2_with fail
    go_ret
    rw [HF.out]
    refine ⟨rfl, ?_⟩
    (repeat' (first | exact Below.refl _ _ | assumption | (refine Below.alloc ?_ (by (try simp) <;> omega) _)))
  obtain rfl : ln = 0 := by simpa using z0
  clear z0
  cases z1 : (ty == 0)
  case false =>
    have HF := Lib.hid (show fdE ts v ⟨4, 0, ty, lk, ky⟩ = 7 from fdE_bel (by simp at z1; simp [bel, z1]))
    go_enter Try.func45, Try.ntmps45
    go_wp2_with fail
    go_ret
    rw [HF.out]
    refine ⟨rfl, ?_⟩
    (repeat' (first | exact Below.refl _ _ | assumption | (refine Below.alloc ?_ (by (try simp) <;> omega) _)))
  obtain rfl : ty = 0 := by simpa using z1
  clear z1
  cases z2 : (lk == 0)
  case false =>
    have HF := Lib.hid (show fdE ts v ⟨4, 0, 0, lk, ky⟩ = 7 from fdE_bel (by simp at z2; simp [bel, z2]))
    go_enter Try.func45, Try.ntmps45
    go_wp2_with fail
    go_ret
    rw [HF.out]
    refine ⟨rfl, ?_⟩
    (repeat' (first | exact Below.refl _ _ | assumption | (refine Below.alloc ?_ (by (try simp) <;> omega) _)))
  obtain rfl : lk = 0 := by simpa using z2
  clear z2
  cases z3 : (ky == 0)
  case false =>
    have HF := Lib.hid (show fdE ts v ⟨4, 0, 0, 0, ky⟩ = 7 from fdE_bel (by simp at z3; simp [bel, z3]))
    go_enter Try.func45, Try.ntmps45
    go_wp2_with fail
    go_ret
    rw [HF.out]
    refine ⟨rfl, ?_⟩
    (repeat' (first | exact Below.refl _ _ | assumption | (refine Below.alloc ?_ (by (try simp) <;> omega) _)))
  obtain rfl : ky = 0 := by simpa using z3
  clear z3
  cases v
  case true =>
    have HF := Lib.hid (show fdE ts true ⟨4, 0, 0, 0, 0⟩ = 7 from fdE_bel (by simp [bel]))
    go_enter Try.func45, Try.ntmps45
    go_wp2_with fail
    go_ret
    rw [HF.out]
    refine ⟨rfl, ?_⟩
    (repeat' (first | exact Below.refl _ _ | assumption | (refine Below.alloc ?_ (by (try simp) <;> omega) _)))
  have HF := Lib.hid (show fdE ts false ⟨4, 0, 0, 0, 0⟩ = 0 from fdE_else (by simp [bel]) (by simp))
  go_enter Try.func45, Try.ntmps45
  go_wp2_with fail
  go_ret
  rw [HF.out]
  refine ⟨rfl, ?_⟩
  (repeat' (first | exact Below.refl _ _ | assumption | (refine Below.alloc ?_ (by (try simp) <;> omega) _)))
theorem rfield_7 (A : Option Addr) (n cap : Nat) (ts : List Ty) (nm : ByteArray) (v r : Bool) (FS : Value) (ln ty lk ky : Int) :
    Calls Try.prog 45 #[.slice A n cap, .agg #[.string nm, .bool v, .bool r, FS], fv ⟨7, ln, ty, lk, ky⟩] w fun e w' => e = .returned (.int .i64 (fdE ts v ⟨7, ln, ty, lk, ky⟩ : Nat)) ∧ Below w.heap.size w w' := by
  unfold fv
  cases z0 : (ln == 0)
  case false =>
    have HF := Lib.hid (show fdE ts v ⟨7, ln, ty, lk, ky⟩ = 7 from fdE_bel (by simp at z0; simp [bel, z0]))
    go_enter Try.func45, Try.ntmps45
    go_wp2_with fail
    go_ret
    rw [HF.out]
    refine ⟨rfl, ?_⟩
    (repeat' (first | exact Below.refl _ _ | assumption | (refine Below.alloc ?_ (by (try simp) <;> omega) _)))
  obtain rfl : ln = 0 := by simpa using z0
  clear z0
  cases z1 : (ty == 0)
  case false =>
    have HF := Lib.hid (show fdE ts v ⟨7, 0, ty, lk, ky⟩ = 7 from fdE_bel (by simp at z1; simp [bel, z1]))
    go_enter Try.func45, Try.ntmps45
    go_wp2_with fail
    go_ret
    rw [HF.out]
    refine ⟨rfl, ?_⟩
    (repeat' (first | exact Below.refl _ _ | assumption | (refine Below.alloc ?_ (by (try simp) <;> omega) _)))
  obtain rfl : ty = 0 := by simpa using z1
  clear z1
  cases z2 : (lk == 0)
  case false =>
    have HF := Lib.hid (show fdE ts v ⟨7, 0, 0, lk, ky⟩ = 7 from fdE_bel (by simp at z2; simp [bel, z2]))
    go_enter Try.func45, Try.ntmps45
    go_wp2_with fail
    go_ret
    rw [HF.out]
    refine ⟨rfl, ?_⟩
    (repeat' (first | exact Below.refl _ _ | assumption | (refine Below.alloc ?_ (by (try simp) <;> omega) _)))
  obtain rfl : lk = 0 := by simpa using z2
  clear z2
  cases z3 : (ky == 0)
  case false =>
    have HF := Lib.hid (show fdE ts v ⟨7, 0, 0, 0, ky⟩ = 7 from fdE_bel (by simp at z3; simp [bel, z3]))
    go_enter Try.func45, Try.ntmps45
    go_wp2_with fail
    go_ret
    rw [HF.out]
    refine ⟨rfl, ?_⟩
    (repeat' (first | exact Below.refl _ _ | assumption | (refine Below.alloc ?_ (by (try simp) <;> omega) _)))
  obtain rfl : ky = 0 := by simpa using z3
  clear z3
  cases v
  case false =>
    have HF := Lib.hid (show fdE ts false ⟨7, 0, 0, 0, 0⟩ = 7 from fdE_bel (by simp [bel]))
    go_enter Try.func45, Try.ntmps45
    go_wp2_with fail
    go_ret
    rw [HF.out]
    refine ⟨rfl, ?_⟩
    (repeat' (first | exact Below.refl _ _ | assumption | (refine Below.alloc ?_ (by (try simp) <;> omega) _)))
  have HF := Lib.hid (show fdE ts true ⟨7, 0, 0, 0, 0⟩ = 0 from fdE_else (by simp [bel]) (by simp))
  go_enter Try.func45, Try.ntmps45
  go_wp2_with fail
  go_ret
  rw [HF.out]
  refine ⟨rfl, ?_⟩
  (repeat' (first | exact Below.refl _ _ | assumption | (refine Below.alloc ?_ (by (try simp) <;> omega) _)))
theorem rfield_0 (A : Option Addr) (n cap : Nat) (ts : List Ty) (nm : ByteArray) (v r : Bool) (FS : Value) (kd ln ty lk ky : Int) (hk : (kd == 1) = false ∧ (kd == 2) = false ∧ (kd == 3) = false ∧ (kd == 4) = false ∧ (kd == 5) = false ∧ (kd == 6) = false ∧ (kd == 7) = false) :
    Calls Try.prog 45 #[.slice A n cap, .agg #[.string nm, .bool v, .bool r, FS], fv ⟨kd, ln, ty, lk, ky⟩] w fun e w' => e = .returned (.int .i64 (fdE ts v ⟨kd, ln, ty, lk, ky⟩ : Nat)) ∧ Below w.heap.size w w' := by
  unfold fv
  obtain ⟨n1, n2, n3, n4, n5, n6, n7⟩ := hk
  have HF := Lib.hid (show fdE ts v ⟨kd, ln, ty, lk, ky⟩ = 7 from fdE_bel (by simp at n1 n2 n3 n4 n5 n6 n7; simp [bel, n1, n2, n3, n4, n5, n6, n7]))
  go_enter Try.func45, Try.ntmps45
  go_wp2_with fail
  go_ret
  rw [HF.out]
  refine ⟨rfl, ?_⟩
  (repeat' (first | exact Below.refl _ _ | assumption | (refine Below.alloc ?_ (by (try simp) <;> omega) _)))
end
end Go.Proofs.Ytnkjlocjfljjlaa
