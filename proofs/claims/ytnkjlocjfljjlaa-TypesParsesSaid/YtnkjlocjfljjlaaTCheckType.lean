/- The contract of checkType. Condition: the types can be read. -/
import Derived.Test.YtnkjlocjfljjlaaTCheckField
import Derived.Test.YtnkjlocjfljjlaaTLayout
namespace Go.Proofs.Ytnkjlocjfljjlaa
open Go.RowKit
set_option maxRecDepth 100000
set_option maxHeartbeats 4000000
theorem ty_big {ts : List Ty} {t : Ty} (h : 12 < t.fields.length) : tyE ts t = 11 := by unfold tyE; rw [if_pos h]
theorem ty_both {ts : List Ty} {t : Ty} (h : ¬ 12 < t.fields.length) (h2 : (t.value && t.refs) = true) : tyE ts t = 7 := by unfold tyE; rw [if_neg h, if_pos h2]
theorem ty_field {ts : List Ty} {t : Ty} {j : Nat} {f : Fd} (h : ¬ 12 < t.fields.length) (h2 : (t.value && t.refs) = false) (hz : ∀ (k : Nat) (x : Fd), k < j → t.fields[k]? = some x → fdE ts t.value x = 0) (hf : t.fields[j]? = some f) (he : fdE ts t.value f ≠ 0) : tyE ts t = fdE ts t.value f := by
  have e := firstE_at hz hf he
  unfold tyE
  rw [if_neg h, if_neg (by rw [h2]; decide), if_pos (by rw [e]; exact he), e]
theorem ty_lock {ts : List Ty} {t : Ty} (h : ¬ 12 < t.fields.length) (h2 : (t.value && t.refs) = false) (hz : ∀ (k : Nat) (x : Fd), t.fields[k]? = some x → fdE ts t.value x = 0) (hl : lkF t.fields = false) : tyE ts t = 9 := by
  have e := firstE_end hz
  unfold tyE
  rw [if_neg h, if_neg (by rw [h2]; decide), if_neg (by rw [e]; decide), if_pos hl]
theorem ty_end {ts : List Ty} {t : Ty} (h : ¬ 12 < t.fields.length) (h2 : (t.value && t.refs) = false) (hz : ∀ (k : Nat) (x : Fd), t.fields[k]? = some x → fdE ts t.value x = 0) (hl : lkF t.fields = true) : tyE ts t = laE t.fields := by
  have e := firstE_end hz
  unfold tyE
  rw [if_neg h, if_neg (by rw [h2]; decide), if_neg (by rw [e]; decide), if_neg (by rw [hl]; decide)]
section
variable {w : World}
theorem checkType_f (A : Option Addr) (n cap : Nat) (ts : List Ty) (h : Lt w A n cap ts) (tn : ByteArray) (tr : Bool) (fs : List Fd) (FA : Option Addr) (fk fc : Nat) (hf : Lf w FA fk fc fs) (hk : ¬ 12 < fk) (g : Nat) (hg : g < w.heap.size) (hc : w.cell? ⟨g, 0, none⟩ = some (.slice A n cap)) :
    Calls Try.prog 24 #[.agg #[.string tn, .bool false, .bool tr, .slice FA fk fc], .func (.func 22) #[] #[.pointer (some ⟨g, 0, none⟩)]] w fun e w' => e = .returned (.int .i64 (tyE ts ⟨tn, false, tr, fs⟩ : Nat)) ∧ Below w.heap.size w w' := by
  have HL := Lib.hid hf.len
  have hle := hf.le
  have hmx := hf.max
  have HF := Lib.hid hf
  have H := Lib.hid h
  have HC := Lib.hid hc
  clear h hf hc
  have hk2 : fk ≤ 12 := by omega
  have HK := Lib.hid (show ¬ 12 < fs.length by rw [HL.out]; exact hk)
  obtain ⟨w0, hw0⟩ : ∃ w0, w0 = w.alloc (Obj.cells #[.string tn, .bool false, .bool tr, .slice FA fk fc] 32) := ⟨_, rfl⟩
  have B0 := Lib.hid (show Blk w0 w.heap.size 32 #[.string tn, .bool false, .bool tr, .slice FA fk fc] by rw [hw0]; exact Blk.new _ _ _)
  have L0 := Lib.hid (show Below w.heap.size w w0 by rw [hw0]; (repeat' (first | exact Below.refl _ _ | assumption | (refine Below.alloc ?_ (by (try simp) <;> omega) _))))
  have S0 : w0.heap.size = w.heap.size + 1 := by rw [hw0]; simp
  have HW0 := Lib.hid hw0
  have SS := Lib.hid S0
  clear hw0 S0
  go_enter Try.func24, Try.ntmps24
  go_wp2_with fail
  rw [← HW0.out]
  go_loopw [24] (fun i wr => ∃ j : Nat, j ≤ fk ∧ i = .int .i64 j ∧ Hid (∀ (t : Nat) (x : Fd), t < j → fs[t]? = some x → fdE ts false x = 0) ∧ Hid (Below w0.heap.size w0 wr)) (fun i _ => fk - (intOf i).toNat)
  case atStart => exact ⟨0, Nat.zero_le _, rfl, fun t x ht => absurd ht (by omega), Below.refl _ _⟩
  case round =>
    obtain ⟨j, hj, rfl, HZ, HW0r⟩ := hrel
    have HW := Lib.hid (L0.out.trans (HW0r.out.mono (by rw [SS.out]; omega)))
    have hws := HW0r.out.size
    have hws0 : w.heap.size + 1 ≤ wr.heap.size := by rw [← SS.out]; exact hws
    by_cases hlt : j < fk
    · obtain ⟨b, o, f, rfl, hf, hok, hb, c0, c1, c2, c3, c4⟩ := (HF.out.below HW.out (Nat.le_refl _)).at j hlt
      have hji : (j : Int) < (fk : Int) := by omega
      obtain ⟨kd, ln, ty, lk, ky⟩ := f
      simp only at c0 c1 c2 c3 c4
      obtain ⟨w1, hw1⟩ : ∃ w1, w1 = wr.alloc (Obj.cells #[.int .i64 kd, .int .i64 ln, .int .i64 ty, .int .i64 lk, .int .i64 ky] 53) := ⟨_, rfl⟩
      have L1 := Lib.hid (show Below w0.heap.size w0 w1 by rw [hw1]; exact HW0r.out.alloc hws _)
      have HX := Lib.hid (L0.out.trans (L1.out.mono (by rw [SS.out]; omega)))
      have hs1 := L1.out.size
      have hsx := HX.out.size
      obtain ⟨d0, d1, d2, d3⟩ := four B0.out L1.out (by rw [SS.out]; omega)
      rw [hw1] at d0 d1 d2 d3
      have HW1 := Lib.hid hw1
      have HOK := Lib.hid hok
      clear hw1 hok
      by_cases hq : fdE ts false ⟨kd, ln, ty, lk, ky⟩ = 0
      · have HQ := Lib.hid hq
        clear hq
        go_wp2_with (go_at_call 42; rw [← HW1.out]; refine (checkField_any A n cap ts (H.out.below HX.out (Nat.le_refl _)) ⟨tn, false, tr, fs⟩ (.slice (some ⟨b, o, none⟩) fk fc) ⟨kd, ln, ty, lk, ky⟩ HOK.out g (by omega) ((HX.out.cell (p := ⟨g, 0, none⟩) hg).trans HC.out)).mono ?_; rintro e w2 ⟨rfl, hb2⟩; rw [show fdE ts (Ty.value ⟨tn, false, tr, fs⟩) ⟨kd, ln, ty, lk, ky⟩ = 0 from HQ.out]; have HW2 := Lib.hid (L1.out.trans (hb2.mono hs1)); clear hb2)
        go_roundw
        case rel => exact ⟨j + 1, by omega, by go_num, all_snoc HZ.out hf.out HQ.out, HW2.out⟩
        case measure => simp [intOf]; omega
      · obtain ⟨q, hqq⟩ : ∃ q : Nat, fdE ts false ⟨kd, ln, ty, lk, ky⟩ = q := ⟨_, rfl⟩
        have HE := Lib.hid (ty_field (t := ⟨tn, false, tr, fs⟩) HK.out rfl HZ.out hf.out hq)
        have hqn : ((q : Int) != 0) = true := by rw [← hqq]; simpa using hq
        have HQ := Lib.hid hqq
        clear hq hqq
        go_wp2_with (go_at_call 42; rw [← HW1.out]; refine (checkField_any A n cap ts (H.out.below HX.out (Nat.le_refl _)) ⟨tn, false, tr, fs⟩ (.slice (some ⟨b, o, none⟩) fk fc) ⟨kd, ln, ty, lk, ky⟩ HOK.out g (by omega) ((HX.out.cell (p := ⟨g, 0, none⟩) hg).trans HC.out)).mono ?_; rintro e w2 ⟨rfl, hb2⟩; rw [show fdE ts (Ty.value ⟨tn, false, tr, fs⟩) ⟨kd, ln, ty, lk, ky⟩ = q from HQ.out]; have HW2 := Lib.hid (HX.out.trans (hb2.mono (by omega))); clear hb2)
        go_ret
        rw [HE.out, show fdE ts (Ty.value ⟨tn, false, tr, fs⟩) ⟨kd, ln, ty, lk, ky⟩ = q from HQ.out]
        exact ⟨rfl, HW2.out⟩
    · obtain rfl : j = fk := by omega
      have HA := Lib.hid (all_upto HZ.out (Nat.le_of_eq HL.out))
      obtain ⟨d0, d1, d2, d3⟩ := four B0.out HW0r.out (by rw [SS.out]; omega)
      cases hlk : lkF fs
      · have HE := Lib.hid (ty_lock (t := ⟨tn, false, tr, fs⟩) HK.out rfl HA.out hlk)
        have HLK := Lib.hid hlk
        clear hlk
        go_wp2_with (go_at_call 43; refine (locksFit_any tn false tr FA j fc fs (HF.out.below HW.out (Nat.le_refl _))).mono ?_; rintro e w2 ⟨rfl, hb2⟩; rw [HLK.out]; have HW2 := Lib.hid (HW.out.trans (hb2.mono (by omega))); clear hb2)
        go_ret
        rw [HE.out]
        exact ⟨rfl, HW2.out⟩
      · have HE := Lib.hid (ty_end (t := ⟨tn, false, tr, fs⟩) HK.out rfl HA.out hlk)
        have HLK := Lib.hid hlk
        clear hlk
        go_wp2_with (go_at_call 43; refine (locksFit_any tn false tr FA j fc fs (HF.out.below HW.out (Nat.le_refl _))).mono ?_; rintro e w2 ⟨rfl, hb2⟩; rw [HLK.out]; have HW2 := Lib.hid (HW.out.trans (hb2.mono (by omega))); have hs2 := hb2.size; obtain ⟨f0, f1, f2, f3⟩ := four B0.out (HW0r.out.trans (hb2.mono hws)) (by rw [SS.out]; omega); clear hb2)
        go_wp2_with (go_at_call 14; refine (layout_any tn false tr FA j fc fs (HF.out.below HW2.out (Nat.le_refl _))).mono ?_; rintro e w3 ⟨v3, rfl, hv3, hb3⟩; have HW3 := Lib.hid (HW2.out.trans (hb3.mono (by omega))); clear hb3 hv3)
        go_ret
        rw [HE.out]
        exact ⟨rfl, HW3.out⟩
theorem checkType_t (A : Option Addr) (n cap : Nat) (ts : List Ty) (h : Lt w A n cap ts) (tn : ByteArray) (fs : List Fd) (FA : Option Addr) (fk fc : Nat) (hf : Lf w FA fk fc fs) (hk : ¬ 12 < fk) (g : Nat) (hg : g < w.heap.size) (hc : w.cell? ⟨g, 0, none⟩ = some (.slice A n cap)) :
    Calls Try.prog 24 #[.agg #[.string tn, .bool true, .bool false, .slice FA fk fc], .func (.func 22) #[] #[.pointer (some ⟨g, 0, none⟩)]] w fun e w' => e = .returned (.int .i64 (tyE ts ⟨tn, true, false, fs⟩ : Nat)) ∧ Below w.heap.size w w' := by
  have HL := Lib.hid hf.len
  have hle := hf.le
  have hmx := hf.max
  have HF := Lib.hid hf
  have H := Lib.hid h
  have HC := Lib.hid hc
  clear h hf hc
  have hk2 : fk ≤ 12 := by omega
  have HK := Lib.hid (show ¬ 12 < fs.length by rw [HL.out]; exact hk)
  obtain ⟨w0, hw0⟩ : ∃ w0, w0 = w.alloc (Obj.cells #[.string tn, .bool true, .bool false, .slice FA fk fc] 32) := ⟨_, rfl⟩
  have B0 := Lib.hid (show Blk w0 w.heap.size 32 #[.string tn, .bool true, .bool false, .slice FA fk fc] by rw [hw0]; exact Blk.new _ _ _)
  have L0 := Lib.hid (show Below w.heap.size w w0 by rw [hw0]; (repeat' (first | exact Below.refl _ _ | assumption | (refine Below.alloc ?_ (by (try simp) <;> omega) _))))
  have S0 : w0.heap.size = w.heap.size + 1 := by rw [hw0]; simp
  have HW0 := Lib.hid hw0
  have SS := Lib.hid S0
  clear hw0 S0
  go_enter Try.func24, Try.ntmps24
  go_wp2_with fail
  rw [← HW0.out]
  go_loopw [24] (fun i wr => ∃ j : Nat, j ≤ fk ∧ i = .int .i64 j ∧ Hid (∀ (t : Nat) (x : Fd), t < j → fs[t]? = some x → fdE ts true x = 0) ∧ Hid (Below w0.heap.size w0 wr)) (fun i _ => fk - (intOf i).toNat)
  case atStart => exact ⟨0, Nat.zero_le _, rfl, fun t x ht => absurd ht (by omega), Below.refl _ _⟩
  case round =>
    obtain ⟨j, hj, rfl, HZ, HW0r⟩ := hrel
    have HW := Lib.hid (L0.out.trans (HW0r.out.mono (by rw [SS.out]; omega)))
    have hws := HW0r.out.size
    have hws0 : w.heap.size + 1 ≤ wr.heap.size := by rw [← SS.out]; exact hws
    by_cases hlt : j < fk
    · obtain ⟨b, o, f, rfl, hf, hok, hb, c0, c1, c2, c3, c4⟩ := (HF.out.below HW.out (Nat.le_refl _)).at j hlt
      have hji : (j : Int) < (fk : Int) := by omega
      obtain ⟨kd, ln, ty, lk, ky⟩ := f
      simp only at c0 c1 c2 c3 c4
      obtain ⟨w1, hw1⟩ : ∃ w1, w1 = wr.alloc (Obj.cells #[.int .i64 kd, .int .i64 ln, .int .i64 ty, .int .i64 lk, .int .i64 ky] 53) := ⟨_, rfl⟩
      have L1 := Lib.hid (show Below w0.heap.size w0 w1 by rw [hw1]; exact HW0r.out.alloc hws _)
      have HX := Lib.hid (L0.out.trans (L1.out.mono (by rw [SS.out]; omega)))
      have hs1 := L1.out.size
      have hsx := HX.out.size
      obtain ⟨d0, d1, d2, d3⟩ := four B0.out L1.out (by rw [SS.out]; omega)
      rw [hw1] at d0 d1 d2 d3
      have HW1 := Lib.hid hw1
      have HOK := Lib.hid hok
      clear hw1 hok
      by_cases hq : fdE ts true ⟨kd, ln, ty, lk, ky⟩ = 0
      · have HQ := Lib.hid hq
        clear hq
        go_wp2_with (go_at_call 42; rw [← HW1.out]; refine (checkField_any A n cap ts (H.out.below HX.out (Nat.le_refl _)) ⟨tn, true, false, fs⟩ (.slice (some ⟨b, o, none⟩) fk fc) ⟨kd, ln, ty, lk, ky⟩ HOK.out g (by omega) ((HX.out.cell (p := ⟨g, 0, none⟩) hg).trans HC.out)).mono ?_; rintro e w2 ⟨rfl, hb2⟩; rw [show fdE ts (Ty.value ⟨tn, true, false, fs⟩) ⟨kd, ln, ty, lk, ky⟩ = 0 from HQ.out]; have HW2 := Lib.hid (L1.out.trans (hb2.mono hs1)); clear hb2)
        go_roundw
        case rel => exact ⟨j + 1, by omega, by go_num, all_snoc HZ.out hf.out HQ.out, HW2.out⟩
        case measure => simp [intOf]; omega
      · obtain ⟨q, hqq⟩ : ∃ q : Nat, fdE ts true ⟨kd, ln, ty, lk, ky⟩ = q := ⟨_, rfl⟩
        have HE := Lib.hid (ty_field (t := ⟨tn, true, false, fs⟩) HK.out rfl HZ.out hf.out hq)
        have hqn : ((q : Int) != 0) = true := by rw [← hqq]; simpa using hq
        have HQ := Lib.hid hqq
        clear hq hqq
        go_wp2_with (go_at_call 42; rw [← HW1.out]; refine (checkField_any A n cap ts (H.out.below HX.out (Nat.le_refl _)) ⟨tn, true, false, fs⟩ (.slice (some ⟨b, o, none⟩) fk fc) ⟨kd, ln, ty, lk, ky⟩ HOK.out g (by omega) ((HX.out.cell (p := ⟨g, 0, none⟩) hg).trans HC.out)).mono ?_; rintro e w2 ⟨rfl, hb2⟩; rw [show fdE ts (Ty.value ⟨tn, true, false, fs⟩) ⟨kd, ln, ty, lk, ky⟩ = q from HQ.out]; have HW2 := Lib.hid (HX.out.trans (hb2.mono (by omega))); clear hb2)
        go_ret
        rw [HE.out, show fdE ts (Ty.value ⟨tn, true, false, fs⟩) ⟨kd, ln, ty, lk, ky⟩ = q from HQ.out]
        exact ⟨rfl, HW2.out⟩
    · obtain rfl : j = fk := by omega
      have HA := Lib.hid (all_upto HZ.out (Nat.le_of_eq HL.out))
      obtain ⟨d0, d1, d2, d3⟩ := four B0.out HW0r.out (by rw [SS.out]; omega)
      cases hlk : lkF fs
      · have HE := Lib.hid (ty_lock (t := ⟨tn, true, false, fs⟩) HK.out rfl HA.out hlk)
        have HLK := Lib.hid hlk
        clear hlk
        go_wp2_with (go_at_call 43; refine (locksFit_any tn true false FA j fc fs (HF.out.below HW.out (Nat.le_refl _))).mono ?_; rintro e w2 ⟨rfl, hb2⟩; rw [HLK.out]; have HW2 := Lib.hid (HW.out.trans (hb2.mono (by omega))); clear hb2)
        go_ret
        rw [HE.out]
        exact ⟨rfl, HW2.out⟩
      · have HE := Lib.hid (ty_end (t := ⟨tn, true, false, fs⟩) HK.out rfl HA.out hlk)
        have HLK := Lib.hid hlk
        clear hlk
        go_wp2_with (go_at_call 43; refine (locksFit_any tn true false FA j fc fs (HF.out.below HW.out (Nat.le_refl _))).mono ?_; rintro e w2 ⟨rfl, hb2⟩; rw [HLK.out]; have HW2 := Lib.hid (HW.out.trans (hb2.mono (by omega))); have hs2 := hb2.size; obtain ⟨f0, f1, f2, f3⟩ := four B0.out (HW0r.out.trans (hb2.mono hws)) (by rw [SS.out]; omega); clear hb2)
        go_wp2_with (go_at_call 14; refine (layout_any tn true false FA j fc fs (HF.out.below HW2.out (Nat.le_refl _))).mono ?_; rintro e w3 ⟨v3, rfl, hv3, hb3⟩; have HW3 := Lib.hid (HW2.out.trans (hb3.mono (by omega))); clear hb3 hv3)
        go_ret
        rw [HE.out]
        exact ⟨rfl, HW3.out⟩
theorem checkType_any (A : Option Addr) (n cap : Nat) (ts : List Ty) (h : Lt w A n cap ts) (t : Ty) (FA : Option Addr) (fk fc : Nat) (hf : Lf w FA fk fc t.fields) (g : Nat) (hg : g < w.heap.size) (hc : w.cell? ⟨g, 0, none⟩ = some (.slice A n cap)) :
    Calls Try.prog 24 #[.agg #[.string t.name, .bool t.value, .bool t.refs, .slice FA fk fc], .func (.func 22) #[] #[.pointer (some ⟨g, 0, none⟩)]] w fun e w' => e = .returned (.int .i64 (tyE ts t : Nat)) ∧ Below w.heap.size w w' := by
  obtain ⟨tn, tv, tr, fs⟩ := t
  by_cases hk : 12 < fk
  · have HL := Lib.hid hf.len
    have hmx := hf.max
    have hle := hf.le
    simp only at HL
    clear h hf hc
    have HE := Lib.hid (ty_big (ts := ts) (t := ⟨tn, tv, tr, fs⟩) (show 12 < fs.length by rw [HL.out]; exact hk))
    go_enter Try.func24, Try.ntmps24
    go_wp2_with fail
    go_ret
    rw [HE.out]
    refine ⟨rfl, ?_⟩
    (repeat' (first | exact Below.refl _ _ | assumption | (refine Below.alloc ?_ (by (try simp) <;> omega) _)))
  · cases tv
    · exact checkType_f A n cap ts h tn tr fs FA fk fc hf hk g hg hc
    · cases tr
      · exact checkType_t A n cap ts h tn fs FA fk fc hf hk g hg hc
      · have HL := Lib.hid hf.len
        have hmx := hf.max
        have hle := hf.le
        simp only at HL
        clear h hf hc
        have hk2 : fk ≤ 12 := by omega
        have HE := Lib.hid (ty_both (ts := ts) (t := ⟨tn, true, true, fs⟩) (show ¬ 12 < fs.length by rw [HL.out]; exact hk) rfl)
        go_enter Try.func24, Try.ntmps24
        go_wp2_with fail
        go_ret
        rw [HE.out]
        refine ⟨rfl, ?_⟩
        (repeat' (first | exact Below.refl _ _ | assumption | (refine Below.alloc ?_ (by (try simp) <;> omega) _)))
end
end Go.Proofs.Ytnkjlocjfljjlaa
