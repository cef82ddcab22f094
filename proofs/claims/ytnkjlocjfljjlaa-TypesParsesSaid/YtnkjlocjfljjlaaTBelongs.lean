/- The contracts of belongs and leadsTo. Condition: the fields can be read. -/
import Derived.Test.YtnkjlocjfljjlaaTSmall
namespace Go.Proofs.Ytnkjlocjfljjlaa
open Go.RowKit
set_option maxRecDepth 100000
set_option maxHeartbeats 4000000

theorem bel_eq (v : Bool) (f : Fd) : bel v f =
    if f.kind = 1 then allz [f.ty, f.link, f.key] else if f.kind = 2 then allz [f.len, f.link, f.key]
    else if f.kind = 3 ∨ f.kind = 4 then allz [f.len, f.ty, f.link, f.key] && !v
    else if f.kind = 5 then allz [f.len, f.key] && v else if f.kind = 6 then allz [f.len] && v
    else if f.kind = 7 then allz [f.len, f.ty, f.link, f.key] && v else false := by
  unfold bel
  repeat' split
  all_goals simp [allz, Bool.decide_and, Bool.and_assoc]
section
variable {w : World}
theorem belongs_any (t : Ty) (FS : Value) (f : Fd) (hok : f.ok) :
    Calls Try.prog 54 #[.agg #[.string t.name, .bool t.value, .bool t.refs, FS], fv f] w fun e w' => e = .returned (.bool (bel t.value f)) ∧ Below w.heap.size w w' := by
  obtain ⟨kd, ln, ty, lk, ky⟩ := f
  obtain ⟨hok0, hok1, hok2, hok3, hok4⟩ := hok
  simp only at hok1 hok2 hok3 hok4
  have HO := Lib.hid (And.intro hok1 (And.intro hok2 (And.intro hok3 hok4)))
  clear hok0 hok1 hok2 hok3 hok4
  unfold fv
  generalize hv : t.value = v
  have HE := Lib.hid (bel_eq v ⟨kd, ln, ty, lk, ky⟩)
  clear hv
  rcases kinds kd with rfl | rfl | rfl | rfl | rfl | rfl | rfl | ⟨n1, n2, n3, n4, n5, n6, n7⟩
  · have HB0 := Lib.hid (show bel v ⟨1, ln, ty, lk, ky⟩ = allz [ty, lk, ky] by rw [HE.out]; simp)
    go_enter Try.func54, Try.ntmps54
    go_wp2_with (go_at_call 58; refine (allZero_any _ _ _ [ty, lk, ky] (li_3 (by simp) ty lk ky (fit_cons HO.out.2.1 (fit_cons HO.out.2.2.1 (fit1 HO.out.2.2.2))))).mono ?_; rintro e w1 ⟨rfl, hb⟩; have cV := hb.cell (p := ⟨w.heap.size, 1, none⟩) (by simp <;> omega); have HB := Lib.hid hb; clear hb)
    go_ret
    rw [HB0.out]
    refine ⟨rfl, Below.trans ?_ (HB.out.mono (by simp <;> omega))⟩
    (repeat' (first | exact Below.refl _ _ | assumption | (refine Below.alloc ?_ (by (try simp) <;> omega) _)))
  · have HB0 := Lib.hid (show bel v ⟨2, ln, ty, lk, ky⟩ = allz [ln, lk, ky] by rw [HE.out]; simp)
    go_enter Try.func54, Try.ntmps54
    go_wp2_with (go_at_call 58; refine (allZero_any _ _ _ [ln, lk, ky] (li_3 (by simp) ln lk ky (fit_cons HO.out.1 (fit_cons HO.out.2.2.1 (fit1 HO.out.2.2.2))))).mono ?_; rintro e w1 ⟨rfl, hb⟩; have cV := hb.cell (p := ⟨w.heap.size, 1, none⟩) (by simp <;> omega); have HB := Lib.hid hb; clear hb)
    go_ret
    rw [HB0.out]
    refine ⟨rfl, Below.trans ?_ (HB.out.mono (by simp <;> omega))⟩
    (repeat' (first | exact Below.refl _ _ | assumption | (refine Below.alloc ?_ (by (try simp) <;> omega) _)))
  · cases hz : allz [ln, ty, lk, ky]
    case' false => have HB0 := Lib.hid (show bel v ⟨3, ln, ty, lk, ky⟩ = false by rw [HE.out]; simp [hz])
    case' true => have HB0 := Lib.hid (show bel v ⟨3, ln, ty, lk, ky⟩ = !v by rw [HE.out]; simp [hz])
    all_goals
      have HZ := Lib.hid hz
      clear hz
      go_enter Try.func54, Try.ntmps54
      go_wp2_with (go_at_call 58; refine (allZero_any _ _ _ [ln, ty, lk, ky] (li_4 (by simp) ln ty lk ky (fit_cons HO.out.1 (fit_cons HO.out.2.1 (fit_cons HO.out.2.2.1 (fit1 HO.out.2.2.2)))))).mono ?_; rintro e w1 ⟨rfl, hb⟩; rw [HZ.out]; have cV := hb.cell (p := ⟨w.heap.size, 1, none⟩) (by simp <;> omega); have HB := Lib.hid hb; clear hb)
      go_ret
      rw [HB0.out]
      refine ⟨rfl, Below.trans ?_ (HB.out.mono (by simp <;> omega))⟩
      (repeat' (first | exact Below.refl _ _ | assumption | (refine Below.alloc ?_ (by (try simp) <;> omega) _)))
  · cases hz : allz [ln, ty, lk, ky]
    case' false => have HB0 := Lib.hid (show bel v ⟨4, ln, ty, lk, ky⟩ = false by rw [HE.out]; simp [hz])
    case' true => have HB0 := Lib.hid (show bel v ⟨4, ln, ty, lk, ky⟩ = !v by rw [HE.out]; simp [hz])
    all_goals
      have HZ := Lib.hid hz
      clear hz
      go_enter Try.func54, Try.ntmps54
      go_wp2_with (go_at_call 58; refine (allZero_any _ _ _ [ln, ty, lk, ky] (li_4 (by simp) ln ty lk ky (fit_cons HO.out.1 (fit_cons HO.out.2.1 (fit_cons HO.out.2.2.1 (fit1 HO.out.2.2.2)))))).mono ?_; rintro e w1 ⟨rfl, hb⟩; rw [HZ.out]; have cV := hb.cell (p := ⟨w.heap.size, 1, none⟩) (by simp <;> omega); have HB := Lib.hid hb; clear hb)
      go_ret
      rw [HB0.out]
      refine ⟨rfl, Below.trans ?_ (HB.out.mono (by simp <;> omega))⟩
      (repeat' (first | exact Below.refl _ _ | assumption | (refine Below.alloc ?_ (by (try simp) <;> omega) _)))
  · cases hz : allz [ln, ky]
    case' false => have HB0 := Lib.hid (show bel v ⟨5, ln, ty, lk, ky⟩ = false by rw [HE.out]; simp [hz])
    case' true => have HB0 := Lib.hid (show bel v ⟨5, ln, ty, lk, ky⟩ = v by rw [HE.out]; simp [hz])
    all_goals
      have HZ := Lib.hid hz
      clear hz
      go_enter Try.func54, Try.ntmps54
      go_wp2_with (go_at_call 58; refine (allZero_any _ _ _ [ln, ky] (li_2 (by simp) ln ky (fit_cons HO.out.1 (fit1 HO.out.2.2.2)))).mono ?_; rintro e w1 ⟨rfl, hb⟩; rw [HZ.out]; have cV := hb.cell (p := ⟨w.heap.size, 1, none⟩) (by simp <;> omega); have HB := Lib.hid hb; clear hb)
      go_ret
      rw [HB0.out]
      refine ⟨rfl, Below.trans ?_ (HB.out.mono (by simp <;> omega))⟩
      (repeat' (first | exact Below.refl _ _ | assumption | (refine Below.alloc ?_ (by (try simp) <;> omega) _)))
  · cases hz : allz [ln]
    case' false => have HB0 := Lib.hid (show bel v ⟨6, ln, ty, lk, ky⟩ = false by rw [HE.out]; simp [hz])
    case' true => have HB0 := Lib.hid (show bel v ⟨6, ln, ty, lk, ky⟩ = v by rw [HE.out]; simp [hz])
    all_goals
      have HZ := Lib.hid hz
      clear hz
      go_enter Try.func54, Try.ntmps54
      go_wp2_with (go_at_call 58; refine (allZero_any _ _ _ [ln] (li_1 (by simp) ln (fit1 HO.out.1))).mono ?_; rintro e w1 ⟨rfl, hb⟩; rw [HZ.out]; have cV := hb.cell (p := ⟨w.heap.size, 1, none⟩) (by simp <;> omega); have HB := Lib.hid hb; clear hb)
      go_ret
      rw [HB0.out]
      refine ⟨rfl, Below.trans ?_ (HB.out.mono (by simp <;> omega))⟩
      (repeat' (first | exact Below.refl _ _ | assumption | (refine Below.alloc ?_ (by (try simp) <;> omega) _)))
  · cases hz : allz [ln, ty, lk, ky]
    case' false => have HB0 := Lib.hid (show bel v ⟨7, ln, ty, lk, ky⟩ = false by rw [HE.out]; simp [hz])
    case' true => have HB0 := Lib.hid (show bel v ⟨7, ln, ty, lk, ky⟩ = v by rw [HE.out]; simp [hz])
    all_goals
      have HZ := Lib.hid hz
      clear hz
      go_enter Try.func54, Try.ntmps54
      go_wp2_with (go_at_call 58; refine (allZero_any _ _ _ [ln, ty, lk, ky] (li_4 (by simp) ln ty lk ky (fit_cons HO.out.1 (fit_cons HO.out.2.1 (fit_cons HO.out.2.2.1 (fit1 HO.out.2.2.2)))))).mono ?_; rintro e w1 ⟨rfl, hb⟩; rw [HZ.out]; have cV := hb.cell (p := ⟨w.heap.size, 1, none⟩) (by simp <;> omega); have HB := Lib.hid hb; clear hb)
      go_ret
      rw [HB0.out]
      refine ⟨rfl, Below.trans ?_ (HB.out.mono (by simp <;> omega))⟩
      (repeat' (first | exact Below.refl _ _ | assumption | (refine Below.alloc ?_ (by (try simp) <;> omega) _)))
  · have HB0 := Lib.hid (show bel v ⟨kd, ln, ty, lk, ky⟩ = false by
      rw [HE.out]
      simp at n1 n2 n3 n4 n5 n6 n7
      simp [n1, n2, n3, n4, n5, n6, n7])
    go_enter Try.func54, Try.ntmps54
    go_wp2_with fail
    go_ret
    rw [HB0.out]
    refine ⟨rfl, ?_⟩
    (repeat' (first | exact Below.refl _ _ | assumption | (refine Below.alloc ?_ (by (try simp) <;> omega) _)))
theorem leadsTo_any (f : Fd) (u : Ty) (FA : Option Addr) (fk fc : Nat) (h : Lf w FA fk fc u.fields) :
    Calls Try.prog 55 #[fv f, .agg #[.string u.name, .bool u.value, .bool u.refs, .slice FA fk fc]] w fun e w' => e = .returned (.bool (lead f u)) ∧ Below w.heap.size w w' := by
  obtain ⟨kd, ln, ty, lk, ky⟩ := f
  unfold fv
  have H := Lib.hid h
  clear h
  have HD := Lib.hid (show lead ⟨kd, ln, ty, lk, ky⟩ u = if u.value = true then false else if kd = 5 then decide (kat u.fields lk = 3) else if kd = 6 then !u.refs && decide (kat u.fields lk = 4) && decide (kat u.fields ky = 1) else true from rfl)
  have HU := Lib.hid (show u = ⟨u.name, u.value, u.refs, u.fields⟩ from rfl)
  cases hv : u.value
  case true =>
    have HB0 := Lib.hid (show lead ⟨kd, ln, ty, lk, ky⟩ u = false by rw [HD.out, hv]; rfl)
    clear hv
    go_enter Try.func55, Try.ntmps55
    go_wp2_with fail
    go_ret
    rw [HB0.out]
    refine ⟨rfl, ?_⟩
    (repeat' (first | exact Below.refl _ _ | assumption | (refine Below.alloc ?_ (by (try simp) <;> omega) _)))
  case false =>
    have HV := Lib.hid hv
    clear hv
    by_cases h5 : kd = 5
    · subst h5
      by_cases hq : kat u.fields lk = 3
      case' pos => have HB0 := Lib.hid (show lead ⟨5, ln, ty, lk, ky⟩ u = true by rw [HD.out, HV.out]; simp [hq]); have HK := Lib.hid hq; have hk3 : (kat u.fields lk == 3) = true := by simp [hq]
      case' neg => have HB0 := Lib.hid (show lead ⟨5, ln, ty, lk, ky⟩ u = false by rw [HD.out, HV.out]; simp [hq]); have hk3 : (kat u.fields lk == 3) = false := by simp [hq]
      all_goals
        clear hq
        go_enter Try.func55, Try.ntmps55
        go_wp2_with (go_at_call 59; refine (kindAt_any ⟨u.name, false, u.refs, u.fields⟩ FA fk fc (H.out.below (B := w.heap.size) (by (repeat' (first | exact Below.refl _ _ | assumption | (refine Below.alloc ?_ (by (try simp) <;> omega) _)))) (Nat.le_refl _)) lk).mono ?_; rintro e w1 ⟨rfl, hb⟩; have HB := Lib.hid hb; clear hb)
        go_ret
        rw [HB0.out]
        refine ⟨by simp, Below.trans ?_ (HB.out.mono (by simp <;> omega))⟩
        (repeat' (first | exact Below.refl _ _ | assumption | (refine Below.alloc ?_ (by (try simp) <;> omega) _)))
    · have h5' : (kd == 5) = false := by simp [h5]
      by_cases h6 : kd = 6
      · subst h6
        cases hr : u.refs
        case true =>
          have HB0 := Lib.hid (show lead ⟨6, ln, ty, lk, ky⟩ u = false by rw [HD.out, HV.out, hr]; simp)
          clear hr
          go_enter Try.func55, Try.ntmps55
          go_wp2_with fail
          go_ret
          rw [HB0.out]
          refine ⟨rfl, ?_⟩
          (repeat' (first | exact Below.refl _ _ | assumption | (refine Below.alloc ?_ (by (try simp) <;> omega) _)))
        case false =>
          have HR := Lib.hid hr
          clear hr
          by_cases hq : kat u.fields lk = 4
          · have hk4 : (kat u.fields lk == 4) = true := by simp [hq]
            have HQ := Lib.hid hq
            by_cases hp : kat u.fields ky = 1
            case' pos => have HB0 := Lib.hid (show lead ⟨6, ln, ty, lk, ky⟩ u = true by rw [HD.out, HV.out, HR.out]; simp [hq, hp]); have hk1 : (kat u.fields ky == 1) = true := by simp [hp]
            case' neg => have HB0 := Lib.hid (show lead ⟨6, ln, ty, lk, ky⟩ u = false by rw [HD.out, HV.out, HR.out]; simp [hq, hp]); have hk1 : (kat u.fields ky == 1) = false := by simp [hp]
            all_goals
              clear hq hp
              go_enter Try.func55, Try.ntmps55
              go_wp2_with (go_at_call 59; have _t := HQ; refine (kindAt_any ⟨u.name, false, false, u.fields⟩ FA fk fc (H.out.below (B := w.heap.size) (by (repeat' (first | exact Below.refl _ _ | assumption | (refine Below.alloc ?_ (by (try simp) <;> omega) _)))) (Nat.le_refl _)) lk).mono ?_; rintro e w1 ⟨rfl, hb⟩; clear HQ; have cV0 := hb.cell (p := ⟨w.heap.size, 4, none⟩) (by simp <;> omega); have cV1 := hb.cell (p := ⟨w.heap.size + 1, 0, none⟩) (by simp <;> omega); have cV2 := hb.cell (p := ⟨w.heap.size + 1, 1, none⟩) (by simp <;> omega); have cV3 := hb.cell (p := ⟨w.heap.size + 1, 2, none⟩) (by simp <;> omega); have cV4 := hb.cell (p := ⟨w.heap.size + 1, 3, none⟩) (by simp <;> omega); have HB := Lib.hid (show Below w.heap.size w w1 from Below.trans (by (repeat' (first | exact Below.refl _ _ | assumption | (refine Below.alloc ?_ (by (try simp) <;> omega) _)))) (hb.mono (by simp <;> omega))); clear hb)
              go_wp2_with (go_at_call 59; refine (kindAt_any ⟨u.name, false, false, u.fields⟩ FA fk fc (H.out.below HB.out (Nat.le_refl _)) ky).mono ?_; rintro e w2 ⟨rfl, hb⟩; have HB2 := Lib.hid (HB.out.trans (hb.mono HB.out.size)); clear hb)
              go_ret
              rw [HB0.out]
              exact ⟨by simp, HB2.out⟩
          · have hk4 : (kat u.fields lk == 4) = false := by simp [hq]
            have HB0 := Lib.hid (show lead ⟨6, ln, ty, lk, ky⟩ u = false by rw [HD.out, HV.out, HR.out]; simp [hq])
            clear hq
            go_enter Try.func55, Try.ntmps55
            go_wp2_with (go_at_call 59; refine (kindAt_any ⟨u.name, false, false, u.fields⟩ FA fk fc (H.out.below (B := w.heap.size) (by (repeat' (first | exact Below.refl _ _ | assumption | (refine Below.alloc ?_ (by (try simp) <;> omega) _)))) (Nat.le_refl _)) lk).mono ?_; rintro e w1 ⟨rfl, hb⟩; have HB := Lib.hid hb; clear hb)
            go_ret
            rw [HB0.out]
            refine ⟨rfl, Below.trans ?_ (HB.out.mono (by simp <;> omega))⟩
            (repeat' (first | exact Below.refl _ _ | assumption | (refine Below.alloc ?_ (by (try simp) <;> omega) _)))
      · have h6' : (kd == 6) = false := by simp [h6]
        have HB0 := Lib.hid (show lead ⟨kd, ln, ty, lk, ky⟩ u = true by rw [HD.out, HV.out]; simp [h5, h6])
        go_enter Try.func55, Try.ntmps55
        go_wp2_with fail
        go_ret
        rw [HB0.out]
        refine ⟨rfl, ?_⟩
        (repeat' (first | exact Below.refl _ _ | assumption | (refine Below.alloc ?_ (by (try simp) <;> omega) _)))
end
end Go.Proofs.Ytnkjlocjfljjlaa
