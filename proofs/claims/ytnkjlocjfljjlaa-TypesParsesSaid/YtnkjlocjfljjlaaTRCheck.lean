/- The contracts of the document's Itself and Check. Condition: the types can be read. -/
import Derived.Test.YtnkjlocjfljjlaaTReached
namespace Go.Proofs.Ytnkjlocjfljjlaa
open Go.RowKit
set_option maxRecDepth 100000
set_option maxHeartbeats 4000000
theorem Rcm.all {ts : List Ty} {i : Nat} {t : Ty} {s : List Nat} {m : Nat} (ht : ts[i]? = some t) (h : Rcm t.fields m s) (hl : t.fields.length ≤ m) : ∀ x, edge ts i x → x ∈ s := by
  intro x ⟨t', f, ht', hf, hk2, hb⟩
  rw [ht] at ht'
  injection ht' with ht'
  subst ht'
  obtain ⟨k, hk⟩ := List.mem_iff_getElem?.1 hf
  have hkl := (List.getElem?_eq_some_iff.1 hk).1
  obtain ⟨a, ha, e⟩ := h k f (by omega) hk hk2
  have : a = x := by omega
  exact this ▸ ha
section
variable {w : World}
theorem ritself_any (A : Option Addr) (n cap : Nat) (ts : List Ty) (h : Lt w A n cap ts) (hn : n ≤ 32) (hp : Pok ts) (hfl : ∀ t ∈ ts, t.fields.length ≤ 12) (i : Nat) (hi : i < n) :
    Calls Try.prog 27 #[.slice A n cap, .int .i64 i] w fun e w' => e = .returned (.bool (reach ts i)) ∧ Below w.heap.size w w' := by
  have hle := h.le
  have hmx := h.max
  have HN := Lib.hid h.len
  have H := Lib.hid h
  have HP := Lib.hid hp
  obtain ⟨b, o, t, FA, fk, fc, rfl, hu, hnm, hb, c0, c1, c2, c3, hf⟩ := h.at i hi
  have hf12 := hfl t (List.mem_of_getElem? hu.out)
  obtain ⟨tn, tv, tr, fs⟩ := t
  simp only at hf hf12
  have hfle := hf.out.le
  have hfm := hf.out.max
  have FL := Lib.hid hf.out.len
  rw [FL.out] at hf12
  clear c0 c1 c2 h hp hfl
  go_enter Try.func27, Try.ntmps27
  go_wp2_with fail
  go_loopw [6, 7] (fun u k wr => ∃ (j : Nat) (S : List Nat), j ≤ fk ∧ k = .int .i64 j ∧ S.length ≤ j ∧ Hid (∀ x ∈ S, edge ts i x) ∧ Hid (Rcm fs j S) ∧ Hid (Oi wr w.heap.size u (zs S)) ∧ Hid (Below w.heap.size w wr)) (fun _ k _ => fk - (intOf k).toNat)
  case atStart => exact ⟨0, [], Nat.zero_le _, rfl, by simp, by show ∀ x ∈ [], _; simp, fun t f ht => absurd ht (by omega), Oi.nil _ _, Below.refl _ _⟩
  case round =>
    obtain ⟨j, S, hj, rfl, hSl, HE, HM, HO, HW⟩ := hrel
    by_cases hlt : j < fk
    · obtain ⟨fb, fo, f, rfl, hf', hok, hb', d0, d1, d2, d3, d4⟩ := (hf.out.below HW.out (Nat.le_refl _)).at j hlt
      have hji : (j : Int) < (fk : Int) := by omega
      by_cases hk2 : f.kind = 2
      · obtain ⟨x, hx, hxn⟩ := HP.out _ (List.mem_of_getElem? hu.out) f (List.mem_of_getElem? hf'.out) hk2
        have HED := Lib.hid (show edge ts i x from ⟨_, f, hu.out, List.mem_of_getElem? hf'.out, hk2, hx⟩)
        obtain ⟨kd, ln, ty, lk, ky⟩ := f
        simp only at d0 d1 d2 d3 d4 hk2 hx
        subst hk2 hx
        have HM2 := Lib.hid ((HM.out.more x).next hf'.out fun _ => ⟨x, by simp, rfl⟩)
        have HZL := Lib.hid (show (zs S).length ≤ 100000 by rw [zs_len]; omega)
        have hws := HW.out.size
        clear hok hxn
        go_wp2_with (at_builtin; refine wpList_iapp rfl _ _ rfl w.heap.size _ _ rfl HO.out (x : Int) rfl HZL.out hws ?_; intro v4 w4 h4 h5; have H4 := Lib.hid h4; have H5 := Lib.hid (HW.out.trans h5); clear h4 h5)
        go_roundw
        case rel =>
          refine ⟨j + 1, S ++ [x], by omega, by go_num, by simp; omega, ?_, HM2.out, ?_, H5.out⟩
          · intro z hz
            simp at hz
            rcases hz with h1 | rfl
            · exact HE.out z h1
            · exact HED.out
          · show Oi _ _ _ _
            rw [zs_app]
            exact H4.out
        case measure => simp [intOf]; omega
      · have hk2' : (f.kind == 2) = false := by simp [hk2]
        have HM2 := Lib.hid (HM.out.next hf'.out fun e => absurd e hk2)
        go_wp2_with fail
        go_roundw
        case rel => exact ⟨j + 1, S, by omega, by go_num, by omega, HE.out, HM2.out, HO.out, HW.out⟩
        case measure => simp [intOf]; omega
    · obtain rfl : j = fk := by omega
      have H0 := Lib.hid (Rcm.all (t := ⟨tn, tv, tr, fs⟩) hu.out HM.out (Nat.le_of_eq FL.out))
      have HQ0 := Lib.hid (Sq.start HE.out)
      generalize S = s0 at *
      go_wp2_with fail
      go_loopw [6, 8] (fun u k wr => ∃ (q : Nat) (S : List Nat), q ≤ n ∧ k = .int .i64 q ∧ Hid (Sq ts i s0 q S) ∧ Hid (Oi wr w.heap.size u (zs S)) ∧ Hid (Below w.heap.size w wr)) (fun _ k _ => n - (intOf k).toNat)
      case atStart => exact ⟨0, s0, Nat.zero_le _, rfl, HQ0.out, HO.out, HW.out⟩
      case round =>
        clear HO HW c3
        obtain ⟨q, S, hq, rfl, HQ, HO, HW⟩ := hrel
        have HLN := Lib.hid (HQ.out.len)
        have hln : S.length ≤ 100 := by have := HLN.out; rw [HN.out] at this; omega
        have HSN := Lib.hid (show ∀ x ∈ S, x < n from fun x hx => by
          rw [← HN.out]
          have := HQ.out.rch x hx
          cases this with
          | single h => exact edge_lt HP.out h
          | tail _ h => exact edge_lt HP.out h)
        obtain ⟨OA, ok, oc, rfl, hol⟩ := HO.out.form (fit_zs fun x hx => by have := HSN.out x hx; omega)
        have hoe := hol.le
        have hom := hol.max
        have HOL := Lib.hid hol
        have HOK := Lib.hid (show S.length = ok by rw [← hol.len, zs_len])
        have hokb : ok ≤ 100 := by rw [← HOK.out]; exact hln
        have hws := HW.out.size
        clear hol hln
        by_cases hlq : q < n
        · have hqi : (q : Int) < (n : Int) := by omega
          go_wp2_with (go_at_call 46; refine (rreached_any _ n cap ts (H.out.below HW.out (Nat.le_refl _)) hn HP.out OA ok oc S HOL.out HSN.out (by omega)).mono ?_; rintro e w4 ⟨v4, out, rfl, ho4, hs4, hb4⟩; have HO4 := Lib.hid (ho4.less hws); have HQ4 := Lib.hid (HQ.out.step HP.out hs4); have HW4 := Lib.hid (HW.out.trans (hb4.mono hws)); clear ho4 hs4 hb4)
          go_roundw
          case rel => exact ⟨q + 1, out, by omega, by go_num, HQ4.out, HO4.out, HW4.out⟩
          case measure => simp [intOf]; omega
        · obtain rfl : q = n := by omega
          have HR := Lib.hid (Sq.fin HP.out (by rw [HN.out]; exact HQ.out) H0.out)
          go_wp2_with fail
          go_loopw [9] (fun k wr => ∃ p : Nat, p ≤ ok ∧ k = .int .i64 p ∧ Hid (∀ t, t < p → S[t]? ≠ some i) ∧ Hid (Li wr OA ok oc (zs S)) ∧ Hid (Below w.heap.size w wr)) (fun k _ => ok - (intOf k).toNat)
          case atStart => exact ⟨0, Nat.zero_le _, rfl, fun t ht => absurd ht (by omega), HOL.out, HW.out⟩
          case round =>
            clear HO HW HOL hws
            obtain ⟨p, hp, rfl, HNI, HL, HW⟩ := hrel
            by_cases hlp : p < ok
            · obtain ⟨ob, oo, z0, rfl, hz0, _, _, hob, hcz⟩ := HL.out.intAt p hlp
              obtain ⟨z, hz, rfl⟩ := zs_at hz0.out
              have hpi : (p : Int) < (ok : Int) := by omega
              clear hz0
              by_cases hzi : z = i
              · subst hzi
                have HR2 := Lib.hid (HR.out.trans (decide_eq_true (List.mem_of_getElem? hz)))
                clear hz
                go_wp2_with fail
                go_ret
                rw [HR2.out]
                exact ⟨rfl, HW.out⟩
              · have hzi' : ((z : Int) == (i : Int)) = false := by simp; omega
                have HNI2 := Lib.hid (show ∀ t, t < p + 1 → S[t]? ≠ some i from fun t ht e => by
                  rcases Nat.lt_or_ge t p with h1 | h1
                  · exact HNI.out t h1 e
                  · obtain rfl : t = p := by omega
                    rw [hz] at e
                    injection e with e
                    exact hzi e)
                clear hz
                go_wp2_with fail
                go_roundw
                case rel => exact ⟨p + 1, by omega, by go_num, HNI2.out, HL.out, HW.out⟩
                case measure => simp [intOf]; omega
            · obtain rfl : p = ok := by omega
              have HR2 := Lib.hid (HR.out.trans (decide_eq_false (fun hm => by
                obtain ⟨t, ht⟩ := List.mem_iff_getElem?.1 hm
                exact HNI.out t (by rw [← HOK.out]; exact (List.getElem?_eq_some_iff.1 ht).1) ht)))
              go_wp2_with fail
              go_ret
              rw [HR2.out]
              exact ⟨rfl, HW.out⟩
theorem rcheck_any (A : Option Addr) (n cap : Nat) (ts : List Ty) (h : Lt w A n cap ts) :
    Calls Try.prog 13 #[.slice A n cap] w fun e w' => e = .returned (.tuple #[.int .i64 (ckI ts : Nat), .int .i64 (ckE ts : Nat)]) ∧ Below w.heap.size w w' := by
  have hle := h.le
  have hmx := h.max
  have HN := Lib.hid h.len
  have H := Lib.hid h
  clear h
  by_cases hbig : 32 < n
  · obtain ⟨e1, e2⟩ := ck_big (ts := ts) (by rw [HN.out]; exact hbig)
    have HE := Lib.hid (And.intro e1 e2)
    clear e1 e2
    go_enter Try.func13, Try.ntmps13
    go_wp2_with fail
    go_ret2
    rw [HE.out.1, HE.out.2]
    exact ⟨rfl, Below.refl _ _⟩
  · have hn : n ≤ 32 := by omega
    have HB := Lib.hid (show ¬ 32 < ts.length by rw [HN.out]; exact hbig)
    go_enter Try.func13, Try.ntmps13
    go_wp2_with fail
    go_loopw [4] (fun i wr => ∃ j : Nat, j ≤ n ∧ i = .int .i64 j ∧ Hid (∀ t, t < j → tpE ts t = 0) ∧ Hid (Below w.heap.size w wr)) (fun i _ => n - (intOf i).toNat)
    case atStart => exact ⟨0, Nat.zero_le _, rfl, fun t ht => absurd ht (by omega), Below.refl _ _⟩
    case round =>
      obtain ⟨j, hj, rfl, HZ, HW⟩ := hrel
      have hws := HW.out.size
      by_cases hlt : j < n
      · have hji : (j : Int) < (n : Int) := by omega
        obtain ⟨q, hq⟩ : ∃ q, tpE ts j = q := ⟨_, rfl⟩
        have HQ := Lib.hid hq
        by_cases hq0 : q = 0
        · subst hq0
          clear hq
          go_wp2_with (go_at_call 26; refine (rtype_any A n cap ts (H.out.below HW.out (Nat.le_refl _)) j hlt).mono ?_; rintro e w2 ⟨rfl, hb2⟩; rw [HQ.out]; have HW2 := Lib.hid (HW.out.trans (hb2.mono hws)); clear hb2)
          go_roundw
          case rel =>
            refine ⟨j + 1, by omega, by go_num, ?_, HW2.out⟩
            intro t ht
            rcases Nat.lt_or_ge t j with h1 | h1
            · exact HZ.out t h1
            · obtain rfl : t = j := by omega
              exact HQ.out
          case measure => simp [intOf]; omega
        · obtain ⟨e1, e2⟩ := ck_one HB.out (by rw [HN.out]; exact hlt) HZ.out (by rw [hq]; exact hq0)
          have HE := Lib.hid (And.intro e1 e2)
          have hqn : ((q : Int) != 0) = true := by simpa using hq0
          clear hq e1 e2
          go_wp2_with (go_at_call 26; refine (rtype_any A n cap ts (H.out.below HW.out (Nat.le_refl _)) j hlt).mono ?_; rintro e w2 ⟨rfl, hb2⟩; rw [HQ.out]; have HW2 := Lib.hid (HW.out.trans (hb2.mono hws)); clear hb2)
          go_ret2
          rw [HE.out.1, HE.out.2, HQ.out]
          exact ⟨rfl, HW2.out⟩
      · obtain rfl : j = n := by omega
        have HZA := Lib.hid (show ∀ t, t < ts.length → tpE ts t = 0 from fun t ht => HZ.out t (by rw [HN.out] at ht; exact ht))
        have HPK := Lib.hid (pok_of HZA.out)
        have HFL := Lib.hid (show ∀ t ∈ ts, t.fields.length ≤ 12 from fun t ht => by
          obtain ⟨i, hi⟩ := List.mem_iff_getElem?.1 ht
          exact (tyE_zero (tpE_zero (HZA.out i (List.getElem?_eq_some_iff.1 hi).1) hi).2.2).1)
        go_wp2_with fail
        go_loopw [6] (fun i wr => ∃ k : Nat, k ≤ j ∧ i = .int .i64 k ∧ Hid (∀ t, t < k → rfE ts t = 0) ∧ Hid (Below w.heap.size w wr)) (fun i _ => j - (intOf i).toNat)
        case atStart => exact ⟨0, Nat.zero_le _, rfl, fun t ht => absurd ht (by omega), HW.out⟩
        case round =>
          clear HW hws
          obtain ⟨k, hk, rfl, HR0, HW⟩ := hrel
          have hws := HW.out.size
          by_cases hlt : k < j
          · obtain ⟨b, o, t, FA, fk, fc, rfl, hu, hnm, hb, c0, c1, c2, c3, hf⟩ := H.out.at k hlt
            have hji : (k : Int) < (j : Int) := by omega
            obtain ⟨tn, tv, tr, fs⟩ := t
            simp only at c2
            replace c2 := (HW.out.cell (p := ⟨b, o + k * 4 + 2, none⟩) hb).trans c2
            have HRF := Lib.hid (show rfE ts k = if (tr && reach ts k) = true then 7 else 0 by unfold rfE; rw [hu.out])
            clear c0 c1 c3
            cases tr
            · have HRZ := Lib.hid (show rfE ts k = 0 by rw [HRF.out]; rfl)
              go_wp2_with fail
              go_roundw
              case rel =>
                refine ⟨k + 1, by omega, by go_num, ?_, HW.out⟩
                intro t ht
                rcases Nat.lt_or_ge t k with h1 | h1
                · exact HR0.out t h1
                · obtain rfl : t = k := by omega
                  exact HRZ.out
              case measure => simp [intOf]; omega
            · cases hr : reach ts k
              · have HR := Lib.hid hr
                have HRZ := Lib.hid (show rfE ts k = 0 by rw [HRF.out, hr]; rfl)
                clear hr
                go_wp2_with (go_at_call 27; refine (ritself_any _ j cap ts (H.out.below HW.out (Nat.le_refl _)) hn HPK.out HFL.out k hlt).mono ?_; rintro e w2 ⟨rfl, hb2⟩; rw [HR.out]; have X2 := Lib.hid (HW.out.trans (hb2.mono hws)); clear hb2)
                go_roundw
                case rel =>
                  refine ⟨k + 1, by omega, by go_num, ?_, X2.out⟩
                  intro t ht
                  rcases Nat.lt_or_ge t k with h1 | h1
                  · exact HR0.out t h1
                  · obtain rfl : t = k := by omega
                    exact HRZ.out
                case measure => simp [intOf]; omega
              · have HR := Lib.hid hr
                obtain ⟨e1, e2⟩ := ck_two HB.out HZA.out (by rw [HN.out]; exact hlt) HR0.out (by rw [HRF.out, hr]; decide)
                have HE := Lib.hid (And.intro e1 e2)
                clear hr e1 e2
                go_wp2_with (go_at_call 27; refine (ritself_any _ j cap ts (H.out.below HW.out (Nat.le_refl _)) hn HPK.out HFL.out k hlt).mono ?_; rintro e w2 ⟨rfl, hb2⟩; rw [HR.out]; have X2 := Lib.hid (HW.out.trans (hb2.mono hws)); clear hb2)
                go_ret2
                rw [HE.out.1, HE.out.2]
                exact ⟨rfl, X2.out⟩
          · obtain rfl : k = j := by omega
            obtain ⟨e1, e2⟩ := ck_ok HB.out HZA.out (fun t ht => HR0.out t (by rw [HN.out] at ht; exact ht))
            have HE := Lib.hid (And.intro e1 e2)
            clear e1 e2
            go_wp2_with fail
            go_ret2
            rw [HE.out.1, HE.out.2]
            exact ⟨rfl, HW.out⟩
end
end Go.Proofs.Ytnkjlocjfljjlaa
