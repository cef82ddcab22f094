/- The contracts of locksFit and Layout; the document's Layout. Condition: the fields can be read. -/
import Derived.Test.YtnkjlocjfljjlaaTSmall
import Derived.Deep.AppendLies
namespace Go.Proofs.Ytnkjlocjfljjlaa
open Go.RowKit
set_option maxRecDepth 100000
set_option maxHeartbeats 4000000
theorem Oi.less {w : World} {B B' : Nat} {v : Value} {l : List Int} (h : Oi w B v l) (hB : B' ≤ B) : Oi w B' v l := by
  refine ⟨h.1, ?_⟩
  rcases h.2 with h1 | ⟨g, cap, cur, h1, hb, rest⟩
  · exact .inl h1
  · exact .inr ⟨g, cap, cur, h1, by omega, rest⟩
theorem four {w w' : World} {B g : Nat} {t : TypeId} {a b c d : Value} (h : Blk w g t #[a, b, c, d]) (hb : Below B w w') (hg : g < B) :
    w'.cell? ⟨g, 0, none⟩ = some a ∧ w'.cell? ⟨g, 1, none⟩ = some b ∧ w'.cell? ⟨g, 2, none⟩ = some c ∧ w'.cell? ⟨g, 3, none⟩ = some d :=
  have h' := h.below hb hg
  ⟨h'.cell 0, h'.cell 1, h'.cell 2, h'.cell 3⟩
section
variable {w : World}
theorem locksFit_any (nm : ByteArray) (vv rr : Bool) (FA : Option Addr) (fk fc : Nat) (fs : List Fd) (h : Lf w FA fk fc fs) :
    Calls Try.prog 43 #[.agg #[.string nm, .bool vv, .bool rr, .slice FA fk fc]] w fun e w' => e = .returned (.bool (lkF fs)) ∧ Below w.heap.size w w' := by
  have HL := Lib.hid h.len
  have hle := h.le
  have hmx := h.max
  have H := Lib.hid h
  clear h
  go_enter Try.func43, Try.ntmps43
  go_wp2_with fail
  go_loopw [3, 4, 10] (fun a c i wr => ∃ j p q : Nat, j ≤ fk ∧ p ≤ j ∧ q ≤ j ∧ i = .int .i64 j ∧ a = .int .i64 p ∧ c = .int .i64 q ∧ Hid (lks (fs.take j) = p) ∧ Hid (grs (fs.take j) = q) ∧ Hid (Below w.heap.size w wr)) (fun _ _ i _ => fk - (intOf i).toNat)
  case atStart => exact ⟨0, 0, 0, Nat.zero_le _, Nat.le_refl _, Nat.le_refl _, rfl, rfl, rfl, rfl, rfl, by show Below _ _ _; (repeat' (first | exact Below.refl _ _ | assumption | (refine Below.alloc ?_ (by (try simp) <;> omega) _)))⟩
  case round =>
    obtain ⟨j, p, q, hj, hp, hq, rfl, rfl, rfl, HP, HQ, HW⟩ := hrel
    by_cases hlt : j < fk
    · obtain ⟨b, o, f, rfl, hf, hok, hb, c0, c1, c2, c3, c4⟩ := (H.out.below HW.out (Nat.le_refl _)).at j hlt
      have HS := Lib.hid HW.out.size
      have hji : (j : Int) < (fk : Int) := by omega
      have H7 := Lib.hid (lks_take hf.out)
      have H5 := Lib.hid (grs_take hf.out)
      obtain ⟨kd, ln, ty, lk, ky⟩ := f
      simp only at c0 c1 c2 c3 c4
      clear hok hf
      by_cases h7 : kd = 7
      · subst h7
        go_wp2_with fail
        go_roundw
        case rel => exact ⟨j + 1, p + 1, q, by omega, by omega, by omega, by go_num, by go_num, rfl, by show _ = _; rw [H7.out, HP.out]; rfl, by show _ = _; rw [H5.out, HQ.out]; rfl, HW.out.alloc HS.out _⟩
        case measure => simp [intOf]; omega
      · have h7' : (kd == 7) = false := by simp [h7]
        by_cases h5 : kd = 5
        · subst h5
          go_wp2_with fail
          go_roundw
          case rel => exact ⟨j + 1, p, q + 1, by omega, by omega, by omega, by go_num, rfl, by go_num, by show _ = _; rw [H7.out, HP.out]; rfl, by show _ = _; rw [H5.out, HQ.out]; rfl, HW.out.alloc HS.out _⟩
          case measure => simp [intOf]; omega
        · have h5' : (kd == 5) = false := by simp [h5]
          by_cases h6 : kd = 6
          · subst h6
            go_wp2_with fail
            go_roundw
            case rel => exact ⟨j + 1, p, q + 1, by omega, by omega, by omega, by go_num, rfl, by go_num, by show _ = _; rw [H7.out, HP.out]; rfl, by show _ = _; rw [H5.out, HQ.out]; rfl, HW.out.alloc HS.out _⟩
            case measure => simp [intOf]; omega
          · have h6' : (kd == 6) = false := by simp [h6]
            have H7' := Lib.hid (show lks (fs.take (j + 1)) = p by rw [H7.out, HP.out]; simp [h7])
            have H5' := Lib.hid (show grs (fs.take (j + 1)) = q by rw [H5.out, HQ.out]; simp [h5, h6])
            go_wp2_with fail
            go_roundw
            case rel => exact ⟨j + 1, p, q, by omega, by omega, by omega, by go_num, rfl, rfl, H7'.out, H5'.out, HW.out.alloc HS.out _⟩
            case measure => simp [intOf]; omega
    · obtain rfl : j = fk := by omega
      have HT := Lib.hid (List.take_of_length_le (Nat.le_of_eq HL.out))
      have HK := Lib.hid (show lkF fs = decide (p = 1 ∨ (p = 0 ∧ q = 0)) by rw [← HP.out, ← HQ.out, HT.out]; rfl)
      by_cases h1 : p = 1
      · subst h1
        go_wp2_with fail
        go_ret
        rw [HK.out]
        exact ⟨rfl, HW.out⟩
      · have h1' : ((p : Int) == 1) = false := by simp; omega
        by_cases h0 : p = 0
        · subst h0
          by_cases hq0 : q = 0
          · subst hq0
            go_wp2_with fail
            go_ret
            rw [HK.out]
            exact ⟨rfl, HW.out⟩
          · have hq' : ((q : Int) == 0) = false := by simp; omega
            have HK2 := Lib.hid (show lkF fs = false by rw [HK.out]; simp [hq0])
            go_wp2_with fail
            go_ret
            rw [HK2.out]
            exact ⟨rfl, HW.out⟩
        · have h0' : ((p : Int) == 0) = false := by simp; omega
          have HK2 := Lib.hid (show lkF fs = false by rw [HK.out]; simp [h1, h0])
          go_wp2_with fail
          go_ret
          rw [HK2.out]
          exact ⟨rfl, HW.out⟩
theorem la_big {fs : List Fd} (h : 12 < fs.length) : laE fs = 11 ∧ laV fs = [] ∧ laN fs = 0 := by
  have e : laE fs = 11 := by unfold laE; rw [if_pos h]
  exact ⟨e, by unfold laV; rw [e]; rfl, by unfold laN; rw [e]; rfl⟩
theorem la_no {fs : List Fd} {j : Nat} {f : Fd} (h : ¬ 12 < fs.length) (hz : ∀ (t : Nat) (x : Fd), t < j → fs[t]? = some x → noS x = 0) (hf : fs[j]? = some f) (h0 : fsz f = 0) : laE fs = 7 ∧ laV fs = [] ∧ laN fs = 0 := by
  have e : laE fs = 7 := by
    unfold laE
    rw [if_neg h, if_pos]
    rw [firstE_at hz hf (by unfold noS; rw [if_pos h0]; decide)]
    unfold noS
    rw [if_pos h0]
    decide
  exact ⟨e, by unfold laV; rw [e]; rfl, by unfold laN; rw [e]; rfl⟩
theorem la_end {fs : List Fd} (h : ¬ 12 < fs.length) (hz : ∀ (t : Nat) (x : Fd), fs[t]? = some x → noS x = 0) : laE fs = if 256 < 8 + szs fs then 11 else 0 := by
  unfold laE
  rw [if_neg h, if_neg]
  rw [firstE_end hz]
  decide
theorem la_far {fs : List Fd} (h : ¬ 12 < fs.length) (hz : ∀ (t : Nat) (x : Fd), fs[t]? = some x → noS x = 0) (hs : 256 < 8 + szs fs) : laE fs = 11 ∧ laV fs = [] ∧ laN fs = 0 := by
  have e : laE fs = 11 := by rw [la_end h hz, if_pos hs]
  exact ⟨e, by unfold laV; rw [e]; rfl, by unfold laN; rw [e]; rfl⟩
theorem la_ok {fs : List Fd} (h : ¬ 12 < fs.length) (hz : ∀ (t : Nat) (x : Fd), fs[t]? = some x → noS x = 0) (hs : ¬ 256 < 8 + szs fs) : laE fs = 0 ∧ laV fs = offs 8 fs ∧ laN fs = 8 + szs fs := by
  have e : laE fs = 0 := by rw [la_end h hz, if_neg hs]
  exact ⟨e, by unfold laV; rw [e]; rfl, by unfold laN; rw [e]; rfl⟩
theorem noS_zero {f : Fd} (h : fsz f ≠ 0) : noS f = 0 := by unfold noS; rw [if_neg h]
theorem all_snoc {P : Fd → Prop} {fs : List Fd} {j : Nat} {f : Fd} (h : ∀ (t : Nat) (x : Fd), t < j → fs[t]? = some x → P x) (hf : fs[j]? = some f) (hp : P f) : ∀ (t : Nat) (x : Fd), t < j + 1 → fs[t]? = some x → P x := by
  intro t x ht hx
  rcases Nat.lt_or_ge t j with hlt | hge
  · exact h t x hlt hx
  · obtain rfl : t = j := by omega
    rw [hf] at hx
    injection hx with hx
    exact hx ▸ hp
theorem all_upto {P : Fd → Prop} {fs : List Fd} {j : Nat} (h : ∀ (t : Nat) (x : Fd), t < j → fs[t]? = some x → P x) (hl : fs.length ≤ j) : ∀ (t : Nat) (x : Fd), fs[t]? = some x → P x := by
  intro t x hx
  have := (List.getElem?_eq_some_iff.1 hx).1
  exact h t x (by omega) hx
theorem layout_any (nm : ByteArray) (vv rr : Bool) (FA : Option Addr) (fk fc : Nat) (fs : List Fd) (h : Lf w FA fk fc fs) :
    Calls Try.prog 14 #[.agg #[.string nm, .bool vv, .bool rr, .slice FA fk fc]] w fun e w' => ∃ v', e = .returned (.tuple #[v', .int .i64 (laN fs), .int .i64 (laE fs : Nat)]) ∧ Oi w' w.heap.size v' (laV fs) ∧ Below w.heap.size w w' := by
  have HL := Lib.hid h.len
  have hle := h.le
  have hmx := h.max
  have H := Lib.hid h
  clear h
  by_cases hk : 12 < fk
  · obtain ⟨e1, e2, e3⟩ := la_big (fs := fs) (by rw [HL.out]; exact hk)
    have HE := Lib.hid (And.intro e1 (And.intro e2 e3))
    clear e1 e2 e3
    go_enter Try.func14, Try.ntmps14
    go_wp2_with fail
    go_ret3
    rw [HE.out.1, HE.out.2.1, HE.out.2.2]
    refine ⟨_, rfl, Oi.nil _ _, ?_⟩
    (repeat' (first | exact Below.refl _ _ | assumption | (refine Below.alloc ?_ (by (try simp) <;> omega) _)))
  · have hk2 : fk ≤ 12 := by omega
    have HK := Lib.hid (show ¬ 12 < fs.length by rw [HL.out]; exact hk)
    obtain ⟨i0, hi, hz0, hz1, hz2⟩ := info_parts info64
    have IZ := Lib.hid (And.intro hi (And.intro hz0 (And.intro hz1 hz2)))
    clear hi hz0 hz1 hz2
    go_enter Try.func14, Try.ntmps14
    go_wp2_with (at_make; refine wpList_make_own _ rfl _ _ 33 rfl w.heap.size 3 i0 (.int .i64 0) 1 Try.underlying33 IZ.out.1 IZ.out.2.1 IZ.out.2.2.1 .i64 .i64 _ fk rfl rfl rfl (by rw [IZ.out.2.2.2]; omega) (by unfold maxLen; omega) (by simp) ?_; intro w1 h1 h2; have H1 := Lib.hid (show Oi w1 w.heap.size _ [] from h1); have H2 := Lib.hid ((show Below w.heap.size w _ by (repeat' (first | exact Below.refl _ _ | assumption | (refine Below.alloc ?_ (by (try simp) <;> omega) _)))).grown h2 (by simp) (by intro k hk; cases hk)); have cF := h2.cell_far ⟨w.heap.size, 3, none⟩ (by simp) (by simp); simp at cF; clear h1 h2)
    go_loopw [5, 6, 22] (fun u a i wr => ∃ (j : Nat) (S : Int), j ≤ fk ∧ 0 ≤ S ∧ S ≤ 128 * j ∧ i = .int .i64 j ∧ a = .int .i64 (8 + S) ∧ Hid (szs (fs.take j) = S) ∧ Hid (∀ (t : Nat) (x : Fd), t < j → fs[t]? = some x → noS x = 0) ∧ Hid (Oi wr w.heap.size u (offs 8 (fs.take j))) ∧ Hid (Below w.heap.size w wr)) (fun _ _ i _ => fk - (intOf i).toNat)
    case atStart => exact ⟨0, 0, Nat.zero_le _, by omega, by omega, rfl, rfl, rfl, fun t x ht => absurd ht (by omega), by have := H1.out; simp only [World.size_alloc] at this; exact this, H2.out⟩
    case round =>
      obtain ⟨j, S, hj, hS0, hS1, rfl, rfl, HS, HZ, HO, HW⟩ := hrel
      by_cases hlt : j < fk
      · obtain ⟨b, o, f, rfl, hf, hok, hb, c0, c1, c2, c3, c4⟩ := (H.out.below HW.out (Nat.le_refl _)).at j hlt
        have hws := HW.out.size
        have hji : (j : Int) < (fk : Int) := by omega
        obtain ⟨kd, ln, ty, lk, ky⟩ := f
        simp only at c0 c1 c2 c3 c4
        clear hok
        by_cases h0 : fsz ⟨kd, ln, ty, lk, ky⟩ = 0
        · have HB := Lib.hid (show fsB ⟨kd, ln, ty, lk, ky⟩ = false by simp [fsB, h0])
          obtain ⟨e1, e2, e3⟩ := la_no HK.out HZ.out hf.out h0
          have HE := Lib.hid (And.intro e1 (And.intro e2 e3))
          clear e1 e2 e3 h0
          go_wp2_with (go_at_call 28; refine (fieldSize_any ⟨kd, ln, ty, lk, ky⟩).mono ?_; rintro e w2 ⟨rfl, hb2⟩; rw [HB.out]; have HW2 := Lib.hid ((HW.out.alloc hws _).trans (hb2.mono (by simp; omega))); clear hb2)
          go_ret3
          rw [HE.out.1, HE.out.2.1, HE.out.2.2]
          exact ⟨_, rfl, Oi.nil _ _, HW2.out⟩
        · have HB := Lib.hid (show fsB ⟨kd, ln, ty, lk, ky⟩ = true by simp [fsB, h0])
          have HNo := Lib.hid (noS_zero h0)
          obtain ⟨z, hz⟩ : ∃ z, z = fsz ⟨kd, ln, ty, lk, ky⟩ := ⟨_, rfl⟩
          have hzl : 0 ≤ z ∧ z ≤ 128 := by rw [hz]; exact fsz_le _
          obtain ⟨hz0, hz1⟩ := hzl
          have HZ2 := Lib.hid hz
          have LA := Lib.hid (show (offs 8 (fs.take j)).length ≤ 100000 by rw [offs_len, List.length_take]; omega)
          clear h0 hz
          go_wp2_with (first | (go_at_call 28; refine (fieldSize_any ⟨kd, ln, ty, lk, ky⟩).mono ?_; rintro e w2 ⟨rfl, hb2⟩; rw [HB.out, ← HZ2.out]; have HW2 := Lib.hid ((HW.out.alloc hws _).trans (hb2.mono (by simp; omega))); have HO2 := Lib.hid (Oi.keep (Oi.alloc HO.out _) hb2 (Nat.le_refl _)); have hws2 := HW2.out.size; clear hb2) | (at_builtin; refine wpList_iapp rfl _ _ rfl w.heap.size _ _ rfl HO2.out (8 + S) rfl LA.out hws2 ?_; intro v4 w4 h4 h5; have H4 := Lib.hid h4; have H5 := Lib.hid (HW2.out.trans h5); clear h4 h5))
          go_roundw
          case rel =>
            refine ⟨j + 1, S + z, by omega, by omega, by omega, by go_num, by go_num, ?_, all_snoc HZ.out hf.out HNo.out, ?_, H5.out⟩
            · show _ = _
              rw [szs_take hf.out, HS.out, HZ2.out]
            · show Oi _ _ _ _
              rw [offs_take 8 hf.out, HS.out]
              exact H4.out
          case measure => simp [intOf]; omega
      · obtain rfl : j = fk := by omega
        have HT := Lib.hid (List.take_of_length_le (Nat.le_of_eq HL.out))
        have HA := Lib.hid (all_upto HZ.out (Nat.le_of_eq HL.out))
        have HS2 := Lib.hid (show szs fs = S by rw [← HS.out, HT.out])
        by_cases hbig : 256 < 8 + S
        · obtain ⟨e1, e2, e3⟩ := la_far HK.out HA.out (by rw [HS2.out]; exact hbig)
          have HE := Lib.hid (And.intro e1 (And.intro e2 e3))
          clear e1 e2 e3
          go_wp2_with fail
          go_ret3
          rw [HE.out.1, HE.out.2.1, HE.out.2.2]
          exact ⟨_, rfl, Oi.nil _ _, HW.out⟩
        · obtain ⟨e1, e2, e3⟩ := la_ok HK.out HA.out (by rw [HS2.out]; exact hbig)
          have HE := Lib.hid (And.intro e1 (And.intro e2 e3))
          clear e1 e2 e3
          go_wp2_with fail
          go_ret3
          rw [HE.out.1, HE.out.2.1, HE.out.2.2, HS2.out]
          have := HO.out
          rw [HT.out] at this
          exact ⟨_, rfl, this, HW.out⟩
end
end Go.Proofs.Ytnkjlocjfljjlaa
