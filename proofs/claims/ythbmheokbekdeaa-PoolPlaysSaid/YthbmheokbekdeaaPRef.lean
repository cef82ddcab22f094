/- The contracts of the document's answers for the pool (package turnbuckleref02): a list of bools that is copied at each change. Condition: the list's cells are known. -/
import Derived.Test.YthbmheokbekdeaaPRuns
namespace Go.Proofs.Ythbmheokbekdeaa
open Go.RowKit

/-- A list of bools that the call itself made. -/
def Ro (w : World) (B g N c : Nat) (t : Nat → Bool) : Prop := Ow w B 4 g N c (bv t)
theorem Ro.cell {w : World} {B g N c : Nat} {t : Nat → Bool} (h : Ro w B g N c t) (i : Nat) (hi : i < N) : w.cell? ⟨g, i, none⟩ = some (.bool (t i)) := Ow.cell h i hi

theorem runB_zero (t : Nat → Bool) (i : Nat) : runB t 0 i = true := rfl
theorem runB_succ (t : Nat → Bool) (i j : Nat) : runB t (j + 1) i = (runB t j i && !t (i + j)) := by
  unfold runB
  rw [List.range_succ, List.all_append]
  simp
theorem cnt_true {t : Nat → Bool} {i : Nat} (h : t i = true) : cnt t (i + 1) = cnt t i + 1 := by
  show cnt t i + (if t i then 1 else 0) = _
  rw [h]
  rfl
theorem cnt_false {t : Nat → Bool} {i : Nat} (h : t i = false) : cnt t (i + 1) = cnt t i := by
  show cnt t i + (if t i then 1 else 0) = _
  rw [h]
  rfl
/-- The document's run. -/
def rnV (n : Nat) (t : Nat → Bool) (k : Nat) : Int := match low n t k with | some i => i | none => -1

section
variable {w : World}
set_option maxRecDepth 100000 in
theorem rrun_any (B g N c : Nat) (t : Nat → Bool) (k : Nat) (hN : N ≤ 128) (h : Ro w B g N c t) (_hk : k ≤ 9223372036854775807) :
    Calls Try.prog 20 #[.slice (some ⟨g, 0, none⟩) N c, .int .i64 k] w fun e w' => e = .returned (.int .i64 (rnV N t k)) ∧ w = w' := by
  have H := Lib.hid h
  clear h
  go_enter Try.func20, Try.ntmps20
  go_wp2
  go_loopg [5] (N + 1) (fun gh s wr => ∃ i : Nat, i + gh = N + 1 ∧ s = .int .i64 i ∧ Hid (∀ i', i' < i → ¬ IsRun N t k i') ∧ wr = w)
  case atStart => exact ⟨0, by omega, rfl, fun i' hi => by omega, rfl⟩
  case round =>
    obtain ⟨i, hig, rfl, HI, rfl⟩ := hrel
    by_cases hlt : i + k ≤ N
    · have hd1 : (k : Int) ≤ (N : Int) := by omega
      have hd2 : (i : Int) + (k : Int) ≤ (N : Int) := by omega
      go_wp2_with fail
      go_loopg [6, 7] k (fun gh s6 s7 wr2 => ∃ j : Nat, j + gh = k ∧ s6 = .bool (runB t j i) ∧ s7 = .int .i64 j ∧ wr2 = wr)
      case atStart => exact ⟨0, by omega, rfl, rfl, rfl⟩
      case round =>
        obtain ⟨j, hjg, rfl, rfl, rfl⟩ := hrel
        cases hv : runB t j i with
        | true =>
          have HV := Lib.hid hv
          clear hv
          cases gk with
          | zero =>
            obtain rfl : j = k := by omega
            have hjz : ¬ ((j : Int) < (j : Int)) := by omega
            go_wp2
            go_ret
            have e := low_some ((runB_iff hlt).1 HV.out) HI.out
            refine ⟨?_, rfl⟩
            unfold rnV
            rw [e]
            rfl
          | succ g2 =>
            have hjz : (j : Int) < (k : Int) := by omega
            have hc := H.out.cell (i + j) (by omega)
            have hi1 : (i : Int) + (j : Int) < (N : Int) := by omega
            go_wp2
            go_roundg g2
            case measure => omega
            case rel => exact ⟨j + 1, by omega, by rw [runB_succ, HV.out]; rfl, by go_num, rfl⟩
        | false =>
          have HV := Lib.hid hv
          clear hv
          cases gk with
          | zero =>
            obtain rfl : j = k := by omega
            have hjz : ¬ ((j : Int) < (j : Int)) := by omega
            go_wp2
            go_roundg (N - i)
            case measure => omega
            case rel =>
              refine ⟨i + 1, by omega, by go_num, fun i' hi' hr => ?_, rfl⟩
              by_cases hii : i' < i
              · exact HI.out i' hii hr
              · obtain rfl : i' = i := by omega
                have := (runB_iff hlt).2 hr
                rw [HV.out] at this
                cases this
          | succ g2 =>
            have hjz : (j : Int) < (k : Int) := by omega
            go_wp2
            go_roundg g2
            case measure => omega
            case rel => exact ⟨j + 1, by omega, by rw [runB_succ, HV.out]; rfl, by go_num, rfl⟩
    · have e := low_none (n := N) (t := t) (k := k) fun i' hr => by
        by_cases hii : i' < i
        · exact HI.out i' hii hr
        · have := hr.1
          omega
      have E : Hid (rnV N t k = -1) := by show rnV N t k = -1; unfold rnV; rw [e]
      clear e
      by_cases hkN : k ≤ N
      · have hd1 : (k : Int) ≤ (N : Int) := by omega
        have hd2 : decide ((i : Int) + (k : Int) ≤ (N : Int)) = false := by simp; omega
        go_wp2
        go_ret
        exact ⟨by rw [E.out]; rfl, rfl⟩
      · have hd1 : decide ((k : Int) ≤ (N : Int)) = false := by simp; omega
        have hd2 : decide (k ≤ N) = false := by simpa using hkN
        go_wp2
        go_ret
        exact ⟨by rw [E.out]; rfl, rfl⟩

theorem rfree_any (B g N c : Nat) (t : Nat → Bool) (hN : N ≤ 128) (h : Ro w B g N c t) :
    Calls Try.prog 17 #[.slice (some ⟨g, 0, none⟩) N c] w fun e w' => e = .returned (.int .i64 (free N t : Nat)) ∧ w = w' := by
  have H := Lib.hid h
  clear h
  go_enter Try.func17, Try.ntmps17
  go_wp2
  go_loopg [3, 4] N (fun gh s3 s4 wr => ∃ i : Nat, i + gh = N ∧ s3 = .int .i64 (i - cnt t i : Nat) ∧ s4 = .int .i64 i ∧ wr = w)
  case atStart => exact ⟨0, by omega, rfl, rfl, rfl⟩
  case round =>
    obtain ⟨i, hig, rfl, rfl, rfl⟩ := hrel
    have hci := cnt_le t i
    cases gk with
    | zero =>
      obtain rfl : N = i := by omega
      have hlt : ¬ ((N : Int) < (N : Int)) := by omega
      go_wp2
      go_ret
      exact ⟨rfl, rfl⟩
    | succ g2 =>
      have hlt : (i : Int) < (N : Int) := by omega
      have hc := H.out.cell i (by omega)
      cases hv : t i with
      | true =>
        rw [hv] at hc
        have HV := Lib.hid hv
        clear hv
        go_wp2
        go_roundg g2
        case measure => omega
        case rel => exact ⟨i + 1, by omega, by rw [cnt_true HV.out, Nat.add_sub_add_right], by go_num, rfl⟩
      | false =>
        rw [hv] at hc
        have HV := Lib.hid hv
        clear hv
        go_wp2
        go_roundg g2
        case measure => omega
        case rel => exact ⟨i + 1, by omega, by rw [cnt_false HV.out]; go_num, by go_num, rfl⟩

/-- What a new list is known to be. -/
def NewRo (w : World) (N : Nat) (t : Nat → Bool) (e : Ending) (w' : World) : Prop :=
  ∃ g c, e = .returned (.slice (some ⟨g, 0, none⟩) N c) ∧ Ro w' w.heap.size g N c t ∧ Below w.heap.size w w'
theorem bv_put (t : Nat → Bool) (i : Nat) (b : Bool) : (fun j => if j = i then Value.bool b else bv t j) = bv (upd t i b) := by
  funext j
  unfold bv upd
  split <;> rfl
set_option maxRecDepth 100000 in
theorem rwith_any (B g N c : Nat) (t : Nat → Bool) (at_ k : Nat) (b : Bool) (hN : N ≤ 128) (h : Ro w B g N c t) (hfit : at_ + k ≤ N) :
    Calls Try.prog 21 #[.slice (some ⟨g, 0, none⟩) N c, .int .i64 at_, .int .i64 k, .bool b] w (NewRo w N (setR t at_ k b)) := by
  obtain ⟨i0, hi, hz0, hz1, hz2⟩ := info_parts infoB
  have HI := Lib.hid hi
  have HZ0 := Lib.hid hz0
  have HZ1 := Lib.hid hz1
  have HZ2 := Lib.hid hz2
  have HS := Lib.hid h
  clear h hi hz0 hz1 hz2
  have HO := Lib.hid (World.ownsRow_lit (base := w.heap.size) (e := 4) (size := 1) w #[] 0 (Nat.le_refl _) (by decide) rfl)
  have N1 := Lib.hid (Ow.news (Ow.alloc HS.out (.cells #[] 4)))
  have N2 := Lib.hid (vals_ones N (bv t) fun _ => rfl)
  go_enter Try.func21, Try.ntmps21
  go_wp2_with (at_builtin; refine wpList_append_own _ rfl (.tmp 11) (.tmp 12) 29 rfl w.heap.size 4 i0 (.bool false) 1 1 Try.underlying29 HI.out HZ0.out HZ1.out HZ2.out rfl (by decide) _ 0 [] rfl HO.out ⟨g, 0, none⟩ N c (vals N (bv t)) rfl (by simp [vals]) N1.out N2.out (by unfold maxLen; omega) (by omega) (by simp) ?_)
  intro v' w1 hown hgrow hnil
  have hv : ∃ g' c', v' = .slice (some ⟨g', 0, none⟩) N c' := by
    rcases hown.2 with ⟨h', _⟩ | ⟨g', cap', cur, h', _⟩
    · exact absurd h' hnil
    · exact ⟨g', cap', by simpa using h'⟩
  obtain ⟨g', c', hv⟩ := hv
  have HL : Hid (Ro w1 w.heap.size g' N c' t) := by
    show Ro w1 w.heap.size g' N c' t
    unfold Ro Ow
    rw [hv] at hown
    simpa using hown
  have HB : Hid (Below w.heap.size w w1) := ((Below.refl _ _).alloc (Nat.le_refl _) (.cells #[] 4)).grown hgrow (by simp) (fun q hq => by simp [Value.ownBlock] at hq; omega)
  rw [hv]
  clear hv hown hgrow hnil HO HI HZ0 HZ1 HZ2
  go_wp2_with fail
  go_loopg [10] k (fun gh s wr => ∃ m : Nat, m + gh = k ∧ s = .int .i64 m ∧ Hid (Ro wr w.heap.size g' N c' (setR t at_ m b)) ∧ Hid (Below w.heap.size w wr))
  case atStart => exact ⟨0, by omega, rfl, by rw [setR_zero]; exact HL.out, HB.out⟩
  case round =>
    obtain ⟨m, hm, rfl, HR, HB'⟩ := hrel
    cases gk with
    | succ g2 =>
      have hlt : (m : Int) < (k : Int) := by omega
      have hi1 : (at_ : Int) + (m : Int) < (N : Int) := by omega
      have hc2 := HR.out.cell (at_ + m) (by omega)
      have hfz := Ow.frozen HR.out (at_ + m)
      go_wp2
      go_roundg g2
      case measure => omega
      case rel =>
        refine ⟨m + 1, by omega, by go_num, ?_, HB'.out.setCell (p := ⟨g', at_ + m, none⟩) (Ow.lt HR.out).1 _⟩
        have := Ow.put HR.out (at_ + m) (.bool b)
        rw [bv_put, setR_succ] at this
        exact this
    | zero =>
      obtain rfl : k = m := by omega
      have hlt : ¬ ((k : Int) < (k : Int)) := by omega
      go_wp2
      go_ret
      exact ⟨g', c', rfl, HR.out, HB'.out⟩

/-- What a list, a page and an error are known to be. -/
def TkPost (w : World) (B N : Nat) (T : Nat → Bool) (V E : Int) (e : Ending) (w' : World) : Prop :=
  ∃ g c, e = .returned (.tuple #[.slice (some ⟨g, 0, none⟩) N c, .int .i64 V, .int .i64 E]) ∧ Ro w' B g N c T ∧ Below w.heap.size w w'
def GvPost (w : World) (B N : Nat) (T : Nat → Bool) (E : Int) (e : Ending) (w' : World) : Prop :=
  ∃ g c, e = .returned (.tuple #[.slice (some ⟨g, 0, none⟩) N c, .int .i64 E]) ∧ Ro w' B g N c T ∧ Below w.heap.size w w'
theorem rtake_any (B g N c : Nat) (t : Nat → Bool) (k : Int) (hN : N ≤ 128) (hB : B ≤ w.heap.size) (h : Ro w B g N c t) (hk2 : k ≤ 9223372036854775807) :
    Calls Try.prog 12 #[.slice (some ⟨g, 0, none⟩) N c, .int .i64 k] w (TkPost w B N (trT N t k) (trV N t k) (trE N t k)) := by
  by_cases hk : k < 1
  · obtain ⟨e1, e2, e3⟩ := trT_arg (n := N) (t := t) hk
    rw [e1, e2, e3]
    have H := Lib.hid h
    clear h e1 e2 e3
    go_enter Try.func12, Try.ntmps12
    go_wp2
    exact bodyPost_ret (v := .tuple #[.slice (some ⟨g, 0, none⟩) N c, .int .i64 0, .int .i64 1]) (by simp [results, Try.results12, go_sem]) rfl ⟨g, c, rfl, H.out, Below.refl _ _⟩
  · obtain ⟨k, rfl⟩ := Int.eq_ofNat_of_zero_le (show 0 ≤ k by omega)
    have hk1 : 1 ≤ k := by omega
    have hd : decide ((k : Int) < 1) = false := by simp; omega
    have HR := Lib.hid (rrun_any B g N c t k hN h (by omega))
    cases hl : low N t k with
    | none =>
      obtain ⟨e1, e2, e3⟩ := trT_full (n := N) (t := t) rfl hk1 hl
      rw [e1, e2, e3]
      have H := Lib.hid h
      have E : Hid (rnV N t k = -1) := by show rnV N t k = -1; unfold rnV; rw [hl]
      clear h e1 e2 e3 hl hk
      go_enter Try.func12, Try.ntmps12
      go_wp2_with fail
      refine HR.out.mono ?_
      rw [E.out]
      rintro e w' ⟨rfl, rfl⟩
      go_wp2
      exact bodyPost_ret (v := .tuple #[.slice (some ⟨g, 0, none⟩) N c, .int .i64 0, .int .i64 5]) (by simp [results, Try.results12, go_sem]) rfl ⟨g, c, rfl, H.out, Below.refl _ _⟩
    | some a =>
      have hak := (low_spec hl).1.1
      obtain ⟨e1, e2, e3⟩ := trT_ok (n := N) (t := t) rfl hk1 hl
      rw [e1, e2, e3]
      have H := Lib.hid h
      have E : Hid (rnV N t k = a) := by show rnV N t k = a; unfold rnV; rw [hl]
      clear h e1 e2 e3 hl hk
      go_enter Try.func12, Try.ntmps12
      go_wp2_with fail
      refine HR.out.mono ?_
      rw [E.out]
      rintro e w' ⟨rfl, rfl⟩
      go_wp2_with fail
      refine (rwith_any _ _ _ _ _ _ _ _ hN H.out hak).mono ?_
      rintro e w2 ⟨g', c', rfl, hr, hb⟩
      have R2 := Lib.hid hr
      have B2 := Lib.hid hb
      clear hr hb
      go_wp2
      exact bodyPost_ret (v := .tuple #[.slice (some ⟨g', 0, none⟩) N c', .int .i64 a, .int .i64 0]) (by simp [results, Try.results12, go_sem]) rfl ⟨g', c', rfl, Ow.less R2.out hB, B2.out⟩
theorem rgive_any (B g N c : Nat) (t : Nat → Bool) (page : Int) (hN : N ≤ 128) (hB : B ≤ w.heap.size) (h : Ro w B g N c t) :
    Calls Try.prog 15 #[.slice (some ⟨g, 0, none⟩) N c, .int .i64 page] w (GvPost w B N (gvT N t page) (gvE N t page)) := by
  by_cases hk : page < 0 ∨ (N : Int) ≤ page
  · have e : gvE N t page = 1 := by unfold gvE; rw [if_pos hk]
    unfold gvT
    rw [e, if_neg (by decide)]
    have H := Lib.hid h
    clear h e
    rcases hk with hk | hk
    · go_enter Try.func15, Try.ntmps15
      go_wp2
      go_ret2
      exact ⟨g, c, rfl, H.out, Below.refl _ _⟩
    · have hd : decide (page < 0) = false := by simp; omega
      go_enter Try.func15, Try.ntmps15
      go_wp2
      go_ret2
      exact ⟨g, c, rfl, H.out, Below.refl _ _⟩
  · obtain ⟨k, rfl⟩ := Int.eq_ofNat_of_zero_le (show 0 ≤ page by omega)
    have hkn : k < N := by omega
    have hd : decide ((k : Int) < 0) = false := by simp
    have hd2 : decide (N ≤ k) = false := by simp; omega
    have hc := h.cell k hkn
    cases ht : t k with
    | true =>
      have e : gvE N t (k : Int) = 0 := by unfold gvE; rw [if_neg hk]; simp [ht]
      unfold gvT
      rw [e, if_pos rfl]
      rw [ht] at hc
      have H := Lib.hid h
      clear h e ht hk
      go_enter Try.func15, Try.ntmps15
      go_wp2_with fail
      refine (rwith_any _ _ _ _ _ _ 1 _ hN H.out (by omega)).mono ?_
      rintro e w2 ⟨g', c', rfl, hr, hb⟩
      have e1 : setR t k 1 false = upd t k false := by rw [← setR_succ, setR_zero]; rfl
      have R2 := Lib.hid (show Ro w2 w.heap.size g' N c' (upd t k false) from e1 ▸ hr)
      have B2 := Lib.hid hb
      clear hr hb e1
      go_wp2
      go_ret2
      exact ⟨g', c', rfl, Ow.less R2.out hB, B2.out⟩
    | false =>
      have e : gvE N t (k : Int) = 6 := by unfold gvE; rw [if_neg hk]; simp [ht]
      unfold gvT
      rw [e, if_neg (by decide)]
      rw [ht] at hc
      have H := Lib.hid h
      clear h e ht hk
      go_enter Try.func15, Try.ntmps15
      go_wp2
      go_ret2
      exact ⟨g, c, rfl, H.out, Below.refl _ _⟩
end
end Go.Proofs.Ythbmheokbekdeaa
