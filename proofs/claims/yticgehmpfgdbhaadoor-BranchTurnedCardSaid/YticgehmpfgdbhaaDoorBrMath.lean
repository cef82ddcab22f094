/- Plain arithmetic of what a condition tells of two spans of 64-bit numbers, and the laws of it. No condition on the program. -/
import Derived.Test.YticgehmpfgdbhaaDoorSpMath
namespace Go.Proofs.YticgehmpfgdbhaaDoor
open Go.RowKit

/-- What two spans become, and whether that can be. -/
structure Br where
  u : Sp
  v : Sp
  can : Bool
deriving DecidableEq
def no3 : Br := ⟨sp0, sp0, false⟩
/-- s without the number of t, where that is an end. -/
def wo (s t : Sp) : Sp := if t.lo = t.hi then if t.lo = s.lo then ⟨s.lo + 1, s.hi⟩ else if t.lo = s.hi then ⟨s.lo, s.hi - 1⟩ else s else s
def blw (s t : Sp) : Br := if t.hi ≤ s.lo then no3 else ⟨⟨s.lo, min s.hi (t.hi - 1)⟩, ⟨max t.lo (s.lo + 1), t.hi⟩, true⟩
def nab (s t : Sp) : Br := if t.hi < s.lo then no3 else ⟨⟨s.lo, min s.hi t.hi⟩, ⟨max t.lo s.lo, t.hi⟩, true⟩
def held (c : Int) (s t : Sp) : Br := if c = 1 then ⟨meV s t, meV s t, decide (meE s t = 0)⟩ else if c = 2 then ⟨wo s t, wo t s, true⟩ else if c = 3 then blw s t else if c = 4 then nab s t else ⟨s, t, true⟩
def Br.turn (b : Br) : Br := ⟨b.v, b.u, b.can⟩
def full (c : Int) (s t : Sp) : Br := if c = 5 then (held 3 t s).turn else if c = 6 then (held 4 t s).turn else held c s t
/-- The condition that is asked in its place, if it doesn't hold. -/
def cd (c : Int) (h : Bool) : Int := if h = false ∧ c ≠ 9 then ntV c else c
def bothOne (s t : Sp) : Prop := s.lo = s.hi ∧ t.lo = t.hi
instance (s t : Sp) : Decidable (bothOne s t) := inferInstanceAs (Decidable (_ ∧ _))
def fits (c : Int) (s t : Sp) : Prop := (1 ≤ c ∧ c ≤ 9) ∧ mayV s = true ∧ mayV t = true
instance (c : Int) (s t : Sp) : Decidable (fits c s t) := inferInstanceAs (Decidable ((_ ∧ _) ∧ _ ∧ _))
/-- What Refine answers, and its error. -/
def br (c : Int) (s t : Sp) (h : Bool) : Br := if fits c s t then if bothOne s t then if hdV c s.lo t.lo = h then ⟨s, t, true⟩ else no3 else full (cd c h) s t else no3
def brE (c : Int) (s t : Sp) : Int := if fits c s t then 0 else 1

theorem hd1 (a b : Nat) : hdV 1 a b = decide (a = b) := rfl
theorem hd2 (a b : Nat) : hdV 2 a b = !decide (a = b) := rfl
theorem hd3 (a b : Nat) : hdV 3 a b = decide (a < b) := rfl
theorem hd4 (a b : Nat) : hdV 4 a b = decide (a ≤ b) := rfl
theorem hd5 (a b : Nat) : hdV 5 a b = !decide (a ≤ b) := rfl
theorem hd6 (a b : Nat) : hdV 6 a b = !decide (a < b) := rfl
theorem me_cases {s t : Sp} (hs : s.lo ≤ s.hi) (ht : t.lo ≤ t.hi) : (max s.lo t.lo ≤ min s.hi t.hi ∧ meV s t = ⟨max s.lo t.lo, min s.hi t.hi⟩ ∧ meE s t = 0) ∨ (min s.hi t.hi < max s.lo t.lo ∧ meV s t = sp0 ∧ meE s t = 6) := by
  unfold meV meE
  rw [may_iff.2 hs, may_iff.2 ht]
  simp only [Bool.and_true, if_true]
  by_cases h : max s.lo t.lo ≤ min s.hi t.hi
  · left; rw [if_pos h, if_pos h]; exact ⟨h, rfl, rfl⟩
  · right; rw [if_neg h, if_neg h]; exact ⟨by omega, rfl, rfl⟩
theorem hd_not {c : Int} (h : 1 ≤ c ∧ c ≤ 8) (x y : Nat) : hdV (ntV c) x y = !hdV c x y := by
  rcases (show c = 1 ∨ c = 2 ∨ c = 3 ∨ c = 4 ∨ c = 5 ∨ c = 6 ∨ c = 7 ∨ c = 8 by omega) with rfl | rfl | rfl | rfl | rfl | rfl | rfl | rfl
  · rfl
  · show hdV 1 x y = _
    rw [hd1, hd2, Bool.not_not]
  · rfl
  · rfl
  · show hdV 4 x y = _
    rw [hd4, hd5, Bool.not_not]
  · show hdV 3 x y = _
    rw [hd3, hd6, Bool.not_not]
  · rfl
  · show decide (sgn x < sgn y) = !(!decide (sgn x < sgn y))
    rw [Bool.not_not]
theorem nt_in {c : Int} (h : 1 ≤ c ∧ c ≤ 6) : 1 ≤ ntV c ∧ ntV c ≤ 6 := by
  rcases (show c = 1 ∨ c = 2 ∨ c = 3 ∨ c = 4 ∨ c = 5 ∨ c = 6 by omega) with rfl | rfl | rfl | rfl | rfl | rfl <;> decide
theorem cd_in {c : Int} (h : 1 ≤ c ∧ c ≤ 6) (b : Bool) : 1 ≤ cd c b ∧ cd c b ≤ 6 := by
  unfold cd
  split
  · exact nt_in h
  · exact h
theorem cd_hd {c : Int} (h : 1 ≤ c ∧ c ≤ 6) (b : Bool) (x y : Nat) : hdV (cd c b) x y = true ↔ hdV c x y = b := by
  unfold cd
  cases b
  · rw [if_pos ⟨rfl, by omega⟩, hd_not (by omega)]
    cases hdV c x y <;> simp
  · rw [if_neg (by simp)]

/-! ### What is in both is in what they become -/
def Snd (b : Br) (x y : Nat) : Prop := b.can = true ∧ (b.u.lo ≤ x ∧ x ≤ b.u.hi) ∧ b.v.lo ≤ y ∧ y ≤ b.v.hi
theorem held_sound {c : Int} {s t : Sp} {x y : Nat} (hc : 1 ≤ c ∧ c ≤ 4) (h1 : s.lo ≤ x) (h2 : x ≤ s.hi) (h3 : t.lo ≤ y) (h4 : y ≤ t.hi) (hh : hdV c x y = true) : Snd (held c s t) x y := by
  rcases (show c = 1 ∨ c = 2 ∨ c = 3 ∨ c = 4 by omega) with rfl | rfl | rfl | rfl
  · rw [hd1, decide_eq_true_eq] at hh
    show Snd ⟨meV s t, meV s t, decide (meE s t = 0)⟩ x y
    rcases me_cases (s := s) (t := t) (by omega) (by omega) with ⟨a, e1, e2⟩ | ⟨a, e1, e2⟩
    · rw [e1, e2]
      unfold Snd
      refine ⟨rfl, ?_⟩
      (try dsimp only)
      omega
    · omega
  · rw [hd2, Bool.not_eq_true', decide_eq_false_iff_not] at hh
    show Snd ⟨wo s t, wo t s, true⟩ x y
    refine ⟨rfl, ?_⟩
    dsimp only
    unfold wo
    repeat' split
    all_goals
      (try dsimp only)
      omega
  · rw [hd3, decide_eq_true_eq] at hh
    show Snd (blw s t) x y
    unfold blw
    rw [if_neg (by omega)]
    refine ⟨rfl, ?_⟩
    dsimp only
    omega
  · rw [hd4, decide_eq_true_eq] at hh
    show Snd (nab s t) x y
    unfold nab
    rw [if_neg (by omega)]
    refine ⟨rfl, ?_⟩
    dsimp only
    omega
theorem Snd.turn {b : Br} {x y : Nat} (h : Snd b x y) : Snd b.turn y x := ⟨h.1, h.2.2, h.2.1⟩
theorem full_any {c : Int} (h : 7 ≤ c) (s t : Sp) : full c s t = ⟨s, t, true⟩ := by
  unfold full held
  rw [if_neg (by omega), if_neg (by omega), if_neg (by omega), if_neg (by omega), if_neg (by omega), if_neg (by omega)]
theorem full_low {c : Int} (h : c ≤ 4) (s t : Sp) : full c s t = held c s t := by
  unfold full
  rw [if_neg (by omega), if_neg (by omega)]
theorem one_turn {s t : Sp} (h : ¬ bothOne s t) : ¬ bothOne t s := fun k => h ⟨k.2, k.1⟩
theorem full_sound {c : Int} {s t : Sp} {x y : Nat} (hc : 1 ≤ c ∧ c ≤ 6) (h1 : s.lo ≤ x) (h2 : x ≤ s.hi) (h3 : t.lo ≤ y) (h4 : y ≤ t.hi) (hh : hdV c x y = true) : Snd (full c s t) x y := by
  by_cases h : c ≤ 4
  · rw [full_low h]
    exact held_sound ⟨hc.1, h⟩ h1 h2 h3 h4 hh
  · rcases (show c = 5 ∨ c = 6 by omega) with rfl | rfl
    · show Snd (held 3 t s).turn x y
      rw [hd5, Bool.not_eq_true', decide_eq_false_iff_not] at hh
      exact (held_sound (by decide) h3 h4 h1 h2 (by rw [hd3, decide_eq_true_eq]; omega)).turn
    · show Snd (held 4 t s).turn x y
      rw [hd6, Bool.not_eq_true', decide_eq_false_iff_not] at hh
      exact (held_sound (by decide) h3 h4 h1 h2 (by rw [hd4, decide_eq_true_eq]; omega)).turn
theorem cd_high {c : Int} (h : 7 ≤ c ∧ c ≤ 9) (b : Bool) : 7 ≤ cd c b := by
  rcases (show c = 7 ∨ c = 8 ∨ c = 9 by omega) with rfl | rfl | rfl <;> cases b <;> decide
theorem br_sound {c : Int} {s t : Sp} {x y : Nat} (hc : 1 ≤ c ∧ c ≤ 9) (hx : hasV s x = true) (hy : hasV t y = true) : brE c s t = 0 ∧ Snd (br c s t (hdV c x y)) x y := by
  rw [has_iff] at hx hy
  have f : fits c s t := ⟨hc, may_iff.2 (by omega), may_iff.2 (by omega)⟩
  unfold br brE
  rw [if_pos f, if_pos f]
  refine ⟨rfl, ?_⟩
  by_cases ho : bothOne s t
  · rw [if_pos ho]
    obtain ⟨o1, o2⟩ := ho
    obtain rfl : x = s.lo := by omega
    obtain rfl : y = t.lo := by omega
    rw [if_pos rfl]
    exact ⟨rfl, hx, hy⟩
  · rw [if_neg ho]
    by_cases h6 : c ≤ 6
    · exact full_sound (cd_in ⟨hc.1, h6⟩ _) hx.1 hx.2 hy.1 hy.2 ((cd_hd ⟨hc.1, h6⟩ _ x y).2 rfl)
    · rw [full_any (cd_high ⟨by omega, hc.2⟩ _)]
      exact ⟨rfl, hx, hy⟩
theorem l_sound9 {c : Int} {s t : Sp} {x y : Nat} (hc : 1 ≤ c ∧ c ≤ 9) (hx : hasV s x = true) (hy : hasV t y = true) :
    brE c s t = 0 ∧ (br c s t (hdV c x y)).can = true ∧ hasV (br c s t (hdV c x y)).u x = true ∧ hasV (br c s t (hdV c x y)).v y = true := by
  have h := br_sound hc hx hy
  exact ⟨h.1, h.2.1, has_iff.2 h.2.2.1, has_iff.2 h.2.2.2⟩

/-! ### What they become lies within them -/
def Wth (b : Br) (s t : Sp) : Prop := (b.can = true → (b.u.lo ≤ b.u.hi ∧ s.lo ≤ b.u.lo ∧ b.u.hi ≤ s.hi) ∧ b.v.lo ≤ b.v.hi ∧ t.lo ≤ b.v.lo ∧ b.v.hi ≤ t.hi) ∧ (b.can = false → b.u = sp0 ∧ b.v = sp0)
theorem no3_wth (s t : Sp) : Wth no3 s t := ⟨fun h => (by cases h), fun _ => ⟨rfl, rfl⟩⟩
theorem same_wth {s t : Sp} (hs : s.lo ≤ s.hi) (ht : t.lo ≤ t.hi) : Wth ⟨s, t, true⟩ s t := ⟨fun _ => ⟨⟨hs, Nat.le_refl _, Nat.le_refl _⟩, ht, Nat.le_refl _, Nat.le_refl _⟩, fun h => by cases h⟩
theorem held_within (c : Int) {s t : Sp} (ho : ¬ bothOne s t) (hs : s.lo ≤ s.hi) (ht : t.lo ≤ t.hi) : Wth (held c s t) s t := by
  unfold bothOne at ho
  unfold held
  split
  · rcases me_cases hs ht with ⟨a, e1, e2⟩ | ⟨a, e1, e2⟩
    · rw [e1, e2]
      refine ⟨fun _ => ?_, fun h => by cases h⟩
      (try dsimp only)
      omega
    · rw [e1, e2]
      exact ⟨fun h => (by cases h), fun _ => ⟨rfl, rfl⟩⟩
  · split
    · refine ⟨fun _ => ?_, fun h => by cases h⟩
      dsimp only
      unfold wo
      repeat' split
      all_goals
        (try dsimp only)
        omega
    · split
      · unfold blw
        split
        · exact no3_wth _ _
        · refine ⟨fun _ => ?_, fun h => by cases h⟩
          dsimp only
          omega
      · split
        · unfold nab
          split
          · exact no3_wth _ _
          · refine ⟨fun _ => ?_, fun h => by cases h⟩
            dsimp only
            omega
        · exact same_wth hs ht
theorem Wth.turn {b : Br} {s t : Sp} (h : Wth b s t) : Wth b.turn t s := ⟨fun k => ⟨(h.1 k).2, (h.1 k).1⟩, fun k => ⟨(h.2 k).2, (h.2 k).1⟩⟩
theorem full_within (c : Int) {s t : Sp} (ho : ¬ bothOne s t) (hs : s.lo ≤ s.hi) (ht : t.lo ≤ t.hi) : Wth (full c s t) s t := by
  unfold full
  split
  · exact (held_within 3 (one_turn ho) ht hs).turn
  · split
    · exact (held_within 4 (one_turn ho) ht hs).turn
    · exact held_within c ho hs ht
theorem br_within (c : Int) (s t : Sp) (h : Bool) : Wth (br c s t h) s t := by
  unfold br
  split
  · rename_i f
    have hs := may_iff.1 f.2.1
    have ht := may_iff.1 f.2.2
    split
    · split
      · exact same_wth hs ht
      · exact no3_wth _ _
    · rename_i ho
      exact full_within _ ho hs ht
  · exact no3_wth _ _
theorem l_within {c : Int} {s t : Sp} {h : Bool} (k : (br c s t h).can = true) : wiV (br c s t h).u s = true ∧ wiV (br c s t h).v t = true := by
  have w := (br_within c s t h).1 k
  exact ⟨wi_iff.2 w.1, wi_iff.2 w.2⟩
theorem l_none {c : Int} {s t : Sp} {h : Bool} (k : (br c s t h).can = false) : (br c s t h).u = sp0 ∧ (br c s t h).v = sp0 := (br_within c s t h).2 k
theorem l_can {c : Int} {s t : Sp} (f : fits c s t) : (br c s t true).can = true ∨ (br c s t false).can = true := by
  have h := (br_sound (x := s.lo) (y := t.lo) f.1 (has_iff.2 ⟨Nat.le_refl _, may_iff.1 f.2.1⟩) (has_iff.2 ⟨Nat.le_refl _, may_iff.1 f.2.2⟩)).2.1
  cases e : hdV c s.lo t.lo with
  | false => rw [e] at h; exact .inr h
  | true => rw [e] at h; exact .inl h
theorem l_ok {c : Int} {s t : Sp} {h : Bool} (hs : s.ok) (ht : t.ok) : (br c s t h).u.ok ∧ (br c s t h).v.ok := by
  cases e : (br c s t h).can with
  | false =>
    rw [(l_none e).1, (l_none e).2]
    exact ⟨zero_ok, zero_ok⟩
  | true =>
    have w := (br_within c s t h).1 e
    obtain ⟨s1, s2⟩ := hs
    obtain ⟨t1, t2⟩ := ht
    unfold Sp.ok
    omega

/-! ### Some ends show it -/
def Tgt (c : Int) (b : Br) (h : Bool) : Prop := b.can = true → hdV c b.u.lo b.v.lo = h ∨ hdV c b.u.hi b.v.lo = h ∨ hdV c b.u.lo b.v.hi = h ∨ hdV c b.u.hi b.v.hi = h
theorem held_tight {c : Int} {s t : Sp} (hc : 1 ≤ c ∧ c ≤ 4) : Tgt c (held c s t) true := by
  rcases (show c = 1 ∨ c = 2 ∨ c = 3 ∨ c = 4 by omega) with rfl | rfl | rfl | rfl
  · intro _
    left
    show hdV 1 (meV s t).lo (meV s t).lo = true
    rw [hd1, decide_eq_true_eq]
  · intro _
    show hdV 2 (wo s t).lo (wo t s).lo = true ∨ hdV 2 (wo s t).hi (wo t s).lo = true ∨ hdV 2 (wo s t).lo (wo t s).hi = true ∨ hdV 2 (wo s t).hi (wo t s).hi = true
    simp only [hd2, Bool.not_eq_true', decide_eq_false_iff_not]
    unfold wo
    repeat' split
    all_goals
      (try dsimp only)
      omega
  · intro h
    right; right; left
    change (blw s t).can = true at h
    show hdV 3 (blw s t).u.lo (blw s t).v.hi = true
    unfold blw at h ⊢
    split at h
    · cases h
    · rw [if_neg (by assumption), hd3, decide_eq_true_eq]
      (try dsimp only)
      omega
  · intro h
    right; right; left
    change (nab s t).can = true at h
    show hdV 4 (nab s t).u.lo (nab s t).v.hi = true
    unfold nab at h ⊢
    split at h
    · cases h
    · rw [if_neg (by assumption), hd4, decide_eq_true_eq]
      (try dsimp only)
      omega
theorem full_tight {c : Int} {s t : Sp} (hc : 1 ≤ c ∧ c ≤ 6) : Tgt c (full c s t) true := by
  by_cases h : c ≤ 4
  · rw [full_low h]
    exact held_tight ⟨hc.1, h⟩
  · have e5 : ∀ x y, hdV 5 x y = hdV 3 y x := fun x y => by
      rw [hd5, hd3, Bool.eq_iff_iff]; simp
    have e6 : ∀ x y, hdV 6 x y = hdV 4 y x := fun x y => by
      rw [hd6, hd4, Bool.eq_iff_iff]; simp
    rcases (show c = 5 ∨ c = 6 by omega) with rfl | rfl
    · intro k
      have w := held_tight (c := 3) (by decide) k
      show hdV 5 (held 3 t s).v.lo (held 3 t s).u.lo = true ∨ hdV 5 (held 3 t s).v.hi (held 3 t s).u.lo = true ∨ hdV 5 (held 3 t s).v.lo (held 3 t s).u.hi = true ∨ hdV 5 (held 3 t s).v.hi (held 3 t s).u.hi = true
      simp only [e5]
      rcases w with w | w | w | w
      · exact .inl w
      · exact .inr (.inr (.inl w))
      · exact .inr (.inl w)
      · exact .inr (.inr (.inr w))
    · intro k
      have w := held_tight (c := 4) (by decide) k
      show hdV 6 (held 4 t s).v.lo (held 4 t s).u.lo = true ∨ hdV 6 (held 4 t s).v.hi (held 4 t s).u.lo = true ∨ hdV 6 (held 4 t s).v.lo (held 4 t s).u.hi = true ∨ hdV 6 (held 4 t s).v.hi (held 4 t s).u.hi = true
      simp only [e6]
      rcases w with w | w | w | w
      · exact .inl w
      · exact .inr (.inr (.inl w))
      · exact .inr (.inl w)
      · exact .inr (.inr (.inr w))
theorem br_tight {c : Int} (s t : Sp) (h : Bool) (hc : 1 ≤ c ∧ c ≤ 6) : Tgt c (br c s t h) h := by
  unfold br
  split
  · rename_i f
    split
    · split
      · rename_i e
        exact fun _ => .inl e
      · exact fun k => by cases k
    · have w := full_tight (s := s) (t := t) (cd_in hc h)
      intro k
      simpa only [cd_hd hc] using w k
  · exact fun k => by cases k

/-! ### Turned about; once more -/
theorem wo_me_comm (s t : Sp) : held 1 t s = (held 1 s t).turn := by
  show (⟨meV t s, meV t s, decide (meE t s = 0)⟩ : Br) = ⟨meV s t, meV s t, decide (meE s t = 0)⟩
  rw [l_me_comm t s, l_meE_comm t s]
theorem turn_turn (b : Br) : b.turn.turn = b := rfl
/-- The condition of the two numbers turned about. -/
def tw (c : Int) : Int := if c = 3 then 5 else if c = 4 then 6 else c
theorem full_turn {c : Int} (s t : Sp) (hc : c = 1 ∨ c = 2 ∨ c = 3 ∨ c = 4) (h : Bool) : full (cd (tw c) h) t s = (full (cd c h) s t).turn := by
  rcases hc with rfl | rfl | rfl | rfl <;> cases h
  · rfl
  · exact wo_me_comm s t
  · exact wo_me_comm s t
  · rfl
  · rfl
  · rfl
  · rfl
  · rfl
theorem hd_turn {c : Int} (hc : c = 1 ∨ c = 2 ∨ c = 3 ∨ c = 4) (x y : Nat) : hdV (tw c) y x = hdV c x y := by
  rcases hc with rfl | rfl | rfl | rfl
  · show decide (y = x) = decide (x = y)
    rw [Bool.eq_iff_iff]; simp; omega
  · show (!decide (y = x)) = !decide (x = y)
    rw [Bool.eq_iff_iff]; simp; omega
  · show (!decide (y ≤ x)) = decide (x < y)
    rw [Bool.eq_iff_iff]; simp
  · show (!decide (y < x)) = decide (x ≤ y)
    rw [Bool.eq_iff_iff]; simp
theorem tw_in {c : Int} (hc : c = 1 ∨ c = 2 ∨ c = 3 ∨ c = 4) : (1 ≤ c ∧ c ≤ 9) ∧ 1 ≤ tw c ∧ tw c ≤ 9 := by
  rcases hc with rfl | rfl | rfl | rfl <;> decide
theorem l_turn {c : Int} (s t : Sp) (h : Bool) (hc : c = 1 ∨ c = 2 ∨ c = 3 ∨ c = 4) : br (tw c) t s h = (br c s t h).turn ∧ brE (tw c) t s = brE c s t := by
  have k := tw_in hc
  unfold br brE
  by_cases f : fits c s t
  · have f2 : fits (tw c) t s := ⟨k.2, f.2.2, f.2.1⟩
    rw [if_pos f, if_pos f2, if_pos f, if_pos f2]
    refine ⟨?_, rfl⟩
    by_cases o : bothOne s t
    · rw [if_pos o, if_pos (show bothOne t s from ⟨o.2, o.1⟩), hd_turn hc]
      split <;> rfl
    · rw [if_neg o, if_neg (one_turn o)]
      exact full_turn s t hc h
  · have f2 : ¬ fits (tw c) t s := fun f2 => f ⟨k.1, f2.2.2, f2.2.1⟩
    rw [if_neg f, if_neg f2, if_neg f, if_neg f2]
    exact ⟨rfl, rfl⟩
theorem l_twice {c : Int} (s t : Sp) (h : Bool) (hc : 1 ≤ c ∧ c ≤ 6) (k : (br c s t h).can = true) : brE c (br c s t h).u (br c s t h).v = 0 ∧ (br c (br c s t h).u (br c s t h).v h).can = true := by
  have w := (br_within c s t h).1 k
  have g := br_tight s t h hc k
  generalize br c s t h = b at w g ⊢
  have key : ∀ x y, hasV b.u x = true → hasV b.v y = true → hdV c x y = h → brE c b.u b.v = 0 ∧ (br c b.u b.v h).can = true := fun x y hx hy e => by
    have r := br_sound (c := c) (by omega) hx hy
    rw [e] at r
    exact ⟨r.1, r.2.1⟩
  rcases g with g | g | g | g
  · exact key _ _ (has_iff.2 (by omega)) (has_iff.2 (by omega)) g
  · exact key _ _ (has_iff.2 (by omega)) (has_iff.2 (by omega)) g
  · exact key _ _ (has_iff.2 (by omega)) (has_iff.2 (by omega)) g
  · exact key _ _ (has_iff.2 (by omega)) (has_iff.2 (by omega)) g
end Go.Proofs.YticgehmpfgdbhaaDoor
