/- The contract of branch.Refine: whatever its arguments. Conditions: the numbers have at most 64 bits; Not's table lies in its block. -/
import Derived.Test.YticgehmpfgdbhaaDoorBrRef1
import Derived.Test.YticgehmpfgdbhaaDoorBrRef2
import Derived.Test.YticgehmpfgdbhaaDoorBrRef3
import Derived.Test.YticgehmpfgdbhaaDoorBrRef4
namespace Go.Proofs.YticgehmpfgdbhaaDoor
open Go.RowKit
set_option maxRecDepth 100000
section
variable {w : World}
theorem wf9 {n : Int} (h : 1 ≤ n ∧ n ≤ 9) : (Lit.int .i64 n).wf = true := by
  rcases (show n = 1 ∨ n = 2 ∨ n = 3 ∨ n = 4 ∨ n = 5 ∨ n = 6 ∨ n = 7 ∨ n = 8 ∨ n = 9 by omega) with rfl | rfl | rfl | rfl | rfl | rfl | rfl | rfl | rfl <;> decide
theorem nt_in8 {c : Int} (h : 1 ≤ c ∧ c ≤ 8) : 1 ≤ ntV c ∧ ntV c ≤ 9 := by
  rcases (show c = 1 ∨ c = 2 ∨ c = 3 ∨ c = 4 ∨ c = 5 ∨ c = 6 ∨ c = 7 ∨ c = 8 by omega) with rfl | rfl | rfl | rfl | rfl | rfl | rfl | rfl <;> decide
/-- What is asked of refineHeld, and what the map says. -/
theorem asked (p : Int) (s t : Sp) (hs : s.ok) (ht : t.ok) (ms : s.lo ≤ s.hi) (mt : t.lo ≤ t.hi) (ho : ¬ bothOne s t) :
    (∃ m, ask p m true ∧ ∀ W, Ans 19 #[.int .i64 m, spv t, spv s] (.tuple #[spv (full p s t).v, spv (full p s t).u, .bool (full p s t).can]) W)
    ∨ (∃ m, ask p m false ∧ ∀ W, Ans 19 #[.int .i64 p, spv s, spv t] (.tuple #[spv (full p s t).u, spv (full p s t).v, .bool (full p s t).can]) W) := by
  by_cases h5 : p = 5
  · subst h5
    exact .inl ⟨3, .inl ⟨rfl, rfl, rfl⟩, fun W => held_any 3 t s ht hs mt ms (one_turn ho)⟩
  · by_cases h6 : p = 6
    · subst h6
      exact .inl ⟨4, .inr (.inl ⟨rfl, rfl, rfl⟩), fun W => held_any 4 t s ht hs mt ms (one_turn ho)⟩
    · have e : full p s t = held p s t := by
        unfold full
        rw [if_neg h5, if_neg h6]
      rw [e]
      exact .inr ⟨0, .inr (.inr ⟨h5, h6, rfl, rfl⟩), fun W => held_any p s t hs ht ms mt ho⟩
theorem refine_any (c : Int) (s t : Sp) (h : Bool) (hs : s.ok) (ht : t.ok) (T : Hid (Nots w)) :
    Ans 10 #[.int .i64 c, spv s, spv t, .bool h] (.tuple #[spv (br c s t h).u, spv (br c s t h).v, .bool (br c s t h).can, .int .i64 (brE c s t)]) w := by
  have H := fun W => holds_any (w := W) c s.lo t.lo hs.1 ht.1
  have M1 := fun W => may_any (w := W) s
  have M2 := fun W => may_any (w := W) t
  have I1 := fun W => bsingle_any (w := W) s
  have I2 := fun W => bsingle_any (w := W) t
  by_cases f : fits c s t
  · have hc := f.1
    have ms := may_iff.1 f.2.1
    have mt := may_iff.1 f.2.2
    rw [f.2.1] at M1
    rw [f.2.2] at M2
    rw [show hdE c = 0 by unfold hdE; rw [if_pos hc]] at H
    rw [show brE c s t = 0 from if_pos f]
    by_cases ho : bothOne s t
    · rw [one_iff.2 ho.1] at I1
      rw [one_iff.2 ho.2] at I2
      by_cases e : hdV c s.lo t.lo = h
      · rw [show br c s t h = ⟨s, t, true⟩ by unfold br; rw [if_pos f, if_pos ho, if_pos e]]
        exact ref_one1 c s.lo s.hi t.lo t.hi _ h (Lib.hid H) (Lib.hid M1) (Lib.hid M2) (Lib.hid I1) (Lib.hid I2) e
      · rw [show br c s t h = no3 by unfold br; rw [if_pos f, if_pos ho, if_neg e]]
        exact ref_one2 c s.lo s.hi t.lo t.hi _ h (Lib.hid H) (Lib.hid M1) (Lib.hid M2) (Lib.hid I1) (Lib.hid I2) e
    · rw [show br c s t h = full (cd c h) s t by unfold br; rw [if_pos f, if_neg ho]]
      have A := asked (cd c h) s t hs ht ms mt ho
      have I : isOne s = false ∨ isOne s = true ∧ isOne t = false := by
        cases e1 : isOne s
        · exact .inl rfl
        · cases e2 : isOne t
          · exact .inr ⟨rfl, rfl⟩
          · exact absurd ⟨one_iff.1 e1, one_iff.1 e2⟩ ho
      cases h
      · by_cases h9 : c = 9
        · have e : cd c false = c := if_neg (by simp [h9])
          rw [e] at A ⊢
          rcases A with ⟨m, a, M⟩ | ⟨m, a, M⟩ <;> rcases I with e1 | ⟨e1, e2⟩
          · rw [e1] at I1
            exact ref_nine_true0 c m s.lo s.hi t.lo t.hi _ _ _ _ _ _ (Lib.hid H) (Lib.hid M1) (Lib.hid M2) (Lib.hid I1) (Lib.hid (wf9 hc)) (Lib.hid a) h9 (Lib.hid M)
          · rw [e1] at I1
            rw [e2] at I2
            exact ref_nine_true1 c m s.lo s.hi t.lo t.hi _ _ _ _ _ _ (Lib.hid H) (Lib.hid M1) (Lib.hid M2) (Lib.hid I1) (Lib.hid I2) (Lib.hid (wf9 hc)) (Lib.hid a) h9 (Lib.hid M)
          · rw [e1] at I1
            exact ref_nine_false0 c m s.lo s.hi t.lo t.hi _ _ _ _ _ _ (Lib.hid H) (Lib.hid M1) (Lib.hid M2) (Lib.hid I1) (Lib.hid (wf9 hc)) (Lib.hid a) h9 (Lib.hid M)
          · rw [e1] at I1
            rw [e2] at I2
            exact ref_nine_false1 c m s.lo s.hi t.lo t.hi _ _ _ _ _ _ (Lib.hid H) (Lib.hid M1) (Lib.hid M2) (Lib.hid I1) (Lib.hid I2) (Lib.hid (wf9 hc)) (Lib.hid a) h9 (Lib.hid M)
        · have e : cd c false = ntV c := if_pos ⟨rfl, h9⟩
          have NT := fun (W : World) (T : Hid (Nots W)) => not_any c T
          rw [show ntE c = 0 by unfold ntE; rw [if_pos (by omega)]] at NT
          have wf := wf9 (nt_in8 (c := c) (by omega))
          rw [e] at A ⊢
          rcases A with ⟨m, a, M⟩ | ⟨m, a, M⟩ <;> rcases I with e1 | ⟨e1, e2⟩
          · rw [e1] at I1
            exact ref_not_true0 c _ m s.lo s.hi t.lo t.hi _ _ _ _ _ _ (Lib.hid H) (Lib.hid M1) (Lib.hid M2) (Lib.hid I1) (Lib.hid wf) (Lib.hid a) h9 (Lib.hid NT) T (Lib.hid M)
          · rw [e1] at I1
            rw [e2] at I2
            exact ref_not_true1 c _ m s.lo s.hi t.lo t.hi _ _ _ _ _ _ (Lib.hid H) (Lib.hid M1) (Lib.hid M2) (Lib.hid I1) (Lib.hid I2) (Lib.hid wf) (Lib.hid a) h9 (Lib.hid NT) T (Lib.hid M)
          · rw [e1] at I1
            exact ref_not_false0 c _ m s.lo s.hi t.lo t.hi _ _ _ _ _ _ (Lib.hid H) (Lib.hid M1) (Lib.hid M2) (Lib.hid I1) (Lib.hid wf) (Lib.hid a) h9 (Lib.hid NT) T (Lib.hid M)
          · rw [e1] at I1
            rw [e2] at I2
            exact ref_not_false1 c _ m s.lo s.hi t.lo t.hi _ _ _ _ _ _ (Lib.hid H) (Lib.hid M1) (Lib.hid M2) (Lib.hid I1) (Lib.hid I2) (Lib.hid wf) (Lib.hid a) h9 (Lib.hid NT) T (Lib.hid M)
      · have e : cd c true = c := if_neg (by simp)
        rw [e] at A ⊢
        rcases A with ⟨m, a, M⟩ | ⟨m, a, M⟩ <;> rcases I with e1 | ⟨e1, e2⟩
        · rw [e1] at I1
          exact ref_yes_true0 c m s.lo s.hi t.lo t.hi _ _ _ _ _ _ (Lib.hid H) (Lib.hid M1) (Lib.hid M2) (Lib.hid I1) (Lib.hid (wf9 hc)) (Lib.hid a) (Lib.hid M)
        · rw [e1] at I1
          rw [e2] at I2
          exact ref_yes_true1 c m s.lo s.hi t.lo t.hi _ _ _ _ _ _ (Lib.hid H) (Lib.hid M1) (Lib.hid M2) (Lib.hid I1) (Lib.hid I2) (Lib.hid (wf9 hc)) (Lib.hid a) (Lib.hid M)
        · rw [e1] at I1
          exact ref_yes_false0 c m s.lo s.hi t.lo t.hi _ _ _ _ _ _ (Lib.hid H) (Lib.hid M1) (Lib.hid M2) (Lib.hid I1) (Lib.hid (wf9 hc)) (Lib.hid a) (Lib.hid M)
        · rw [e1] at I1
          rw [e2] at I2
          exact ref_yes_false1 c m s.lo s.hi t.lo t.hi _ _ _ _ _ _ (Lib.hid H) (Lib.hid M1) (Lib.hid M2) (Lib.hid I1) (Lib.hid I2) (Lib.hid (wf9 hc)) (Lib.hid a) (Lib.hid M)
  · rw [show br c s t h = no3 from if_neg f, show brE c s t = 1 from if_neg f]
    by_cases hc : 1 ≤ c ∧ c ≤ 9
    · rw [show hdE c = 0 by unfold hdE; rw [if_pos hc]] at H
      cases m1 : mayV s
      · rw [m1] at M1
        exact ref_bad1 c s.lo s.hi t.lo t.hi _ h (Lib.hid H) (Lib.hid M1)
      · cases m2 : mayV t
        · rw [m1] at M1
          rw [m2] at M2
          exact ref_bad2 c s.lo s.hi t.lo t.hi _ h (Lib.hid H) (Lib.hid M1) (Lib.hid M2)
        · exact absurd ⟨hc, m1, m2⟩ f
    · rw [show hdE c = 1 by unfold hdE; rw [if_neg hc]] at H
      exact ref_bad0 c s.lo s.hi t.lo t.hi _ h (Lib.hid H)
end
end Go.Proofs.YticgehmpfgdbhaaDoor
