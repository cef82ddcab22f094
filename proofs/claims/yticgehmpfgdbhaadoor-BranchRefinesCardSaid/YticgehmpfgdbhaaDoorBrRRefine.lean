/- The contract of the document's Refine: whatever its arguments. Conditions: the numbers have at most 64 bits. -/
import Derived.Test.YticgehmpfgdbhaaDoorBrRR1
import Derived.Test.YticgehmpfgdbhaaDoorBrRefine
import Derived.Test.YticgehmpfgdbhaaDoorBrRRyes0a
import Derived.Test.YticgehmpfgdbhaaDoorBrRRyes0b
import Derived.Test.YticgehmpfgdbhaaDoorBrRRyes0c
import Derived.Test.YticgehmpfgdbhaaDoorBrRRyes1a
import Derived.Test.YticgehmpfgdbhaaDoorBrRRyes1b
import Derived.Test.YticgehmpfgdbhaaDoorBrRRyes1c
import Derived.Test.YticgehmpfgdbhaaDoorBrRRnot0a
import Derived.Test.YticgehmpfgdbhaaDoorBrRRnot0b
import Derived.Test.YticgehmpfgdbhaaDoorBrRRnot0c
import Derived.Test.YticgehmpfgdbhaaDoorBrRRnot1a
import Derived.Test.YticgehmpfgdbhaaDoorBrRRnot1b
import Derived.Test.YticgehmpfgdbhaaDoorBrRRnot1c
import Derived.Test.YticgehmpfgdbhaaDoorBrRRnine
namespace Go.Proofs.YticgehmpfgdbhaaDoor
open Go.RowKit
set_option maxRecDepth 100000
section
variable {w : World}
theorem int_ne {a b : Nat} (h : ¬ a = b) : ((a : Int) == b) = false := by simp; omega
theorem rr_yes (n : Int) (s t : Sp) (hn : 1 ≤ n ∧ n ≤ 9) (hs : s.ok) (ht : t.ok) (ms : s.lo ≤ s.hi) (mt : t.lo ≤ t.hi) (ho : ¬ bothOne s t) : Ans 11 #[.int .i64 n, spv s, spv t, .bool true] (.tuple #[spv (full n s t).u, spv (full n s t).v, .bool (full n s t).can, .int .i64 0]) w := by
  obtain ⟨a, b⟩ := s
  obtain ⟨c, d⟩ := t
  change a ≤ b at ms
  change c ≤ d at mt
  have M1 := Lib.hid (fun W => rmay_any (w := W) ⟨a, b⟩)
  have M2 := Lib.hid (fun W => rmay_any (w := W) ⟨c, d⟩)
  rw [may_iff.2 (by exact ms)] at M1
  rw [may_iff.2 (by exact mt)] at M2
  have g1 : ¬ n < 1 := by omega
  have g9 : ¬ 9 < n := by omega
  have hb := hs.2
  have hd := ht.2
  change b < 18446744073709551616 at hb
  change d < 18446744073709551616 at hd
  by_cases e : a = b
  · subst e
    have ss := int_ne (show ¬ c = d from fun e => ho ⟨rfl, e⟩)
    by_cases h1 : n = 1
    · subst h1
      have MT := Lib.hid (fun W => rmeet_any (w := W) ⟨a, a⟩ ⟨c, d⟩)
      show Ans _ _ (.tuple #[spv (meV ⟨a, a⟩ ⟨c, d⟩), spv (meV ⟨a, a⟩ ⟨c, d⟩), .bool (decide (meE ⟨a, a⟩ ⟨c, d⟩ = 0)), .int .i64 0]) w
      rcases me_cases (s := ⟨a, a⟩) (t := ⟨c, d⟩) ms mt with ⟨-, -, e⟩ | ⟨-, e2, e⟩
      · rw [e] at MT ⊢
        exact rr_yes1_1ok a c d M1 M2 ss _ _ MT
      · rw [e] at MT ⊢
        rw [e2]
        exact rr_yes1_1no a c d M1 M2 ss _ _ MT
    · by_cases h2 : n = 2
      · subst h2
        exact rr_yes1_2 a c d M1 M2 ss _ _ _ _ (Lib.hid (fun W => ends_any (w := W) ⟨a, a⟩ ⟨c, d⟩ ho ms hs)) (Lib.hid (fun W => ends_any (w := W) ⟨c, d⟩ ⟨a, a⟩ (one_turn ho) mt ht))
      · by_cases h3 : n = 3
        · subst h3
          show Ans _ _ (.tuple #[spv (blw ⟨a, a⟩ ⟨c, d⟩).u, spv (blw ⟨a, a⟩ ⟨c, d⟩).v, .bool (blw ⟨a, a⟩ ⟨c, d⟩).can, .int .i64 0]) w
          by_cases h : d ≤ a
          · rw [show blw ⟨a, a⟩ ⟨c, d⟩ = no3 from if_pos h]
            exact rr_yes1_3no a c d M1 M2 ss h
          · rw [show blw ⟨a, a⟩ ⟨c, d⟩ = _ from if_neg h]
            exact rr_yes1_3ok a c d M1 M2 ss _ _ h hd rfl rfl
        · by_cases h4 : n = 4
          · subst h4
            show Ans _ _ (.tuple #[spv (nab ⟨a, a⟩ ⟨c, d⟩).u, spv (nab ⟨a, a⟩ ⟨c, d⟩).v, .bool (nab ⟨a, a⟩ ⟨c, d⟩).can, .int .i64 0]) w
            by_cases h : d < a
            · rw [show nab ⟨a, a⟩ ⟨c, d⟩ = no3 from if_pos h]
              exact rr_yes1_4no a c d M1 M2 ss h
            · rw [show nab ⟨a, a⟩ ⟨c, d⟩ = _ from if_neg h]
              exact rr_yes1_4ok a c d M1 M2 ss _ _ h rfl rfl
          · by_cases h5 : n = 5
            · subst h5
              show Ans _ _ (.tuple #[spv ((blw ⟨c, d⟩ ⟨a, a⟩).turn).u, spv ((blw ⟨c, d⟩ ⟨a, a⟩).turn).v, .bool ((blw ⟨c, d⟩ ⟨a, a⟩).turn).can, .int .i64 0]) w
              by_cases h : a ≤ c
              · rw [show (blw ⟨c, d⟩ ⟨a, a⟩) = no3 from if_pos h]
                exact rr_yes1_5no a c d M1 M2 ss h
              · rw [show (blw ⟨c, d⟩ ⟨a, a⟩) = _ from if_neg h]
                exact rr_yes1_5ok a c d M1 M2 ss _ _ h hs.2 rfl rfl
            · by_cases h6 : n = 6
              · subst h6
                show Ans _ _ (.tuple #[spv ((nab ⟨c, d⟩ ⟨a, a⟩).turn).u, spv ((nab ⟨c, d⟩ ⟨a, a⟩).turn).v, .bool ((nab ⟨c, d⟩ ⟨a, a⟩).turn).can, .int .i64 0]) w
                by_cases h : a < c
                · rw [show (nab ⟨c, d⟩ ⟨a, a⟩) = no3 from if_pos h]
                  exact rr_yes1_6no a c d M1 M2 ss h
                · rw [show (nab ⟨c, d⟩ ⟨a, a⟩) = _ from if_neg h]
                  exact rr_yes1_6ok a c d M1 M2 ss _ _ h rfl rfl
              · rw [full_any (by omega)]
                have pn : ∀ {k : Int}, ¬ n = k → (n == k) = false := fun h => by simpa using h
                exact rr_yes1_o n a c d g1 g9 M1 M2 ss (pn (by omega)) (pn (by omega)) (pn (by omega)) (pn (by omega)) (pn (by omega)) (pn (by omega))
  · have ss := int_ne e
    by_cases h1 : n = 1
    · subst h1
      have MT := Lib.hid (fun W => rmeet_any (w := W) ⟨a, b⟩ ⟨c, d⟩)
      show Ans _ _ (.tuple #[spv (meV ⟨a, b⟩ ⟨c, d⟩), spv (meV ⟨a, b⟩ ⟨c, d⟩), .bool (decide (meE ⟨a, b⟩ ⟨c, d⟩ = 0)), .int .i64 0]) w
      rcases me_cases (s := ⟨a, b⟩) (t := ⟨c, d⟩) ms mt with ⟨-, -, e⟩ | ⟨-, e2, e⟩
      · rw [e] at MT ⊢
        exact rr_yes0_1ok a b c d M1 M2 ss _ _ MT
      · rw [e] at MT ⊢
        rw [e2]
        exact rr_yes0_1no a b c d M1 M2 ss _ _ MT
    · by_cases h2 : n = 2
      · subst h2
        exact rr_yes0_2 a b c d M1 M2 ss _ _ _ _ (Lib.hid (fun W => ends_any (w := W) ⟨a, b⟩ ⟨c, d⟩ ho ms hs)) (Lib.hid (fun W => ends_any (w := W) ⟨c, d⟩ ⟨a, b⟩ (one_turn ho) mt ht))
      · by_cases h3 : n = 3
        · subst h3
          show Ans _ _ (.tuple #[spv (blw ⟨a, b⟩ ⟨c, d⟩).u, spv (blw ⟨a, b⟩ ⟨c, d⟩).v, .bool (blw ⟨a, b⟩ ⟨c, d⟩).can, .int .i64 0]) w
          by_cases h : d ≤ a
          · rw [show blw ⟨a, b⟩ ⟨c, d⟩ = no3 from if_pos h]
            exact rr_yes0_3no a b c d M1 M2 ss h
          · rw [show blw ⟨a, b⟩ ⟨c, d⟩ = _ from if_neg h]
            exact rr_yes0_3ok a b c d M1 M2 ss _ _ h hd rfl rfl
        · by_cases h4 : n = 4
          · subst h4
            show Ans _ _ (.tuple #[spv (nab ⟨a, b⟩ ⟨c, d⟩).u, spv (nab ⟨a, b⟩ ⟨c, d⟩).v, .bool (nab ⟨a, b⟩ ⟨c, d⟩).can, .int .i64 0]) w
            by_cases h : d < a
            · rw [show nab ⟨a, b⟩ ⟨c, d⟩ = no3 from if_pos h]
              exact rr_yes0_4no a b c d M1 M2 ss h
            · rw [show nab ⟨a, b⟩ ⟨c, d⟩ = _ from if_neg h]
              exact rr_yes0_4ok a b c d M1 M2 ss _ _ h rfl rfl
          · by_cases h5 : n = 5
            · subst h5
              show Ans _ _ (.tuple #[spv ((blw ⟨c, d⟩ ⟨a, b⟩).turn).u, spv ((blw ⟨c, d⟩ ⟨a, b⟩).turn).v, .bool ((blw ⟨c, d⟩ ⟨a, b⟩).turn).can, .int .i64 0]) w
              by_cases h : b ≤ c
              · rw [show (blw ⟨c, d⟩ ⟨a, b⟩) = no3 from if_pos h]
                exact rr_yes0_5no a b c d M1 M2 ss h
              · rw [show (blw ⟨c, d⟩ ⟨a, b⟩) = _ from if_neg h]
                exact rr_yes0_5ok a b c d M1 M2 ss _ _ h hb rfl rfl
            · by_cases h6 : n = 6
              · subst h6
                show Ans _ _ (.tuple #[spv ((nab ⟨c, d⟩ ⟨a, b⟩).turn).u, spv ((nab ⟨c, d⟩ ⟨a, b⟩).turn).v, .bool ((nab ⟨c, d⟩ ⟨a, b⟩).turn).can, .int .i64 0]) w
                by_cases h : b < c
                · rw [show (nab ⟨c, d⟩ ⟨a, b⟩) = no3 from if_pos h]
                  exact rr_yes0_6no a b c d M1 M2 ss h
                · rw [show (nab ⟨c, d⟩ ⟨a, b⟩) = _ from if_neg h]
                  exact rr_yes0_6ok a b c d M1 M2 ss _ _ h rfl rfl
              · rw [full_any (by omega)]
                have pn : ∀ {k : Int}, ¬ n = k → (n == k) = false := fun h => by simpa using h
                exact rr_yes0_o n a b c d g1 g9 M1 M2 ss (pn (by omega)) (pn (by omega)) (pn (by omega)) (pn (by omega)) (pn (by omega)) (pn (by omega))
theorem rr_not (n p : Int) (s t : Sp) (hn : 1 ≤ n ∧ n ≤ 8) (hp : 1 ≤ p) (NT : ∀ W, Calls Tryd.prog 22 #[.int .i64 n] W fun e w' => e = .returned (.tuple #[.int .i64 p, .int .i64 0]) ∧ Below W.heap.size W w') (hs : s.ok) (ht : t.ok) (ms : s.lo ≤ s.hi) (mt : t.lo ≤ t.hi) (ho : ¬ bothOne s t) : Ans 11 #[.int .i64 n, spv s, spv t, .bool false] (.tuple #[spv (full p s t).u, spv (full p s t).v, .bool (full p s t).can, .int .i64 0]) w := by
  obtain ⟨a, b⟩ := s
  obtain ⟨c, d⟩ := t
  change a ≤ b at ms
  change c ≤ d at mt
  have M1 := Lib.hid (fun W => rmay_any (w := W) ⟨a, b⟩)
  have M2 := Lib.hid (fun W => rmay_any (w := W) ⟨c, d⟩)
  rw [may_iff.2 (by exact ms)] at M1
  rw [may_iff.2 (by exact mt)] at M2
  have NT := Lib.hid NT
  have g1 : ¬ n < 1 := by omega
  have g9 : ¬ 9 < n := by omega
  have g8 : n < 9 := by omega
  have hb := hs.2
  have hd := ht.2
  change b < 18446744073709551616 at hb
  change d < 18446744073709551616 at hd
  by_cases e : a = b
  · subst e
    have ss := int_ne (show ¬ c = d from fun e => ho ⟨rfl, e⟩)
    by_cases h1 : p = 1
    · subst h1
      have MT := Lib.hid (fun W => rmeet_any (w := W) ⟨a, a⟩ ⟨c, d⟩)
      show Ans _ _ (.tuple #[spv (meV ⟨a, a⟩ ⟨c, d⟩), spv (meV ⟨a, a⟩ ⟨c, d⟩), .bool (decide (meE ⟨a, a⟩ ⟨c, d⟩ = 0)), .int .i64 0]) w
      rcases me_cases (s := ⟨a, a⟩) (t := ⟨c, d⟩) ms mt with ⟨-, -, e⟩ | ⟨-, e2, e⟩
      · rw [e] at MT ⊢
        exact rr_not1_1ok n a c d g1 g9 g8 M1 M2 ss NT _ _ MT
      · rw [e] at MT ⊢
        rw [e2]
        exact rr_not1_1no n a c d g1 g9 g8 M1 M2 ss NT _ _ MT
    · by_cases h2 : p = 2
      · subst h2
        exact rr_not1_2 n a c d g1 g9 g8 M1 M2 ss NT _ _ _ _ (Lib.hid (fun W => ends_any (w := W) ⟨a, a⟩ ⟨c, d⟩ ho ms hs)) (Lib.hid (fun W => ends_any (w := W) ⟨c, d⟩ ⟨a, a⟩ (one_turn ho) mt ht))
      · by_cases h3 : p = 3
        · subst h3
          show Ans _ _ (.tuple #[spv (blw ⟨a, a⟩ ⟨c, d⟩).u, spv (blw ⟨a, a⟩ ⟨c, d⟩).v, .bool (blw ⟨a, a⟩ ⟨c, d⟩).can, .int .i64 0]) w
          by_cases h : d ≤ a
          · rw [show blw ⟨a, a⟩ ⟨c, d⟩ = no3 from if_pos h]
            exact rr_not1_3no n a c d g1 g9 g8 M1 M2 ss NT h
          · rw [show blw ⟨a, a⟩ ⟨c, d⟩ = _ from if_neg h]
            exact rr_not1_3ok n a c d g1 g9 g8 M1 M2 ss NT _ _ h hd rfl rfl
        · by_cases h4 : p = 4
          · subst h4
            show Ans _ _ (.tuple #[spv (nab ⟨a, a⟩ ⟨c, d⟩).u, spv (nab ⟨a, a⟩ ⟨c, d⟩).v, .bool (nab ⟨a, a⟩ ⟨c, d⟩).can, .int .i64 0]) w
            by_cases h : d < a
            · rw [show nab ⟨a, a⟩ ⟨c, d⟩ = no3 from if_pos h]
              exact rr_not1_4no n a c d g1 g9 g8 M1 M2 ss NT h
            · rw [show nab ⟨a, a⟩ ⟨c, d⟩ = _ from if_neg h]
              exact rr_not1_4ok n a c d g1 g9 g8 M1 M2 ss NT _ _ h rfl rfl
          · by_cases h5 : p = 5
            · subst h5
              show Ans _ _ (.tuple #[spv ((blw ⟨c, d⟩ ⟨a, a⟩).turn).u, spv ((blw ⟨c, d⟩ ⟨a, a⟩).turn).v, .bool ((blw ⟨c, d⟩ ⟨a, a⟩).turn).can, .int .i64 0]) w
              by_cases h : a ≤ c
              · rw [show (blw ⟨c, d⟩ ⟨a, a⟩) = no3 from if_pos h]
                exact rr_not1_5no n a c d g1 g9 g8 M1 M2 ss NT h
              · rw [show (blw ⟨c, d⟩ ⟨a, a⟩) = _ from if_neg h]
                exact rr_not1_5ok n a c d g1 g9 g8 M1 M2 ss NT _ _ h hs.2 rfl rfl
            · by_cases h6 : p = 6
              · subst h6
                show Ans _ _ (.tuple #[spv ((nab ⟨c, d⟩ ⟨a, a⟩).turn).u, spv ((nab ⟨c, d⟩ ⟨a, a⟩).turn).v, .bool ((nab ⟨c, d⟩ ⟨a, a⟩).turn).can, .int .i64 0]) w
                by_cases h : a < c
                · rw [show (nab ⟨c, d⟩ ⟨a, a⟩) = no3 from if_pos h]
                  exact rr_not1_6no n a c d g1 g9 g8 M1 M2 ss NT h
                · rw [show (nab ⟨c, d⟩ ⟨a, a⟩) = _ from if_neg h]
                  exact rr_not1_6ok n a c d g1 g9 g8 M1 M2 ss NT _ _ h rfl rfl
              · rw [full_any (by omega)]
                have pn : ∀ {k : Int}, ¬ p = k → (p == k) = false := fun h => by simpa using h
                exact rr_not1_o n p a c d g1 g9 g8 M1 M2 ss NT (pn (by omega)) (pn (by omega)) (pn (by omega)) (pn (by omega)) (pn (by omega)) (pn (by omega))
  · have ss := int_ne e
    by_cases h1 : p = 1
    · subst h1
      have MT := Lib.hid (fun W => rmeet_any (w := W) ⟨a, b⟩ ⟨c, d⟩)
      show Ans _ _ (.tuple #[spv (meV ⟨a, b⟩ ⟨c, d⟩), spv (meV ⟨a, b⟩ ⟨c, d⟩), .bool (decide (meE ⟨a, b⟩ ⟨c, d⟩ = 0)), .int .i64 0]) w
      rcases me_cases (s := ⟨a, b⟩) (t := ⟨c, d⟩) ms mt with ⟨-, -, e⟩ | ⟨-, e2, e⟩
      · rw [e] at MT ⊢
        exact rr_not0_1ok n a b c d g1 g9 g8 M1 M2 ss NT _ _ MT
      · rw [e] at MT ⊢
        rw [e2]
        exact rr_not0_1no n a b c d g1 g9 g8 M1 M2 ss NT _ _ MT
    · by_cases h2 : p = 2
      · subst h2
        exact rr_not0_2 n a b c d g1 g9 g8 M1 M2 ss NT _ _ _ _ (Lib.hid (fun W => ends_any (w := W) ⟨a, b⟩ ⟨c, d⟩ ho ms hs)) (Lib.hid (fun W => ends_any (w := W) ⟨c, d⟩ ⟨a, b⟩ (one_turn ho) mt ht))
      · by_cases h3 : p = 3
        · subst h3
          show Ans _ _ (.tuple #[spv (blw ⟨a, b⟩ ⟨c, d⟩).u, spv (blw ⟨a, b⟩ ⟨c, d⟩).v, .bool (blw ⟨a, b⟩ ⟨c, d⟩).can, .int .i64 0]) w
          by_cases h : d ≤ a
          · rw [show blw ⟨a, b⟩ ⟨c, d⟩ = no3 from if_pos h]
            exact rr_not0_3no n a b c d g1 g9 g8 M1 M2 ss NT h
          · rw [show blw ⟨a, b⟩ ⟨c, d⟩ = _ from if_neg h]
            exact rr_not0_3ok n a b c d g1 g9 g8 M1 M2 ss NT _ _ h hd rfl rfl
        · by_cases h4 : p = 4
          · subst h4
            show Ans _ _ (.tuple #[spv (nab ⟨a, b⟩ ⟨c, d⟩).u, spv (nab ⟨a, b⟩ ⟨c, d⟩).v, .bool (nab ⟨a, b⟩ ⟨c, d⟩).can, .int .i64 0]) w
            by_cases h : d < a
            · rw [show nab ⟨a, b⟩ ⟨c, d⟩ = no3 from if_pos h]
              exact rr_not0_4no n a b c d g1 g9 g8 M1 M2 ss NT h
            · rw [show nab ⟨a, b⟩ ⟨c, d⟩ = _ from if_neg h]
              exact rr_not0_4ok n a b c d g1 g9 g8 M1 M2 ss NT _ _ h rfl rfl
          · by_cases h5 : p = 5
            · subst h5
              show Ans _ _ (.tuple #[spv ((blw ⟨c, d⟩ ⟨a, b⟩).turn).u, spv ((blw ⟨c, d⟩ ⟨a, b⟩).turn).v, .bool ((blw ⟨c, d⟩ ⟨a, b⟩).turn).can, .int .i64 0]) w
              by_cases h : b ≤ c
              · rw [show (blw ⟨c, d⟩ ⟨a, b⟩) = no3 from if_pos h]
                exact rr_not0_5no n a b c d g1 g9 g8 M1 M2 ss NT h
              · rw [show (blw ⟨c, d⟩ ⟨a, b⟩) = _ from if_neg h]
                exact rr_not0_5ok n a b c d g1 g9 g8 M1 M2 ss NT _ _ h hb rfl rfl
            · by_cases h6 : p = 6
              · subst h6
                show Ans _ _ (.tuple #[spv ((nab ⟨c, d⟩ ⟨a, b⟩).turn).u, spv ((nab ⟨c, d⟩ ⟨a, b⟩).turn).v, .bool ((nab ⟨c, d⟩ ⟨a, b⟩).turn).can, .int .i64 0]) w
                by_cases h : b < c
                · rw [show (nab ⟨c, d⟩ ⟨a, b⟩) = no3 from if_pos h]
                  exact rr_not0_6no n a b c d g1 g9 g8 M1 M2 ss NT h
                · rw [show (nab ⟨c, d⟩ ⟨a, b⟩) = _ from if_neg h]
                  exact rr_not0_6ok n a b c d g1 g9 g8 M1 M2 ss NT _ _ h rfl rfl
              · rw [full_any (by omega)]
                have pn : ∀ {k : Int}, ¬ p = k → (p == k) = false := fun h => by simpa using h
                exact rr_not0_o n p a b c d g1 g9 g8 M1 M2 ss NT (pn (by omega)) (pn (by omega)) (pn (by omega)) (pn (by omega)) (pn (by omega)) (pn (by omega))
theorem rrefine_any (c : Int) (s t : Sp) (h : Bool) (hs : s.ok) (ht : t.ok) :
    Ans 11 #[.int .i64 c, spv s, spv t, .bool h] (.tuple #[spv (br c s t h).u, spv (br c s t h).v, .bool (br c s t h).can, .int .i64 (brE c s t)]) w := by
  have M1 := fun W => rmay_any (w := W) s
  have M2 := fun W => rmay_any (w := W) t
  by_cases f : fits c s t
  · have hc := f.1
    have ms := may_iff.1 f.2.1
    have mt := may_iff.1 f.2.2
    rw [f.2.1] at M1
    rw [f.2.2] at M2
    rw [show brE c s t = 0 from if_pos f]
    by_cases ho : bothOne s t
    · have H := fun W => rholds_any (w := W) c s.lo t.lo hs.1 ht.1
      rw [show hdE c = 0 by unfold hdE; rw [if_pos hc]] at H
      obtain ⟨a, b⟩ := s
      obtain ⟨x, y⟩ := t
      obtain ⟨o1, o2⟩ := ho
      change a = b at o1
      change x = y at o2
      subst o1 o2
      by_cases e : hdV c a x = h
      · rw [show br c ⟨a, a⟩ ⟨x, x⟩ h = ⟨⟨a, a⟩, ⟨x, x⟩, true⟩ by unfold br; rw [if_pos f, if_pos ⟨rfl, rfl⟩, if_pos e]]
        exact rr_one1 c a x _ h (by omega) (by omega) (Lib.hid M1) (Lib.hid M2) (Lib.hid H) e
      · rw [show br c ⟨a, a⟩ ⟨x, x⟩ h = no3 by unfold br; rw [if_pos f, if_pos ⟨rfl, rfl⟩, if_neg e]]
        exact rr_one2 c a x _ h (by omega) (by omega) (Lib.hid M1) (Lib.hid M2) (Lib.hid H) e
    · rw [show br c s t h = full (cd c h) s t by unfold br; rw [if_pos f, if_neg ho]]
      cases h
      · by_cases h9 : c = 9
        · subst h9
          rw [show cd 9 false = 9 from rfl, full_any (by decide)]
          by_cases e : s.lo = s.hi
          · obtain ⟨a, b⟩ := s
            change a = b at e
            subst e
            exact rr_nine1_o a t.lo t.hi (Lib.hid M1) (Lib.hid M2) (int_ne (show ¬ t.lo = t.hi from fun e => ho ⟨rfl, e⟩))
          · exact rr_nine0_o s.lo s.hi t.lo t.hi (Lib.hid M1) (Lib.hid M2) (int_ne e)
        · rw [show cd c false = ntV c from if_pos ⟨rfl, h9⟩]
          have NT := fun W => rnot_any (w := W) c
          rw [show ntE c = 0 by unfold ntE; rw [if_pos (by omega)]] at NT
          exact rr_not c (ntV c) s t (by omega) (nt_in8 (c := c) (by omega)).1 NT hs ht ms mt ho
      · rw [show cd c true = c from if_neg (by simp)]
        exact rr_yes c s t hc hs ht ms mt ho
  · rw [show br c s t h = no3 from if_neg f, show brE c s t = 1 from if_neg f]
    by_cases h1 : c < 1
    · exact rr_lo c s.lo s.hi t.lo t.hi h h1
    · by_cases h9 : 9 < c
      · exact rr_hi c s.lo s.hi t.lo t.hi h h9
      · cases m1 : mayV s
        · rw [m1] at M1
          exact rr_bad1 c s.lo s.hi t.lo t.hi h h1 h9 (Lib.hid M1)
        · cases m2 : mayV t
          · rw [m1] at M1
            rw [m2] at M2
            exact rr_bad2 c s.lo s.hi t.lo t.hi h h1 h9 (Lib.hid M1) (Lib.hid M2)
          · exact absurd ⟨by omega, m1, m2⟩ f
end
end Go.Proofs.YticgehmpfgdbhaaDoor
