/- The contracts of the document's digits and with. No condition. -/
import Derived.Test.YtcedjjolikmbbaaDoorJReadM
import Derived.Test.YtcedjjolikmbbaaDoorJSmall
import Derived.Test.YtcedjjolikmbbaaDoorJCheck
namespace Go.Proofs.YtcedjjolikmbbaaDoor
open Go.RowKit
set_option maxRecDepth 100000
set_option maxHeartbeats 2000000
theorem digs_bound : ∀ (l : List UInt8) (a v : Nat), digs l a = some v → v < 10 ^ l.length * (a + 1)
  | [], a, v, h => by simp [digs] at h; subst h; simp
  | c :: r, a, v, h => by
    unfold digs at h
    split at h
    · have ih := digs_bound r _ v h
      refine Nat.lt_of_lt_of_le ih ?_
      rw [List.length_cons, Nat.pow_succ, Nat.mul_assoc]
      exact Nat.mul_le_mul_left _ (by omega)
    · cases h
section
variable {w : World}
theorem rdigits_any (s : List UInt8) (n : Nat) (hn : n ≤ 1) (hs : s.length ≤ 1048575) : Calls Tryd.prog 37 #[.string (st s), .int .i64 (n : Int)] w fun e w' => e = .returned (.tuple #[.int .u32 ((rdg s n).1 : Int), .bool (rdg s n).2]) ∧ Below w.heap.size w w' := by
  have hsz : (st s).size = s.length := st_size s
  have wn : IntKind.i64.wrap ((n : Int) + 10) = (n : Int) + 10 := by rw [show (n : Int) + 10 = ((n + 10 : Nat) : Int) by omega]; exact w64 _ (by omega)
  have HIX := Lib.hid (fun (k : Nat) (c : UInt8) (h : s[k]? = some c) W => run_ixs h W)
  by_cases h1 : s.length ≤ n
  · have HE := Lib.hid (show rdg s n = (0, false) by unfold rdg; rw [if_pos (.inl h1)])
    go_enter Tryd.func37, Tryd.ntmps37
    go_wp2_with fail
    go_ret2
    rw [HE.out]
    exact ⟨rfl, by go_grown⟩
  by_cases h2 : n + 10 < s.length
  · have HE := Lib.hid (show rdg s n = (0, false) by unfold rdg; rw [if_pos (.inr h2)])
    have h2' : (n : Int) + 10 < (s.length : Int) := by omega
    go_enter Tryd.func37, Tryd.ntmps37
    go_wp2_with fail
    go_ret2
    rw [HE.out]
    exact ⟨rfl, by go_grown⟩
  have h2' : ¬ (n : Int) + 10 < (s.length : Int) := by omega
  have HE := Lib.hid (show rdg s n = match digs (s.drop n) 0 with | none => (0, false) | some v => (v % 4294967296, decide (v < 4294967296)) by unfold rdg; rw [if_neg (by omega)]; rfl)
  have HS := Lib.hid (And.intro h1 h2)
  obtain ⟨L, hL⟩ : ∃ L, s.length = L := ⟨_, rfl⟩
  rw [hL] at h1 h2 h2' hsz hs
  have HL := Lib.hid hL
  clear hL
  go_enter Tryd.func37, Tryd.ntmps37
  go_wp2_with fail
  go_loopw [6, 7] (fun v q wr => ∃ a i : Nat, n ≤ i ∧ i ≤ L ∧ q = .int .i64 (i : Int) ∧ v = .int .u64 (a : Int) ∧ a < 10 ^ (i - n) ∧ Hid (digs (s.drop n) 0 = digs (s.drop i) a) ∧ Hid (Below w.heap.size w wr)) (fun _ q _ => L - (intOf q).toNat)
  case atStart => exact ⟨0, n, Nat.le_refl _, by omega, rfl, rfl, by simp, rfl, Below.refl _ _⟩
  case round =>
    obtain ⟨a, i, hi1, hi2, rfl, rfl, ha, HD, HW⟩ := hrel
    have hp : 10 ^ (i - n) ≤ 10 ^ 10 := Nat.pow_le_pow_right (by omega) (by omega)
    have ha2 : a < 10000000000 := Nat.lt_of_lt_of_le ha (by simpa using hp)
    by_cases hiL : i < L
    · have hiL' : (i : Int) < (L : Int) := by omega
      obtain ⟨c, hc⟩ : ∃ c, s[i]? = some c := ⟨_, List.getElem?_eq_getElem (by rw [HL.out]; exact hiL)⟩
      have ix := HIX.out i c hc
      have wi : IntKind.i64.wrap ((i : Int) + 1) = ((i + 1 : Nat) : Int) := by rw [show (i : Int) + 1 = ((i + 1 : Nat) : Int) by omega]; exact w64 _ (by omega)
      have HDc := Lib.hid (show s.drop i = c :: s.drop (i + 1) by
        rw [List.drop_eq_getElem_cons (by rw [HL.out]; exact hiL)]
        have := (List.getElem?_eq_some_iff.1 hc).2
        rw [this])
      have hc256 : c.toNat < 256 := c.toNat_lt
      have HPW := Lib.hid (show 10 ^ (i + 1 - n) = 10 ^ (i - n) * 10 by rw [show i + 1 - n = (i - n) + 1 by omega, Nat.pow_succ])
      obtain ⟨C, hC⟩ : ∃ C, c.toNat = C := ⟨_, rfl⟩
      have HCC := Lib.hid hC
      rw [hC] at ix hc256
      clear hC hc hp
      by_cases hlo : C < 48
      · have g1 : (C : Int) < 48 := by omega
        have HN := Lib.hid (show digs (s.drop n) 0 = none by rw [HD.out, HDc.out]; unfold digs; rw [if_neg (by rw [HCC.out]; omega)])
        go_wp2_with fail
        go_ret2
        rw [HE.out, HN.out]
        exact ⟨rfl, HW.out⟩
      · by_cases hhi : 57 < C
        · have g1 : ¬ (C : Int) < 48 := by omega
          have g2 : (57 : Int) < (C : Int) := by omega
          have HN := Lib.hid (show digs (s.drop n) 0 = none by rw [HD.out, HDc.out]; unfold digs; rw [if_neg (by rw [HCC.out]; omega)])
          go_wp2_with fail
          go_ret2
          rw [HE.out, HN.out]
          exact ⟨rfl, HW.out⟩
        · have g1 : ¬ (C : Int) < 48 := by omega
          have g2 : ¬ (57 : Int) < (C : Int) := by omega
          have HN := Lib.hid (show digs (s.drop n) 0 = digs (s.drop (i + 1)) (10 * a + (C - 48)) by rw [HD.out, HDc.out]; conv => lhs; unfold digs; rw [if_pos (by rw [HCC.out]; omega), HCC.out])
          have w1 : IntKind.u64.wrap (10 * (a : Int)) = 10 * (a : Int) := by rw [show 10 * (a : Int) = ((10 * a : Nat) : Int) by omega]; exact w64u _ (by omega)
          have w2 : IntKind.u8.wrap ((C : Int) - 48) = ((C - 48 : Nat) : Int) := by rw [show (C : Int) - 48 = ((C - 48 : Nat) : Int) by omega]; exact w8i _ (by omega)
          have w3 := w64u (C - 48) (by omega)
          have w4 : IntKind.u64.wrap (10 * (a : Int) + ((C - 48 : Nat) : Int)) = ((10 * a + (C - 48) : Nat) : Int) := by rw [show 10 * (a : Int) + ((C - 48 : Nat) : Int) = ((10 * a + (C - 48) : Nat) : Int) by omega]; exact w64u _ (by omega)
          obtain ⟨b, hb⟩ : ∃ b, 10 * a + (C - 48) = b := ⟨_, rfl⟩
          rw [hb] at HN w4
          have hbb : b < 10 ^ (i + 1 - n) := by rw [HPW.out]; omega
          have HB := Lib.hid hbb
          clear hb hbb
          go_wp2_with fail
          go_roundw
          case rel => exact ⟨b, i + 1, by omega, by omega, by go_num, rfl, HB.out, HN, HW⟩
          case measure => simp [intOf]; omega
    · obtain rfl : i = L := by omega
      have HN := Lib.hid (show digs (s.drop n) 0 = some a by rw [HD.out, List.drop_of_length_le (by rw [HL.out]; exact Nat.le_refl _)]; rfl)
      have wa : IntKind.u32.wrap (a : Int) = ((a % 4294967296 : Nat) : Int) := by simp [IntKind.wrap, IntKind.bits, IntKind.signed]
      clear hp ha
      by_cases h32 : a < 4294967296
      · have g1 : (a : Int) < 4294967296 := by omega
        have HDD := Lib.hid (decide_eq_true h32)
        clear h32
        go_wp2_with fail
        go_ret2
        rw [HE.out, HN.out]
        simp only [HDD.out]
        exact ⟨rfl, HW.out⟩
      · have g1 : ¬ (a : Int) < 4294967296 := by omega
        have HDD := Lib.hid (decide_eq_false h32)
        clear h32
        go_wp2_with fail
        go_ret2
        rw [HE.out, HN.out]
        simp only [HDD.out]
        exact ⟨rfl, HW.out⟩
theorem rwith_any (i : In) (c : UInt8) (v : Nat) : Calls Tryd.prog 38 #[iv i, .int .u8 (c.toNat : Int), .int .u32 (v : Int)] w fun e w' => e = .returned (iv (rwith i c v)) ∧ Below w.heap.size w w' := by
  obtain ⟨op, a, b, c', im⟩ := i
  unfold iv
  have wv := w8 v
  have ne : ∀ d : UInt8, c ≠ d → ((c.toNat : Int) == (d.toNat : Int)) = false := fun d hd => by
    simp only [beq_eq_false_iff_ne, ne_eq]
    exact fun e => hd (UInt8.toNat_inj.1 (by omega))
  by_cases ea : c = 65
  · subst ea
    clear ne
    go_enter Tryd.func38, Tryd.ntmps38
    go_wp2_with fail
    go_returns
    refine ⟨rfl, ?_⟩
    (repeat' (first | exact Below.refl _ _ | assumption | (refine Below.setCell ?_ (by (try simp) <;> omega) _) | (refine Below.alloc ?_ (by (try simp) <;> omega) _)))
  by_cases eb : c = 66
  · subst eb
    clear ne
    go_enter Tryd.func38, Tryd.ntmps38
    go_wp2_with fail
    go_returns
    refine ⟨rfl, ?_⟩
    (repeat' (first | exact Below.refl _ _ | assumption | (refine Below.setCell ?_ (by (try simp) <;> omega) _) | (refine Below.alloc ?_ (by (try simp) <;> omega) _)))
  by_cases ec : c = 67
  · subst ec
    clear ne
    go_enter Tryd.func38, Tryd.ntmps38
    go_wp2_with fail
    go_returns
    refine ⟨rfl, ?_⟩
    (repeat' (first | exact Below.refl _ _ | assumption | (refine Below.setCell ?_ (by (try simp) <;> omega) _) | (refine Below.alloc ?_ (by (try simp) <;> omega) _)))
  have n1 : ((c.toNat : Int) == 65) = false := ne 65 ea
  have n2 : ((c.toNat : Int) == 66) = false := ne 66 eb
  have n3 : ((c.toNat : Int) == 67) = false := ne 67 ec
  have HL := Lib.hid (show rwith ⟨op, a, b, c', im⟩ c v = ⟨op, a, b, c', v⟩ by simp [rwith, ea, eb, ec])
  clear ea eb ec ne
  go_enter Tryd.func38, Tryd.ntmps38
  go_wp2_with fail
  go_returns
  rw [HL.out]
  refine ⟨rfl, ?_⟩
  (repeat' (first | exact Below.refl _ _ | assumption | (refine Below.setCell ?_ (by (try simp) <;> omega) _) | (refine Below.alloc ?_ (by (try simp) <;> omega) _)))
end
end Go.Proofs.YtcedjjolikmbbaaDoor
