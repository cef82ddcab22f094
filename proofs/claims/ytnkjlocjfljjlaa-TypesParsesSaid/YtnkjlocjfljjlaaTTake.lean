/- The contracts of fieldsOf and takeType. Condition: the slices can be read. -/
import Derived.Test.YtnkjlocjfljjlaaTPWords
import Derived.Test.YtnkjlocjfljjlaaTTarget
import Derived.Test.YtnkjlocjfljjlaaTBytes
import Derived.Test.YtnkjlocjfljjlaaWTakeInts
import Derived.Test.YtnkjlocjfljjlaaWLaw
import Derived.StillTailTactics
import Derived.Deep.RegionHeld3
import Derived.Deep.LoopGhost
namespace Go.Proofs.Ytnkjlocjfljjlaa
open Go.RowKit
set_option maxRecDepth 100000
set_option maxHeartbeats 4000000
def fos : List Int → List Fd
  | a :: b :: c :: d :: e :: r => ⟨a, b, c, d, e⟩ :: fos r
  | _ => []
theorem fos_ok : ∀ (l : List Int), Fit l → ∀ f ∈ fos l, f.ok
  | a :: b :: c :: d :: e :: r, h, f, hf => by
    simp only [fos, List.mem_cons] at hf
    rcases hf with rfl | hf
    · exact ⟨h a (by simp), h b (by simp), h c (by simp), h d (by simp), h e (by simp)⟩
    · exact fos_ok r (fun x hx => h x (by simp [hx])) f hf
  | [], _, f, hf => by cases hf
  | [_], _, f, hf => by cases hf
  | [_, _], _, f, hf => by cases hf
  | [_, _, _], _, f, hf => by cases hf
  | [_, _, _, _], _, f, hf => by cases hf
theorem five_of {l : List Int} {n : Nat} (h : l.length = n + 5) : ∃ a b c d e r, l = a :: b :: c :: d :: e :: r ∧ r.length = n := by
  match l, h with
  | a :: b :: c :: d :: e :: r, h => exact ⟨a, b, c, d, e, r, rfl, by simpa using h⟩
theorem Li.from5 {w : World} {b o n c : Nat} {x0 x1 x2 x3 x4 : Int} {r : List Int} (h : Li w (some ⟨b, o, none⟩) (n + 5) c (x0 :: x1 :: x2 :: x3 :: x4 :: r)) : Li w (some ⟨b, o + 5, none⟩) n (c - 5) r := by
  have hl := h.len
  have hle := h.le
  have hm := h.max
  refine ⟨fun i x hi => ?_, fun x hx => h.fit x (by simp [hx]), by simpa using hl, by omega, by omega⟩
  obtain ⟨b', o', e, hb, hc⟩ := h.cells (i + 5) x (by simpa using hi)
  injection e with e
  injection e with e1 e2
  subst e1 e2
  exact ⟨b, o + 5, rfl, hb, by rw [← hc]; congr 2; omega⟩
theorem of_snoc {w : World} {B : Nat} {v : Value} {fs : List Fd} {f : Fd} (h : w.ownsRow B 53 5 v (fs.length + 1) (fcs fs ++ fc5 f)) : Of w B v (fs ++ [f]) := by
  unfold Of
  rw [fcs_app, List.length_append]
  simpa [fcs] using h
section
variable {w : World}
theorem fieldsOf_any (A : Option Addr) (k cap : Nat) (l : List Int) (h : Li w A k cap l) (m : Nat) (hk : k = 5 * m) (hm : m ≤ 1000) :
    Calls Try.prog 53 #[.slice A k cap] w fun e w' => ∃ v', e = .returned v' ∧ Of w' w.heap.size v' (fos l) ∧ Below w.heap.size w w' := by
  have hle := h.le
  have hmx := h.max
  have HL := Lib.hid h.len
  have H := Lib.hid h
  clear h
  obtain ⟨i0, hi, hz0, hz1, hz2⟩ := info_parts infoF
  have IZ := Lib.hid (And.intro hi (And.intro hz0 (And.intro hz1 hz2)))
  clear hi hz0 hz1 hz2
  have hq : (k : Int).tdiv 5 = (m : Int) := by rw [hk]; rw [Int.tdiv_eq_ediv_of_nonneg (by omega)]; omega
  have HKM := Lib.hid hk
  clear hk
  go_enter Try.func53, Try.ntmps53
  go_wp2_with (at_make; refine wpList_make_own _ rfl _ _ 30 rfl w.heap.size 53 i0 _ 5 Try.underlying30 IZ.out.1 IZ.out.2.1 IZ.out.2.2.1 .i64 .i64 _ m rfl rfl rfl (by rw [IZ.out.2.2.2]; omega) (by unfold maxLen; omega) (Nat.le_refl _) ?_; intro w1 h1 h2; have H1 := Lib.hid (show Of w1 w.heap.size _ [] from h1); have H2 := Lib.hid ((Below.refl w.heap.size w).grown h2 (Nat.le_refl _) (by intro k hk; cases hk)); clear h1 h2)
  go_loopg [0, 3] m (fun g s u wr => ∃ (A' : Option Addr) (n c' : Nat) (rest : List Int) (acc : List Fd), n = 5 * g ∧ s = .slice A' n c' ∧ n ≤ c' ∧ c' ≤ 9223372036854775807 ∧ acc.length + g ≤ 1000 ∧ Hid (fos l = acc ++ fos rest) ∧ Hid (Li w A' n c' rest) ∧ Hid (Of wr w.heap.size u acc) ∧ Hid (Below w.heap.size w wr))
  case atStart => exact ⟨A, k, cap, l, [], HKM.out, rfl, hle, hmx, by simpa using hm, rfl, H.out, H1.out, H2.out⟩
  case round =>
    obtain ⟨A', n, c', rest, acc, hn, rfl, hnc, hcm, hal, HE, HR, HO, HW⟩ := hrel
    have hws := HW.out.size
    cases gk with
    | zero =>
      obtain rfl : n = 0 := by omega
      clear hn
      have hr0 : rest = [] := List.eq_nil_of_length_eq_zero HR.out.len
      subst hr0
      have HE2 := Lib.hid (show fos l = acc by rw [HE.out]; simp [fos])
      go_wp2_with fail
      go_ret
      rw [HE2.out]
      exact ⟨_, rfl, HO.out, HW.out⟩
    | succ g =>
      obtain ⟨n', rfl⟩ : ∃ n', n = n' + 5 := ⟨5 * g, by omega⟩
      have HNG := Lib.hid (show n' = 5 * g by omega)
      clear hn
      obtain ⟨a, b, c, d, e, r, hrr, hrl⟩ := five_of HR.out.len
      subst hrr
      obtain ⟨bb, oo, x0, rfl, hx0, _, _, hbb, c0⟩ := HR.out.intAt 0 (by omega)
      obtain ⟨x1, hx1, _, _, c1⟩ := HR.out.at 1 (by omega)
      obtain ⟨x2, hx2, _, _, c2⟩ := HR.out.at 2 (by omega)
      obtain ⟨x3, hx3, _, _, c3⟩ := HR.out.at 3 (by omega)
      obtain ⟨x4, hx4, _, _, c4⟩ := HR.out.at 4 (by omega)
      obtain rfl : a = x0 := by simpa using hx0.out
      obtain rfl : b = x1 := by simpa using hx1.out
      obtain rfl : c = x2 := by simpa using hx2.out
      obtain rfl : d = x3 := by simpa using hx3.out
      obtain rfl : e = x4 := by simpa using hx4.out
      rw [Nat.add_zero] at c0
      replace c0 := (HW.out.cell (p := ⟨bb, oo, none⟩) hbb).trans c0
      replace c1 := (HW.out.cell (p := ⟨bb, oo + 1, none⟩) hbb).trans c1
      replace c2 := (HW.out.cell (p := ⟨bb, oo + 2, none⟩) hbb).trans c2
      replace c3 := (HW.out.cell (p := ⟨bb, oo + 3, none⟩) hbb).trans c3
      replace c4 := (HW.out.cell (p := ⟨bb, oo + 4, none⟩) hbb).trans c4
      have LR := Lib.hid HR.out.from5
      have HE2 := Lib.hid (show fos l = (acc ++ [⟨a, b, c, d, e⟩]) ++ fos r by rw [HE.out]; simp [fos])
      have LA := Lib.hid (show acc.length ≤ 100000 by omega)
      have HRL := Lib.hid hrl
      clear hx0 hx1 hx2 hx3 hx4 hrl
      have b1 : (1 : Int) < (n' : Int) + 5 := by omega
      have b2 : (2 : Int) < (n' : Int) + 5 := by omega
      have b3 : (3 : Int) < (n' : Int) + 5 := by omega
      have b4 : (4 : Int) < (n' : Int) + 5 := by omega
      have NE := Lib.hid (show u3.ownBlock ≠ some bb from fun e1 => by have := (HO.out.lt e1).1; omega)
      by_cases hc5 : c' = 5
      · subst hc5
        obtain rfl : n' = 0 := by omega
        have hr0 : r = [] := List.eq_nil_of_length_eq_zero HRL.out
        subst hr0
        go_wp2_with fail
        go_region_held3 (fun w' => w'.cell? ⟨bb, oo, none⟩ = some (.int .i64 a) ∧ w'.cell? ⟨bb, oo + 1, none⟩ = some (.int .i64 b) ∧ w'.cell? ⟨bb, oo + 2, none⟩ = some (.int .i64 c) ∧ w'.cell? ⟨bb, oo + 3, none⟩ = some (.int .i64 d) ∧ w'.cell? ⟨bb, oo + 4, none⟩ = some (.int .i64 e))
          (first
            | go_keep
            | (go_split_ands
               refine ⟨?_, ?_, ?_, ?_, ?_⟩
               · (rw [hgrow.cell_far _ (by simp; omega) (Ne.symm NE.out)]; assumption)
               · (rw [hgrow.cell_far _ (by simp; omega) (Ne.symm NE.out)]; assumption)
               · (rw [hgrow.cell_far _ (by simp; omega) (Ne.symm NE.out)]; assumption)
               · (rw [hgrow.cell_far _ (by simp; omega) (Ne.symm NE.out)]; assumption)
               · (rw [hgrow.cell_far _ (by simp; omega) (Ne.symm NE.out)]; assumption)))
          ((refine step_append_lies _ (by rfl) (.tmp 11) (.tmp 28) _ (by rfl) w.heap.size 53 i0 _ 5 40 Try.underlying30 IZ.out.1 IZ.out.2.1 IZ.out.2.2.1 IZ.out.2.2.2 (by kernel_rfl) (by omega) u3 acc.length (fcs acc) (by rfl) ((World.ownsRow.alloc HO.out _).drew) ⟨wr.heap.size, 0, none⟩ 1 1 (fc5 ⟨a, b, c, d, e⟩) (by rfl) (by rfl) (World.news_of_block (cs := #[.int .i64 a, .int .i64 b, .int .i64 c, .int .i64 d, .int .i64 e]) (t := 53) (fr := (0, 0)) (heap_alloc_new wr _)) (fun u hu => fcs_one [⟨a, b, c, d, e⟩] u (by simpa [fcs] using hu)) (by omega) (by unfold maxLen; omega) (by omega) (by simp; omega) (wr.heap.size + 1) (by simp) ?_; intro g4 cc4 w4 hown4 hgrow hat4 hlt4))
        have H4 := Lib.hid (of_snoc hown4)
        have H5 := Lib.hid ((HW.out.alloc hws _).drew.grown hgrow (by simp; omega) (fun r hr => (HO.out.lt hr).1))
        clear hown4 hgrow hat4 hlt4
        go_wp2_with fail
        go_roundg g
        case measure => omega
        case rel =>
          refine ⟨_, 0, _, [], acc ++ [(⟨a, b, c, d, e⟩ : Fd)], by rw [← HNG.out], rfl, by omega, by omega, by simp; omega, HE2.out, ?_, ?_, H5.out⟩
          · exact ⟨fun i x hi => by simp at hi, fun x hx => by simp at hx, rfl, by omega, by omega⟩
          · show Of _ _ _ _
            exact H4.out
      · have hc6 : ¬ (c' : Int) = 5 := by omega
        go_wp2_with fail
        go_region_held3 (fun w' => w'.cell? ⟨bb, oo, none⟩ = some (.int .i64 a) ∧ w'.cell? ⟨bb, oo + 1, none⟩ = some (.int .i64 b) ∧ w'.cell? ⟨bb, oo + 2, none⟩ = some (.int .i64 c) ∧ w'.cell? ⟨bb, oo + 3, none⟩ = some (.int .i64 d) ∧ w'.cell? ⟨bb, oo + 4, none⟩ = some (.int .i64 e))
          (first
            | go_keep
            | (go_split_ands
               refine ⟨?_, ?_, ?_, ?_, ?_⟩
               · (rw [hgrow.cell_far _ (by simp; omega) (Ne.symm NE.out)]; assumption)
               · (rw [hgrow.cell_far _ (by simp; omega) (Ne.symm NE.out)]; assumption)
               · (rw [hgrow.cell_far _ (by simp; omega) (Ne.symm NE.out)]; assumption)
               · (rw [hgrow.cell_far _ (by simp; omega) (Ne.symm NE.out)]; assumption)
               · (rw [hgrow.cell_far _ (by simp; omega) (Ne.symm NE.out)]; assumption)))
          ((refine step_append_lies _ (by rfl) (.tmp 11) (.tmp 28) _ (by rfl) w.heap.size 53 i0 _ 5 40 Try.underlying30 IZ.out.1 IZ.out.2.1 IZ.out.2.2.1 IZ.out.2.2.2 (by kernel_rfl) (by omega) u3 acc.length (fcs acc) (by rfl) ((World.ownsRow.alloc HO.out _).drew) ⟨wr.heap.size, 0, none⟩ 1 1 (fc5 ⟨a, b, c, d, e⟩) (by rfl) (by rfl) (World.news_of_block (cs := #[.int .i64 a, .int .i64 b, .int .i64 c, .int .i64 d, .int .i64 e]) (t := 53) (fr := (0, 0)) (heap_alloc_new wr _)) (fun u hu => fcs_one [⟨a, b, c, d, e⟩] u (by simpa [fcs] using hu)) (by omega) (by unfold maxLen; omega) (by omega) (by simp; omega) (wr.heap.size + 1) (by simp) ?_; intro g4 cc4 w4 hown4 hgrow hat4 hlt4))
        have H4 := Lib.hid (of_snoc hown4)
        have H5 := Lib.hid ((HW.out.alloc hws _).drew.grown hgrow (by simp; omega) (fun r hr => (HO.out.lt hr).1))
        clear hown4 hgrow hat4 hlt4
        go_wp2_with fail
        go_roundg g
        case measure => omega
        case rel =>
          refine ⟨_, n', _, r, acc ++ [(⟨a, b, c, d, e⟩ : Fd)], HNG.out, rfl, by omega, by omega, by simp; omega, HE2.out, LR.out, ?_, H5.out⟩
          show Of _ _ _ _
          exact H4.out
end
end Go.Proofs.Ytnkjlocjfljjlaa
