/- The contract of the document's Decimal. No condition. -/
import Derived.Test.YtcedjjolikmbbaaDoorIDec
import Derived.Test.YtcedjjolikmbbaaDoorIStr
namespace Go.Proofs.YtcedjjolikmbbaaDoor
open Go.RowKit
set_option maxRecDepth 100000
set_option maxHeartbeats 1000000
theorem dec_small {u : Nat} (h : u < 10) : Lib.decDigits u = [UInt8.ofNat (48 + u % 10)] := by
  rw [Lib.decDigits, dif_pos h, Nat.mod_eq_of_lt h]
theorem dec_big {u : Nat} (h : ¬ u < 10) : Lib.decDigits u = Lib.decDigits (u / 10) ++ [UInt8.ofNat (48 + u % 10)] := by
  rw [Lib.decDigits, dif_neg h]
theorem cv_digit (w : World) (u : Nat) : (convert 40 9 (.slice (some ⟨w.heap.size, 0, none⟩) 1 1)).run Tryd.prog (w.alloc (.cells #[.int .u8 (48 + (u : Int) % 10)] 5)) = .ok (.string (st [UInt8.ofNat (48 + u % 10)])) (w.alloc (.cells #[.int .u8 (48 + (u : Int) % 10)] 5)) := by
  have h : Rd (w.alloc (.cells #[.int .u8 (48 + (u : Int) % 10)] 5)) (some ⟨w.heap.size, 0, none⟩) 1 1 [48 + u % 10] := by
    refine ⟨fun i y hi => ?_, rfl, Nat.le_refl _, by omega, fun e => by cases e⟩
    match i, hi with
    | 0, hi =>
      simp at hi
      subst hi
      refine ⟨w.heap.size, 0, rfl, by simp, ?_, by omega⟩
      rw [show ((48 + u % 10 : Nat) : Int) = 48 + (u : Int) % 10 by omega]
      exact (Blk.new w 5 _).cell 0
  have := run_strA h
  rw [this]
  rfl
section
theorem rdecimal_any : ∀ (n u : Nat), u < n → u < 4294967296 → ∀ w : World, Calls Tryd.prog 29 #[.int .u32 (u : Int)] w fun e w' => e = .returned (sv (Lib.decDigits u)) ∧ Below w.heap.size w w'
  | 0, u, h, _, _ => absurd h (by omega)
  | n + 1, u, h, hu, w => by
    have IH := Lib.hid (rdecimal_any n)
    have cv := cv_digit w u
    have HD := Lib.hid (show (Lib.decDigits u).length ≤ 10 from dec_len10 u hu)
    have t10 : (u : Int).tmod 10 = (u : Int) % 10 := Int.tmod_eq_emod_of_nonneg (by omega)
    have d10 : (u : Int).tdiv 10 = ((u / 10 : Nat) : Int) := by rw [Int.tdiv_eq_ediv_of_nonneg (by omega)]; omega
    have w1 : IntKind.u32.wrap ((u : Int) % 10) = (u : Int) % 10 := by rw [show (u : Int) % 10 = ((u % 10 : Nat) : Int) by omega]; exact w32 _ (by omega)
    have w2 : IntKind.u32.wrap (48 + (u : Int) % 10) = 48 + (u : Int) % 10 := by rw [show 48 + (u : Int) % 10 = ((48 + u % 10 : Nat) : Int) by omega]; exact w32 _ (by omega)
    have w3 : IntKind.u8.wrap (48 + (u : Int) % 10) = 48 + (u : Int) % 10 := by rw [show 48 + (u : Int) % 10 = ((48 + u % 10 : Nat) : Int) by omega]; exact w8i _ (by omega)
    have DS := Lib.hid (@dec_small u)
    have DB := Lib.hid (@dec_big u)
    obtain ⟨D, hD⟩ : ∃ D, [UInt8.ofNat (48 + u % 10)] = D := ⟨_, rfl⟩
    have HDL := Lib.hid (show D.length = 1 by rw [← hD]; rfl)
    rw [hD] at cv DS DB
    clear hD
    by_cases h10 : u < 10
    · have g1 : (u : Int) < 10 := by omega
      have HL := Lib.hid (DS.out h10)
      clear h h10
      go_enter Tryd.func29, Tryd.ntmps29
      go_wp2_with fail
      go_ret
      rw [HL.out]
      exact ⟨rfl, by go_grown⟩
    · have g1 : ¬ (u : Int) < 10 := by omega
      have HL := Lib.hid (DB.out h10)
      have HI := Lib.hid (show u / 10 < n ∧ u / 10 < 4294967296 ∧ (Lib.decDigits (u / 10)).length ≤ 10 from ⟨by omega, by omega, dec_len10 _ (by omega)⟩)
      obtain ⟨x, hx⟩ : ∃ x, u / 10 = x := ⟨_, rfl⟩
      rw [hx] at HL HI d10
      have wx := w32 x HI.out.2.1
      have wx2 : (x : Int) % 4294967296 = (x : Int) := by have := HI.out.2.1; omega
      have hcat : st (Lib.decDigits x) ++ st D = st (Lib.decDigits u) := by rw [HL.out, st_app]
      have hsz : (st (Lib.decDigits x)).size ≤ 10 := by rw [st_size]; exact HI.out.2.2
      have hsd : (st D).size = 1 := by rw [st_size]; exact HDL.out
      clear h h10 hx
      go_enter Tryd.func29, Tryd.ntmps29
      go_wp2_with (go_at_call 29; (with_reducible refine (IH.out x HI.out.1 HI.out.2.1 _).mono ?_); rintro e w5 ⟨rfl, hb5⟩; have X5 := Lib.hid ((show Below w.heap.size w (w.alloc (.cells #[.int .u8 (48 + (u : Int) % 10)] 5)) by go_grown).trans (hb5.mono (by simp))); clear hb5; unfold sv)
      go_ret
      exact ⟨rfl, X5.out⟩
end
end Go.Proofs.YtcedjjolikmbbaaDoor
