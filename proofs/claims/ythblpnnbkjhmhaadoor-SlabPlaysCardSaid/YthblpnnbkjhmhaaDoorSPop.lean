/- The contract of the slab's pop. Conditions: the table of widths lies in its block; the slab's blocks are known. -/
import Derived.Test.YthblpnnbkjhmhaaDoorSFollow
namespace Go.Proofs.YthblpnnbkjhmhaaDoor
open Go.RowKit
open Pool (num cnt upd Pl)

theorem b_or {x j : Nat} (hx : x < 4294967296) (hj : j < 32) : bits .or .u32 (x : Int) ((bt j : Nat) : Int) = ((x ||| bt j : Nat) : Int) := u32_or_nat _ _ hx (bt_lt hj)
theorem or_lt {x j : Nat} (hx : x < 4294967296) (hj : j < 32) : x ||| bt j < 4294967296 := Nat.or_lt_two_pow (n := 32) hx (bt_lt hj)
section
variable {w : World} {L : Pt} {n : Nat} {q : Rp} {f : Nat → Int} {t : Nat → Bool}
set_option maxRecDepth 100000 in
set_option maxHeartbeats 1000000 in
theorem pop_any (i c tkn a lk : Nat) (hT : Tab w) (h : Rw w L n q f t) (hi : i < n) (hq : q i = (c, tkn, a)) (hC : IsC c) (htk : tkn < 4294967296) (ha : a ∈ blks i c) (hl : ld f a 8 = (lk : Nat)) :
    Calls Tryd.prog 33 #[.pointer (some ⟨L.p, 0, none⟩), .int .i64 i] w fun e w' => e = .returned (.int .i64 a) ∧ ∃ r, Fw i c (tkn ||| bt (a % 512 / c)) lk r ∧ Rw w' L n (rput q i (c, tkn ||| bt (a % 512 / c), r)) f t ∧ Fr L.ga L.pp L.gp w w' := by
  have hn := h.small
  have hb := hC.bd
  have hm := mem_le hC ha
  have hj := idx_lt hC ha
  have h0 := h.h0
  have h2 := h.h2
  have c0 := h.p0 i hi
  have c1 := h.p1 i hi
  have c2 := h.p2 i hi
  rw [hq] at c0 c1 c2
  dsimp only at c0 c1 c2
  have fz := h.fz (i * 3 + 1)
  have hlk : lk < 18446744073709551616 := by
    have := (ld_bound h.ar.byte a 8).2
    rw [hl] at this
    omega
  have HT := Lib.hid hT
  have H := Lib.hid h
  have HQ := Lib.hid hq
  have HC := Lib.hid hC
  have HA := Lib.hid ha
  have HL := Lib.hid hl
  have C0 := Lib.hid c0
  clear hT h hq hC ha hl
  generalize hjj : a % 512 / c = j at *
  have hor := b_or htk hj
  have hol := or_lt htk hj
  generalize hz : tkn ||| bt j = z at *
  go_enter Tryd.func33, Tryd.ntmps33
  go_wp2_with fail
  refine (load_ok L.pa L.ga (512 * n) f a 8 HT.out H.out.ar rfl (by omega)).mono ?_
  rw [HL.out]
  rintro e w' ⟨rfl, rfl⟩
  go_wp2_with fail
  go_region_with (go_at_call 36; refine (bit_any (w := w.drew) _ _ a c C0.out HC.out (by omega)).mono ?_; rintro e w' ⟨rfl, rfl⟩; rw [hjj])
  all_goals
    obtain ⟨w1, hw1⟩ : ∃ w1, w1 = (w.setCell ⟨L.gp, i * 3 + 1, none⟩ (.int .u32 z)).drew := ⟨_, rfl⟩
    rw [← hw1]
    have hR : Rw w1 L n (rput q i (c, z, a)) f t := by
      have := (H.out.set1 i z).drew1
      rw [HQ.out] at this
      rw [hw1]
      exact this
    have hF : Fr L.ga L.pp L.gp w w1 := by
      rw [hw1]
      exact (Fr.of_only (Only.setCellAt _ _ _ _) (.inr (.inr rfl))).trans (Fr.drew1 _ _ _ _)
    have HR := Lib.hid hR
    have HF := Lib.hid hF
    clear hw1 hR hF
    go_wp2_with fail
    refine (follow_any i c z a lk HR.out hi (rput_same _ _ _) HC.out hol hlk).mono ?_
    rintro e w2 ⟨⟨r, rfl, hFw⟩, hBl⟩
    have hR2 := HR.out.below hBl (Nat.le_refl _)
    have d2 := hR2.p2 i hi
    have fz2 := hR2.fz (i * 3 + 2)
    have HR2 := Lib.hid hR2
    have HFw := Lib.hid hFw
    have HF2 := Lib.hid (HF.out.trans (Fr.of_below hBl (Nat.le_refl _)))
    clear hR2 hFw hBl
    go_wp2
    go_ret
    refine ⟨rfl, r, HFw.out, ?_, HF2.out.trans (Fr.of_only (Only.setCellAt _ _ _ _) (.inr (.inr rfl)))⟩
    have := HR2.out.set2 i r
    rw [rput_same, rput_rput] at this
    exact this
end
end Go.Proofs.YthblpnnbkjhmhaaDoor
