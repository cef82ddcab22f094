/- The contract of takeType. Condition: the bytes can be read. -/
import Derived.Test.YtnkjlocjfljjlaaTTake
import Derived.Test.YtnkjlocjfljjlaaTTarget
namespace Go.Proofs.Ytnkjlocjfljjlaa
open Go.RowKit
set_option maxRecDepth 100000
set_option maxHeartbeats 4000000
def ttR (bs : List Nat) : List Nat := bs.drop (xW bs)
def ttL (bs : List Nat) : List Nat := iV (ttR bs)
def ttE (bs : List Nat) : Nat := if xE bs ≠ 0 then xE bs else if iE (ttR bs) ≠ 0 then iE (ttR bs) else if (ttL bs).length % 5 ≠ 1 ∨ 3 < (ttL bs).getD 0 0 then 3 else 0
def ttV (bs : List Nat) : Ty := ⟨sb (xV bs), decide ((ttL bs).getD 0 0 % 2 = 1), decide (2 ≤ (ttL bs).getD 0 0), fos (zs ((ttL bs).drop 1))⟩
def ttW (bs : List Nat) : Nat := xW bs + iW (ttR bs)
theorem res_cell3 {fn : Func} {p u x : Tmp} (h : fn.results = #[.cell p 32, .tmp u, .tmp x]) {tmps : Array Value} {w : World} {g : Nat} {a b c d : Value} (hp : tmps.getD p undef = .pointer (some ⟨g, 0, none⟩)) (hb : Blk w g 32 #[a, b, c, d]) :
    (results fn tmps).run Try.prog w = .ok (.tuple #[.agg #[a, b, c, d], tmps.getD u undef, tmps.getD x undef]) w := by
  have hp' : tmps[p]?.getD undef = .pointer (some ⟨g, 0, none⟩) := by simpa using hp
  simp [results, h, hp', asAddr, load_type hb]
theorem Blk.put4 {w : World} {g : Nat} {t : TypeId} {a b c d a' b' c' d' : Value} (h : Blk w g t #[a, b, c, d]) :
    Blk ((((w.setCell ⟨g, 0, none⟩ a').setCell ⟨g, 1, none⟩ b').setCell ⟨g, 2, none⟩ c').setCell ⟨g, 3, none⟩ d') g t #[a', b', c', d'] := (((h.put 0 a').put 1 b').put 2 c').put 3 d'
theorem below_put4 {w w' : World} {B g : Nat} {a' b' c' d' : Value} (h : Below B w w') (hg : B ≤ g) :
    Below B w ((((w'.setCell ⟨g, 0, none⟩ a').setCell ⟨g, 1, none⟩ b').setCell ⟨g, 2, none⟩ c').setCell ⟨g, 3, none⟩ d') :=
  (((h.trans ((Only.setCellAt _ g 0 a').below hg)).trans ((Only.setCellAt _ g 1 b').below hg)).trans ((Only.setCellAt _ g 2 c').below hg)).trans ((Only.setCellAt _ g 3 d').below hg)
section
variable {w : World}
theorem takeType_bad (A : Option Addr) (k cap : Nat) (bs : List Nat) (h : Rd w A k cap bs) (hE : ttE bs ≠ 0) :
    Calls Try.prog 38 #[.slice A k cap] w fun e w' => e = .returned (.tuple #[.agg #[.string ⟨#[]⟩, .bool false, .bool false, .slice none 0 0], .int .i64 0, .int .i64 (ttE bs : Nat)]) ∧ Below w.heap.size w w' := by
  have hle := h.le
  have hmx := h.max
  have HL := Lib.hid h.len
  have HB := Lib.hid h.byt
  have H := Lib.hid h
  clear h
  obtain ⟨w0, hw0⟩ : ∃ w0, w0 = w.alloc (Obj.cells #[.string ⟨#[]⟩, .bool false, .bool false, .slice none 0 0] 32) := ⟨_, rfl⟩
  have B0 := Lib.hid (show Blk w0 w.heap.size 32 #[.string ⟨#[]⟩, .bool false, .bool false, .slice none 0 0] by rw [hw0]; exact Blk.new _ _ _)
  have L0 := Lib.hid (show Below w.heap.size w w0 by rw [hw0]; (repeat' (first | exact Below.refl _ _ | assumption | (refine Below.alloc ?_ (by (try simp) <;> omega) _))))
  have S0 : w0.heap.size = w.heap.size + 1 := by rw [hw0]; simp
  have HW0 := Lib.hid hw0
  have SS := Lib.hid S0
  clear hw0 S0
  obtain ⟨q, hq⟩ : ∃ q, xE bs = q := ⟨_, rfl⟩
  have HQ := Lib.hid hq
  by_cases hx : q = 0
  case neg =>
    have HT := Lib.hid (show ttE bs = q by unfold ttE; rw [hq, if_pos hx])
    have hqn : ((q : Int) != 0) = true := by simpa using hx
    clear hq hE
    go_enter Try.func38, Try.ntmps38
    go_wp2_with (go_at_call 51; rw [← HW0.out]; refine (takeText_any A k cap bs (H.out.below L0.out (Nat.le_refl _))).mono ?_; rintro e w1 ⟨rfl, h1⟩; rw [HQ.out]; have X1 := Lib.hid (L0.out.trans (h1.mono (by rw [SS.out]; omega))); have B1 := Lib.hid (B0.out.below h1 (by rw [SS.out]; omega)); have z0 := B1.out.frozen 0; have z1 := B1.out.frozen 1; have z2 := B1.out.frozen 2; have z3 := B1.out.frozen 3; obtain ⟨d0, d1, d2, d3⟩ := four B0.out h1 (by rw [SS.out]; omega); clear h1)
    refine bodyPost_ret (res_cell3 rfl rfl B1.out.put4) rfl ⟨?_, below_put4 X1.out (Nat.le_refl _)⟩
    rw [HT.out]
    rfl
  subst hx
  have hxc := (x_cases bs HB.out).resolve_right (fun h => h.1 hq)
  obtain ⟨P, hP⟩ : ∃ P, xW bs = P := ⟨_, rfl⟩
  have HXW := Lib.hid hP
  have hPk : P ≤ k := by rw [← hP, ← HL.out]; exact hxc.2.2.1
  have hP0 : 0 < P := by
    rcases Nat.eq_zero_or_pos P with h0 | h0
    · have h1 := hxc.2.2.2.2
      rw [hP, h0] at h1
      unfold txV at h1
      rw [if_pos hxc.2.1] at h1
      have h2 := congrArg List.length h1
      have h3 := num_pos (xV bs).length
      rw [List.length_append, List.take_zero, List.length_nil] at h2
      omega
    · exact h0
  have HTR := Lib.hid (show ttR bs = bs.drop P by unfold ttR; rw [hP])
  have HT0 := Lib.hid (show ttE bs = if iE (ttR bs) ≠ 0 then iE (ttR bs) else if (ttL bs).length % 5 ≠ 1 ∨ 3 < (ttL bs).getD 0 0 then 3 else 0 by unfold ttE; rw [hq]; rfl)
  obtain ⟨b, o, rfl, hbl, _⟩ := H.out.base (by omega)
  obtain ⟨q2, hq2⟩ : ∃ q2, iE (ttR bs) = q2 := ⟨_, rfl⟩
  have HQ2 := Lib.hid hq2
  clear hq hP hxc
  by_cases hcp : cap = P
  · subst hcp
    obtain rfl : cap = k := by omega
    have hnil : ttR bs = [] := by rw [HTR.out]; exact List.drop_eq_nil_of_le (Nat.le_of_eq HL.out)
    have h2 : q2 = 2 := by rw [← hq2, hnil]; rfl
    subst h2
    have HT := Lib.hid (show ttE bs = 2 by rw [HT0.out, hq2]; rfl)
    have HNIL := Lib.hid hnil
    clear hq2 hnil hE
    go_enter Try.func38, Try.ntmps38
    go_wp2_with (go_at_call 51; rw [← HW0.out]; refine (takeText_any _ _ _ bs (H.out.below L0.out (Nat.le_refl _))).mono ?_; rintro e w1 ⟨rfl, h1⟩; rw [HQ.out, HXW.out]; have X1 := Lib.hid (L0.out.trans (h1.mono (by rw [SS.out]; omega))); have B1 := Lib.hid (B0.out.below h1 (by rw [SS.out]; omega)); have hs1 := h1.size; rw [SS.out] at hs1; clear h1)
    go_wp2_with (go_at_call 52; refine (takeInts_any _ _ _ (ttR bs) (by rw [HNIL.out]; exact Rd.empty (by omega) (by intro hh; first | omega | cases hh))).mono ?_; rintro e w2 ⟨v2, rfl, o2, h2⟩; rw [HQ2.out]; have X2 := Lib.hid (X1.out.trans (h2.mono (by omega))); have B2 := Lib.hid (B1.out.below h2 (by omega)); have hs2 := h2.size; have O2 := Lib.hid o2; have z0 := B2.out.frozen 0; have z1 := B2.out.frozen 1; have z2 := B2.out.frozen 2; have z3 := B2.out.frozen 3; have d0 := B2.out.cell 0; have d1 := B2.out.cell 1; have d2 := B2.out.cell 2; have d3 := B2.out.cell 3; simp at d0 d1 d2 d3; clear h2 o2)
    refine bodyPost_ret (res_cell3 rfl rfl B2.out.put4) rfl ⟨?_, below_put4 X2.out (Nat.le_refl _)⟩
    rw [HT.out]
    rfl
  by_cases hz2 : q2 = 0
  case neg =>
    have HT := Lib.hid (show ttE bs = q2 by rw [HT0.out, hq2, if_pos hz2])
    have hqn : ((q2 : Int) != 0) = true := by simpa using hz2
    clear hq2 hE
    go_enter Try.func38, Try.ntmps38
    go_wp2_with (go_at_call 51; rw [← HW0.out]; refine (takeText_any _ _ _ bs (H.out.below L0.out (Nat.le_refl _))).mono ?_; rintro e w1 ⟨rfl, h1⟩; rw [HQ.out, HXW.out]; have X1 := Lib.hid (L0.out.trans (h1.mono (by rw [SS.out]; omega))); have B1 := Lib.hid (B0.out.below h1 (by rw [SS.out]; omega)); have hs1 := h1.size; rw [SS.out] at hs1; clear h1)
    go_wp2_with (go_at_call 52; refine (takeInts_any _ _ _ (ttR bs) (by rw [HTR.out]; exact (H.out.from P hPk).below X1.out (Nat.le_refl _))).mono ?_; rintro e w2 ⟨v2, rfl, o2, h2⟩; rw [HQ2.out]; have X2 := Lib.hid (X1.out.trans (h2.mono (by omega))); have B2 := Lib.hid (B1.out.below h2 (by omega)); have hs2 := h2.size; have O2 := Lib.hid o2; have z0 := B2.out.frozen 0; have z1 := B2.out.frozen 1; have z2 := B2.out.frozen 2; have z3 := B2.out.frozen 3; have d0 := B2.out.cell 0; have d1 := B2.out.cell 1; have d2 := B2.out.cell 2; have d3 := B2.out.cell 3; simp at d0 d1 d2 d3; clear h2 o2)
    refine bodyPost_ret (res_cell3 rfl rfl B2.out.put4) rfl ⟨?_, below_put4 X2.out (Nat.le_refl _)⟩
    rw [HT.out]
    rfl
  subst hz2
  have HT1 := Lib.hid (show ttE bs = if (ttL bs).length % 5 ≠ 1 ∨ 3 < (ttL bs).getD 0 0 then 3 else 0 by rw [HT0.out, hq2]; rfl)
  have HIC := Lib.hid ((i_cases (ttR bs) (byt_drop HB.out _)).resolve_right (fun h => h.1 hq2))
  have hcond : (ttL bs).length % 5 ≠ 1 ∨ 3 < (ttL bs).getD 0 0 := by
    apply Decidable.byContradiction
    intro hn
    rw [HT1.out, if_neg hn] at hE
    exact hE rfl
  have HT := Lib.hid (show ttE bs = 3 by rw [HT1.out, if_pos hcond])
  have HFT := Lib.hid (zs_fit HIC.out.2.2.1)
  obtain ⟨L, hL⟩ : ∃ L, iV (ttR bs) = L := ⟨_, rfl⟩
  have HLL := Lib.hid hL
  have hcond2 : L.length % 5 ≠ 1 ∨ 3 < L.getD 0 0 := by rw [← hL]; exact hcond
  have hLb : L.length ≤ 1000 := by rw [← hL]; exact HIC.out.2.1
  rw [hL] at HFT
  clear hq2 hE hL hcond
  by_cases h5 : L.length % 5 = 1
  · have hx3 : 3 < L.getD 0 0 := hcond2.resolve_left (fun h => h h5)
    clear hcond2
    have ht5 : ((L.length : Nat) : Int).tmod 5 = 1 := by rw [Int.tmod_eq_emod_of_nonneg (by omega)]; omega
    obtain ⟨x, r, hLx⟩ : ∃ x r, L = x :: r := by
      cases L with
      | nil => simp at h5
      | cons x r => exact ⟨x, r, rfl⟩
    subst hLx
    simp at hx3
    have HO5 := Lib.hid h5
    clear h5
    go_enter Try.func38, Try.ntmps38
    go_wp2_with (go_at_call 51; rw [← HW0.out]; refine (takeText_any _ _ _ bs (H.out.below L0.out (Nat.le_refl _))).mono ?_; rintro e w1 ⟨rfl, h1⟩; rw [HQ.out, HXW.out]; have X1 := Lib.hid (L0.out.trans (h1.mono (by rw [SS.out]; omega))); have B1 := Lib.hid (B0.out.below h1 (by rw [SS.out]; omega)); have hs1 := h1.size; rw [SS.out] at hs1; clear h1)
    go_wp2_with (go_at_call 52; refine (takeInts_any _ _ _ (ttR bs) (by rw [HTR.out]; exact (H.out.from P hPk).below X1.out (Nat.le_refl _))).mono ?_; rintro e w2 ⟨v2, rfl, o2, h2⟩; rw [HQ2.out]; have X2 := Lib.hid (X1.out.trans (h2.mono (by omega))); have B2 := Lib.hid (B1.out.below h2 (by omega)); have hs2 := h2.size; have O2 := Lib.hid o2; have z0 := B2.out.frozen 0; have z1 := B2.out.frozen 1; have z2 := B2.out.frozen 2; have z3 := B2.out.frozen 3; have d0 := B2.out.cell 0; have d1 := B2.out.cell 1; have d2 := B2.out.cell 2; have d3 := B2.out.cell 3; simp at d0 d1 d2 d3; clear h2 o2; rw [HLL.out] at O2; obtain ⟨A2, k2, c2, rfl, l2⟩ := O2.out.form HFT.out; have hk2 : (x :: r).length = k2 := (by rw [← l2.len, zs_len]); subst hk2; have hc2 := l2.le; obtain ⟨b2, o2, y, rfl, hy, _, _, hb2, hcy⟩ := l2.intAt 0 (by simp); have hye : y = (x : Int) := (by simpa [zs] using hy.out.symm); subst hye; rw [Nat.add_zero] at hcy; clear l2 hy)
    refine bodyPost_ret (res_cell3 rfl rfl B2.out.put4) rfl ⟨?_, below_put4 X2.out (Nat.le_refl _)⟩
    rw [HT.out]
    rfl
  · obtain ⟨tm, ht5⟩ : ∃ tm, ((L.length : Nat) : Int).tmod 5 = tm := ⟨_, rfl⟩
    have htm : (tm != 1) = true := by rw [← ht5, Int.tmod_eq_emod_of_nonneg (by omega)]; simp; omega
    have HO5 := Lib.hid h5
    clear h5 hcond2
    go_enter Try.func38, Try.ntmps38
    go_wp2_with (go_at_call 51; rw [← HW0.out]; refine (takeText_any _ _ _ bs (H.out.below L0.out (Nat.le_refl _))).mono ?_; rintro e w1 ⟨rfl, h1⟩; rw [HQ.out, HXW.out]; have X1 := Lib.hid (L0.out.trans (h1.mono (by rw [SS.out]; omega))); have B1 := Lib.hid (B0.out.below h1 (by rw [SS.out]; omega)); have hs1 := h1.size; rw [SS.out] at hs1; clear h1)
    go_wp2_with (go_at_call 52; refine (takeInts_any _ _ _ (ttR bs) (by rw [HTR.out]; exact (H.out.from P hPk).below X1.out (Nat.le_refl _))).mono ?_; rintro e w2 ⟨v2, rfl, o2, h2⟩; rw [HQ2.out]; have X2 := Lib.hid (X1.out.trans (h2.mono (by omega))); have B2 := Lib.hid (B1.out.below h2 (by omega)); have hs2 := h2.size; have O2 := Lib.hid o2; have z0 := B2.out.frozen 0; have z1 := B2.out.frozen 1; have z2 := B2.out.frozen 2; have z3 := B2.out.frozen 3; have d0 := B2.out.cell 0; have d1 := B2.out.cell 1; have d2 := B2.out.cell 2; have d3 := B2.out.cell 3; simp at d0 d1 d2 d3; clear h2 o2; rw [HLL.out] at O2; obtain ⟨A2, k2, c2, rfl, l2⟩ := O2.out.form HFT.out; have hk2 : L.length = k2 := (by rw [← l2.len, zs_len]); subst hk2; clear l2)
    refine bodyPost_ret (res_cell3 rfl rfl B2.out.put4) rfl ⟨?_, below_put4 X2.out (Nat.le_refl _)⟩
    rw [HT.out]
    rfl
end
end Go.Proofs.Ytnkjlocjfljjlaa
