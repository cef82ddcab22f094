/- The contract of takeType, where it reads a type. Condition: the bytes can be read. -/
import Derived.Test.YtnkjlocjfljjlaaTParseM
namespace Go.Proofs.Ytnkjlocjfljjlaa
open Go.RowKit
set_option maxRecDepth 100000
set_option maxHeartbeats 4000000
theorem Li.from1 {w : World} {b o n c : Nat} {x : Int} {r : List Int} (h : Li w (some ⟨b, o, none⟩) (n + 1) c (x :: r)) : Li w (some ⟨b, o + 1, none⟩) n (c - 1) r := by
  have hl := h.len
  have hle := h.le
  have hm := h.max
  refine ⟨fun i y hi => ?_, fun y hy => h.fit y (by simp [hy]), by simpa using hl, by omega, by omega⟩
  obtain ⟨b', o', e, hb, hc⟩ := h.cells (i + 1) y (by simpa using hi)
  injection e with e
  injection e with e1 e2
  subst e1 e2
  exact ⟨b, o + 1, rfl, hb, by rw [← hc]; congr 2; omega⟩
theorem Lf.only {w w' : World} {A : Option Addr} {k cap g : Nat} {fs : List Fd} (h : Lf w A k cap fs) (ho : Only g w w') (hA : ∀ b o, A = some ⟨b, o, none⟩ → b ≠ g) : Lf w' A k cap fs :=
  h.grown (row := some g) ⟨ho.os, ho.tape, ho.output, Nat.le_of_eq ho.size.symm, fun k _ hk => ho.block k (fun e => hk (by rw [e]))⟩ (fun b o e e2 => hA b o e (by injection e2 with e2; exact e2.symm))
theorem only_put4 (w : World) (g : Nat) (a' b' c' d' : Value) : Only g w ((((w.setCell ⟨g, 0, none⟩ a').setCell ⟨g, 1, none⟩ b').setCell ⟨g, 2, none⟩ c').setCell ⟨g, 3, none⟩ d') :=
  (((Only.setCellAt _ g 0 a').trans (Only.setCellAt _ g 1 b')).trans (Only.setCellAt _ g 2 c')).trans (Only.setCellAt _ g 3 d')
theorem li_nil (w : World) (A : Option Addr) (c : Nat) (hc : c ≤ 9223372036854775807) : Li w A 0 c [] := ⟨fun i x hi => by simp at hi, fun x hx => by simp at hx, rfl, Nat.zero_le _, hc⟩
theorem fieldsOf_got {w W : World} (B : Nat) (hb : Below B w W) (hB : w.heap.size ≤ B) (A : Option Addr) (k cap : Nat) (l : List Int) (h : Li w A k cap l) (m : Nat) (hk : k = 5 * m) (hm : m ≤ 1000) :
    Calls Try.prog 53 #[.slice A k cap] W fun e w' => ∃ FA fk fc, e = .returned (.slice FA fk fc) ∧ Lf w' FA fk fc (fos l) ∧ (∀ b o, FA = some ⟨b, o, none⟩ → W.heap.size ≤ b ∧ b < w'.heap.size) ∧ Below W.heap.size W w' := by
  have hf := h.fit
  refine (fieldsOf_any A k cap l (h.below hb hB) m hk hm).mono ?_
  rintro e w' ⟨v', rfl, h1, h2⟩
  obtain ⟨FA, fk, fc, rfl, h3, h4⟩ := h1.form (fos_ok l hf)
  exact ⟨FA, fk, fc, rfl, h3, h4, h2⟩
section
variable {w : World}
theorem takeType_ok (A : Option Addr) (k cap : Nat) (bs : List Nat) (h : Rd w A k cap bs) (hE : ttE bs = 0) :
    Calls Try.prog 38 #[.slice A k cap] w fun e w' => ∃ FA fk fc, e = .returned (.tuple #[.agg #[.string (ttV bs).name, .bool (ttV bs).value, .bool (ttV bs).refs, .slice FA fk fc], .int .i64 (ttW bs : Nat), .int .i64 0]) ∧ Lf w' FA fk fc (ttV bs).fields ∧ (∀ b o, FA = some ⟨b, o, none⟩ → w.heap.size ≤ b ∧ b < w'.heap.size) ∧ Below w.heap.size w w' := by
  have hle := h.le
  have hmx := h.max
  have HL := Lib.hid h.len
  have HB := Lib.hid h.byt
  have H := Lib.hid h
  clear h
  obtain ⟨w0, hw0⟩ : ∃ w0, w0 = w.alloc (Obj.cells #[.string ⟨#[]⟩, .bool false, .bool false, .slice none 0 0] 32) := ⟨_, rfl⟩
  have B0 := Lib.hid (show Blk w0 w.heap.size 32 #[.string ⟨#[]⟩, .bool false, .bool false, .slice none 0 0] by rw [hw0]; exact Blk.new _ _ _)
  have L0 := Lib.hid (show Below w.heap.size w w0 by rw [hw0]; (repeat' (first | exact Below.refl _ _ | assumption | (refine Below.alloc ?_ (by (try simp) <;> omega) _))))
  have S0 : w0.heap.size = w.heap.size + 1 := by rw [hw0]; simp
  have HW0 := Lib.hid hw0
  have SS := Lib.hid S0
  clear hw0 S0
  obtain ⟨hx0, hi0, h5, hx3⟩ := ttE_zero hE
  have hq := hx0
  have HQ := Lib.hid hq
  have hxc := (x_cases bs HB.out).resolve_right (fun h => h.1 hq)
  obtain ⟨P, hP⟩ : ∃ P, xW bs = P := ⟨_, rfl⟩
  have HXW := Lib.hid hP
  have hPk : P ≤ k := by rw [← hP, ← HL.out]; exact hxc.2.2.1
  have hP0 : 0 < P := by
    rcases Nat.eq_zero_or_pos P with h0 | h0
    · have h1 := hxc.2.2.2.2
      rw [hP, h0] at h1
      unfold txV at h1
      rw [if_pos hxc.2.1] at h1
      have h2 := congrArg List.length h1
      have h3 := num_pos (xV bs).length
      rw [List.length_append, List.take_zero, List.length_nil] at h2
      omega
    · exact h0
  have HTR := Lib.hid (show ttR bs = bs.drop P by unfold ttR; rw [hP])
  have HT0 := Lib.hid (show ttE bs = if iE (ttR bs) ≠ 0 then iE (ttR bs) else if (ttL bs).length % 5 ≠ 1 ∨ 3 < (ttL bs).getD 0 0 then 3 else 0 by unfold ttE; rw [hq]; rfl)
  obtain ⟨b, o, rfl, hbl, _⟩ := H.out.base (by omega)
  have HQ2 := Lib.hid hi0
  have HIC := Lib.hid ((i_cases (ttR bs) (byt_drop HB.out _)).resolve_right (fun h => h.1 hi0))
  have hcp : ¬ cap = P := by
    intro e
    have hnil : ttR bs = [] := by rw [HTR.out]; exact List.drop_eq_nil_of_le (by rw [HL.out]; omega)
    rw [hnil] at hi0
    cases hi0
  have HFT := Lib.hid (zs_fit HIC.out.2.2.1)
  obtain ⟨I, hI⟩ : ∃ I, iW (ttR bs) = I := ⟨_, rfl⟩
  have hIb : I ≤ 5010 := by rw [← hI]; exact HIC.out.2.2.2.2.1
  have HI := Lib.hid hI
  have HTW := Lib.hid (show ttW bs = P + I by unfold ttW; rw [HXW.out, hI])
  obtain ⟨L, hL⟩ : ∃ L, iV (ttR bs) = L := ⟨_, rfl⟩
  have HLL := Lib.hid hL
  have hTL : ttL bs = L := hL
  rw [hTL] at h5 hx3
  have hLb : L.length ≤ 1000 := by rw [← hL]; exact HIC.out.2.1
  rw [hL] at HFT
  have HTV := Lib.hid (show ttV bs = ⟨sb (xV bs), decide (L.getD 0 0 % 2 = 1), decide (2 ≤ L.getD 0 0), fos (zs (L.drop 1))⟩ by unfold ttV; rw [hTL])
  obtain ⟨x, r, hLx⟩ : ∃ x r, L = x :: r := by
    cases L with
    | nil => simp at h5
    | cons x r => exact ⟨x, r, rfl⟩
  subst hLx
  simp only [List.getD_cons_zero, List.drop_one, List.tail_cons] at hx3 HTV
  obtain ⟨m, hm⟩ : ∃ m, r.length = 5 * m := ⟨r.length / 5, by simp at h5; omega⟩
  have hmb : m ≤ 1000 := by simp at hLb; omega
  have ht5 : (((r.length + 1 : Nat) : Int)).tmod 5 = 1 := by rw [Int.tmod_eq_emod_of_nonneg (by omega)]; omega
  have HM := Lib.hid hm
  clear hE hx0 hi0 hI hL hTL h5 hLb hm
  rw [HTV.out, HTW.out]
  have hx4 : x = 0 ∨ x = 1 ∨ x = 2 ∨ x = 3 := by omega
  clear hx3
  have HZR := Lib.hid (show r.length = 5 * m from HM.out)
  have HFR := Lib.hid (show Fit (zs r) from fun y hy => HFT.out y (by simp only [zs, List.map_cons] at hy ⊢; exact List.mem_cons_of_mem _ hy))
  rcases hx4 with rfl | rfl | rfl | rfl
  · have hv1 : (bits BinOp.and IntKind.i64 0 1 != 0) = false := by rfl
    have hv2 : (bits BinOp.and IntKind.i64 0 2 != 0) = false := by rfl
    go_enter Try.func38, Try.ntmps38
    go_wp2_with (go_at_call 51; rw [← HW0.out]; refine (takeText_any _ _ _ bs (H.out.below L0.out (Nat.le_refl _))).mono ?_; rintro e w1 ⟨rfl, h1⟩; rw [HQ.out, HXW.out]; have X1 := Lib.hid (L0.out.trans (h1.mono (by rw [SS.out]; omega))); have B1 := Lib.hid (B0.out.below h1 (by rw [SS.out]; omega)); have hs1 := h1.size; rw [SS.out] at hs1; clear h1)
    go_wp2_with (go_at_call 52; refine (takeInts_any _ _ _ (ttR bs) (by rw [HTR.out]; exact (H.out.from P hPk).below X1.out (Nat.le_refl _))).mono ?_; rintro e w2 ⟨v2, rfl, o2, h2⟩; rw [HQ2.out, HI.out]; have X2 := Lib.hid (X1.out.trans (h2.mono (by omega))); have B2 := Lib.hid (B1.out.below h2 (by omega)); have hs2 := h2.size; rw [HLL.out] at o2; obtain ⟨A2, k2, c2, rfl, l2⟩ := o2.form HFT.out; have hk2 : r.length + 1 = k2 := (by rw [← l2.len, zs_len]; rfl); subst hk2; have hc2 := l2.le; have hm2 := l2.max; obtain ⟨b2, o2', y, rfl, hy, _, _, hb2, hcy⟩ := l2.intAt 0 (by simp); have hye := hy.out; simp [zs] at hye; subst hye; rw [Nat.add_zero] at hcy; have LI := Lib.hid l2; clear l2 hy h2 o2)
    have D2 := Lib.hid (Below.refl w2.heap.size w2).drew
    have D3 := Lib.hid ((Below.refl w2.heap.size w2).alloc (Nat.le_refl _) (Obj.cells #[.string ⟨#[]⟩, .bool false, .bool false, .slice none 0 0] 32)).drew
    have BZ := Lib.hid (show Blk (w2.alloc (Obj.cells #[.string ⟨#[]⟩, .bool false, .bool false, .slice none 0 0] 32)).drew w2.heap.size 32 _ from Blk.new w2 _ _)
    have hne : b2 ≠ w2.heap.size := by omega
    by_cases hc1 : c2 = 1
    · obtain rfl : r = [] := List.eq_nil_of_length_eq_zero (by omega)
      subst hc1
      have HN := Lib.hid (li_nil w2 · 0 (by omega))
      go_region_held3 (fun w' => w'.cell? ⟨b2, o2', none⟩ = some (.int .i64 0)) (first | (with_reducible exact hcy) | (with_reducible exact E1.out) | (with_reducible refine (World.cell?_of_block ((only_put4 _ _ _ _ _ _).block _ hne)).trans ?_; with_reducible exact E1.out) | exact (World.cell?_alloc_some w4 _ _ (by rw [E1.out]; rfl)).trans E1.out | go_keep) (first
        | (go_at_call 53; (with_reducible refine (fieldsOf_got w2.heap.size D2.out (Nat.le_refl _) _ _ _ _ (HN.out _) 0 rfl (by omega)).mono ?_); rintro e w4 ⟨FA, fk, fc, rfl, lf4, hfar, h4⟩; have O4 := Lib.hid (And.intro lf4 hfar); have H4 := Lib.hid (D2.out.trans h4); have E1 := Lib.hid ((h4.cell (p := ⟨b2, o2', none⟩) (by simpa using hb2)).trans hcy); clear h4 lf4 hfar)
        | (go_at_call 53; (with_reducible refine (fieldsOf_got w2.heap.size D3.out (Nat.le_refl _) _ _ _ _ (HN.out _) 0 rfl (by omega)).mono ?_); rintro e w4 ⟨FA, fk, fc, rfl, lf4, hfar, h4⟩; have O4 := Lib.hid (And.intro lf4 hfar); have H4 := Lib.hid (D3.out.trans (h4.mono (by simp))); have BN := Lib.hid (BZ.out.below h4 (by simp)); have E1 := Lib.hid ((H4.out.cell (p := ⟨b2, o2', none⟩) (by simpa using hb2)).trans hcy); have y0 := BN.out.frozen 0; have y1 := BN.out.frozen 1; have y2 := BN.out.frozen 2; have y3 := BN.out.frozen 3; have q0 := BN.out.cell 0; have q1 := BN.out.cell 1; have q2 := BN.out.cell 2; have q3 := BN.out.cell 3; simp at q0 q1 q2 q3; clear h4 lf4 hfar))
      · obtain ⟨w5, hw5⟩ : ∃ w5, w5 = w4.alloc (Obj.cells #[.string (sb (xV bs)), .bool false, .bool false, .slice FA fk fc] 32) := ⟨_, rfl⟩
        rw [← hw5]
        have N5 := Lib.hid (show Blk w5 w4.heap.size 32 #[.string (sb (xV bs)), .bool false, .bool false, .slice FA fk fc] by rw [hw5]; exact Blk.new _ _ _)
        have H5 := Lib.hid (show Below w2.heap.size w2 w5 by rw [hw5]; exact H4.out.alloc H4.out.size _)
        have O5 := Lib.hid (show Lf w5 FA fk fc (fos (zs [])) ∧ ∀ b o, FA = some ⟨b, o, none⟩ → w2.heap.size ≤ b ∧ b < w5.heap.size from ⟨by rw [hw5]; exact O4.out.1.below ((Below.refl w4.heap.size w4).alloc (Nat.le_refl _) _) (Nat.le_refl _), fun b' o' e => ⟨(O4.out.2 b' o' e).1, by rw [hw5]; simp; have := (O4.out.2 b' o' e).2; omega⟩⟩)
        have hs5 := H5.out.size
        have B5 := Lib.hid (B2.out.below H5.out (by omega))
        have z0 := B5.out.frozen 0
        have z1 := B5.out.frozen 1
        have z2 := B5.out.frozen 2
        have z3 := B5.out.frozen 3
        have d0 := B5.out.cell 0
        have d1 := B5.out.cell 1
        have d2 := B5.out.cell 2
        have d3 := B5.out.cell 3
        have n0 := N5.out.cell 0
        have n1 := N5.out.cell 1
        have n2 := N5.out.cell 2
        have n3 := N5.out.cell 3
        simp at d0 d1 d2 d3 n0 n1 n2 n3
        clear hw5
        go_wp2_with fail
        refine bodyPost_ret (res_cell3 rfl rfl B5.out.put4) rfl ⟨FA, fk, fc, ?_, ?_, ?_, below_put4 (X2.out.trans (H5.out.mono (by omega))) (Nat.le_refl _)⟩
        · simp
        · exact O5.out.1.only (only_put4 _ _ _ _ _ _) (fun b' o' e => by have := (O5.out.2 b' o' e).1; omega)
        · intro b' o' e
          have := O5.out.2 b' o' e
          rw [(only_put4 _ _ _ _ _ _).size]
          omega
      · obtain ⟨w5, hw5⟩ : ∃ w5, w5 = (((w4.setCell ⟨w2.heap.size, 0, none⟩ (.string (sb (xV bs)))).setCell ⟨w2.heap.size, 1, none⟩ (.bool false)).setCell ⟨w2.heap.size, 2, none⟩ (.bool false)).setCell ⟨w2.heap.size, 3, none⟩ (.slice FA fk fc) := ⟨_, rfl⟩
        rw [← hw5]
        have N5 := Lib.hid (show Blk w5 w2.heap.size 32 #[.string (sb (xV bs)), .bool false, .bool false, .slice FA fk fc] by rw [hw5]; exact BN.out.put4)
        have H5 := Lib.hid (show Below w2.heap.size w2 w5 by rw [hw5]; exact below_put4 H4.out (Nat.le_refl _))
        have O5 := Lib.hid (show Lf w5 FA fk fc (fos (zs [])) ∧ ∀ b o, FA = some ⟨b, o, none⟩ → w2.heap.size ≤ b ∧ b < w5.heap.size from ⟨by rw [hw5]; exact O4.out.1.only (only_put4 _ _ _ _ _ _) (fun b' o' e => by have := (O4.out.2 b' o' e).1; simp at this; omega), fun b' o' e => ⟨by have := (O4.out.2 b' o' e).1; simp at this; omega, by rw [hw5, (only_put4 _ _ _ _ _ _).size]; exact (O4.out.2 b' o' e).2⟩⟩)
        clear y0 y1 y2 y3 q0 q1 q2 q3
        have hs5 := H5.out.size
        have B5 := Lib.hid (B2.out.below H5.out (by omega))
        have z0 := B5.out.frozen 0
        have z1 := B5.out.frozen 1
        have z2 := B5.out.frozen 2
        have z3 := B5.out.frozen 3
        have d0 := B5.out.cell 0
        have d1 := B5.out.cell 1
        have d2 := B5.out.cell 2
        have d3 := B5.out.cell 3
        have n0 := N5.out.cell 0
        have n1 := N5.out.cell 1
        have n2 := N5.out.cell 2
        have n3 := N5.out.cell 3
        simp at d0 d1 d2 d3 n0 n1 n2 n3
        clear hw5
        go_wp2_with fail
        refine bodyPost_ret (res_cell3 rfl rfl B5.out.put4) rfl ⟨FA, fk, fc, ?_, ?_, ?_, below_put4 (X2.out.trans (H5.out.mono (by omega))) (Nat.le_refl _)⟩
        · simp
        · exact O5.out.1.only (only_put4 _ _ _ _ _ _) (fun b' o' e => by have := (O5.out.2 b' o' e).1; omega)
        · intro b' o' e
          have := O5.out.2 b' o' e
          rw [(only_put4 _ _ _ _ _ _).size]
          omega
    · have hc6 : ¬ (c2 : Int) = 1 := by omega
      have hr1 : (1 : Int) ≤ (r.length : Int) + 1 := by omega
      have LF := Lib.hid (Li.from1 (x := _) (r := zs r) LI.out)
      go_region_held3 (fun w' => w'.cell? ⟨b2, o2', none⟩ = some (.int .i64 0)) (first | (with_reducible exact hcy) | (with_reducible exact E1.out) | (with_reducible refine (World.cell?_of_block ((only_put4 _ _ _ _ _ _).block _ hne)).trans ?_; with_reducible exact E1.out) | exact (World.cell?_alloc_some w4 _ _ (by rw [E1.out]; rfl)).trans E1.out | go_keep) (first
        | (go_at_call 53; (with_reducible refine (fieldsOf_got w2.heap.size D2.out (Nat.le_refl _) _ _ _ _ LF.out m HZR.out hmb).mono ?_); rintro e w4 ⟨FA, fk, fc, rfl, lf4, hfar, h4⟩; have O4 := Lib.hid (And.intro lf4 hfar); have H4 := Lib.hid (D2.out.trans h4); have E1 := Lib.hid ((h4.cell (p := ⟨b2, o2', none⟩) (by simpa using hb2)).trans hcy); clear h4 lf4 hfar)
        | (go_at_call 53; (with_reducible refine (fieldsOf_got w2.heap.size D3.out (Nat.le_refl _) _ _ _ _ LF.out m HZR.out hmb).mono ?_); rintro e w4 ⟨FA, fk, fc, rfl, lf4, hfar, h4⟩; have O4 := Lib.hid (And.intro lf4 hfar); have H4 := Lib.hid (D3.out.trans (h4.mono (by simp))); have BN := Lib.hid (BZ.out.below h4 (by simp)); have E1 := Lib.hid ((H4.out.cell (p := ⟨b2, o2', none⟩) (by simpa using hb2)).trans hcy); have y0 := BN.out.frozen 0; have y1 := BN.out.frozen 1; have y2 := BN.out.frozen 2; have y3 := BN.out.frozen 3; have q0 := BN.out.cell 0; have q1 := BN.out.cell 1; have q2 := BN.out.cell 2; have q3 := BN.out.cell 3; simp at q0 q1 q2 q3; clear h4 lf4 hfar))
      · obtain ⟨w5, hw5⟩ : ∃ w5, w5 = w4.alloc (Obj.cells #[.string (sb (xV bs)), .bool false, .bool false, .slice FA fk fc] 32) := ⟨_, rfl⟩
        rw [← hw5]
        have N5 := Lib.hid (show Blk w5 w4.heap.size 32 #[.string (sb (xV bs)), .bool false, .bool false, .slice FA fk fc] by rw [hw5]; exact Blk.new _ _ _)
        have H5 := Lib.hid (show Below w2.heap.size w2 w5 by rw [hw5]; exact H4.out.alloc H4.out.size _)
        have O5 := Lib.hid (show Lf w5 FA fk fc (fos (zs r)) ∧ ∀ b o, FA = some ⟨b, o, none⟩ → w2.heap.size ≤ b ∧ b < w5.heap.size from ⟨by rw [hw5]; exact O4.out.1.below ((Below.refl w4.heap.size w4).alloc (Nat.le_refl _) _) (Nat.le_refl _), fun b' o' e => ⟨(O4.out.2 b' o' e).1, by rw [hw5]; simp; have := (O4.out.2 b' o' e).2; omega⟩⟩)
        have hs5 := H5.out.size
        have B5 := Lib.hid (B2.out.below H5.out (by omega))
        have z0 := B5.out.frozen 0
        have z1 := B5.out.frozen 1
        have z2 := B5.out.frozen 2
        have z3 := B5.out.frozen 3
        have d0 := B5.out.cell 0
        have d1 := B5.out.cell 1
        have d2 := B5.out.cell 2
        have d3 := B5.out.cell 3
        have n0 := N5.out.cell 0
        have n1 := N5.out.cell 1
        have n2 := N5.out.cell 2
        have n3 := N5.out.cell 3
        simp at d0 d1 d2 d3 n0 n1 n2 n3
        clear hw5
        go_wp2_with fail
        refine bodyPost_ret (res_cell3 rfl rfl B5.out.put4) rfl ⟨FA, fk, fc, ?_, ?_, ?_, below_put4 (X2.out.trans (H5.out.mono (by omega))) (Nat.le_refl _)⟩
        · simp
        · exact O5.out.1.only (only_put4 _ _ _ _ _ _) (fun b' o' e => by have := (O5.out.2 b' o' e).1; omega)
        · intro b' o' e
          have := O5.out.2 b' o' e
          rw [(only_put4 _ _ _ _ _ _).size]
          omega
      · obtain ⟨w5, hw5⟩ : ∃ w5, w5 = (((w4.setCell ⟨w2.heap.size, 0, none⟩ (.string (sb (xV bs)))).setCell ⟨w2.heap.size, 1, none⟩ (.bool false)).setCell ⟨w2.heap.size, 2, none⟩ (.bool false)).setCell ⟨w2.heap.size, 3, none⟩ (.slice FA fk fc) := ⟨_, rfl⟩
        rw [← hw5]
        have N5 := Lib.hid (show Blk w5 w2.heap.size 32 #[.string (sb (xV bs)), .bool false, .bool false, .slice FA fk fc] by rw [hw5]; exact BN.out.put4)
        have H5 := Lib.hid (show Below w2.heap.size w2 w5 by rw [hw5]; exact below_put4 H4.out (Nat.le_refl _))
        have O5 := Lib.hid (show Lf w5 FA fk fc (fos (zs r)) ∧ ∀ b o, FA = some ⟨b, o, none⟩ → w2.heap.size ≤ b ∧ b < w5.heap.size from ⟨by rw [hw5]; exact O4.out.1.only (only_put4 _ _ _ _ _ _) (fun b' o' e => by have := (O4.out.2 b' o' e).1; simp at this; omega), fun b' o' e => ⟨by have := (O4.out.2 b' o' e).1; simp at this; omega, by rw [hw5, (only_put4 _ _ _ _ _ _).size]; exact (O4.out.2 b' o' e).2⟩⟩)
        clear y0 y1 y2 y3 q0 q1 q2 q3
        have hs5 := H5.out.size
        have B5 := Lib.hid (B2.out.below H5.out (by omega))
        have z0 := B5.out.frozen 0
        have z1 := B5.out.frozen 1
        have z2 := B5.out.frozen 2
        have z3 := B5.out.frozen 3
        have d0 := B5.out.cell 0
        have d1 := B5.out.cell 1
        have d2 := B5.out.cell 2
        have d3 := B5.out.cell 3
        have n0 := N5.out.cell 0
        have n1 := N5.out.cell 1
        have n2 := N5.out.cell 2
        have n3 := N5.out.cell 3
        simp at d0 d1 d2 d3 n0 n1 n2 n3
        clear hw5
        go_wp2_with fail
        refine bodyPost_ret (res_cell3 rfl rfl B5.out.put4) rfl ⟨FA, fk, fc, ?_, ?_, ?_, below_put4 (X2.out.trans (H5.out.mono (by omega))) (Nat.le_refl _)⟩
        · simp
        · exact O5.out.1.only (only_put4 _ _ _ _ _ _) (fun b' o' e => by have := (O5.out.2 b' o' e).1; omega)
        · intro b' o' e
          have := O5.out.2 b' o' e
          rw [(only_put4 _ _ _ _ _ _).size]
          omega
  · have hv1 : (bits BinOp.and IntKind.i64 1 1 != 0) = true := by rfl
    have hv2 : (bits BinOp.and IntKind.i64 1 2 != 0) = false := by rfl
    go_enter Try.func38, Try.ntmps38
    go_wp2_with (go_at_call 51; rw [← HW0.out]; refine (takeText_any _ _ _ bs (H.out.below L0.out (Nat.le_refl _))).mono ?_; rintro e w1 ⟨rfl, h1⟩; rw [HQ.out, HXW.out]; have X1 := Lib.hid (L0.out.trans (h1.mono (by rw [SS.out]; omega))); have B1 := Lib.hid (B0.out.below h1 (by rw [SS.out]; omega)); have hs1 := h1.size; rw [SS.out] at hs1; clear h1)
    go_wp2_with (go_at_call 52; refine (takeInts_any _ _ _ (ttR bs) (by rw [HTR.out]; exact (H.out.from P hPk).below X1.out (Nat.le_refl _))).mono ?_; rintro e w2 ⟨v2, rfl, o2, h2⟩; rw [HQ2.out, HI.out]; have X2 := Lib.hid (X1.out.trans (h2.mono (by omega))); have B2 := Lib.hid (B1.out.below h2 (by omega)); have hs2 := h2.size; rw [HLL.out] at o2; obtain ⟨A2, k2, c2, rfl, l2⟩ := o2.form HFT.out; have hk2 : r.length + 1 = k2 := (by rw [← l2.len, zs_len]; rfl); subst hk2; have hc2 := l2.le; have hm2 := l2.max; obtain ⟨b2, o2', y, rfl, hy, _, _, hb2, hcy⟩ := l2.intAt 0 (by simp); have hye := hy.out; simp [zs] at hye; subst hye; rw [Nat.add_zero] at hcy; have LI := Lib.hid l2; clear l2 hy h2 o2)
    have D2 := Lib.hid (Below.refl w2.heap.size w2).drew
    have D3 := Lib.hid ((Below.refl w2.heap.size w2).alloc (Nat.le_refl _) (Obj.cells #[.string ⟨#[]⟩, .bool false, .bool false, .slice none 0 0] 32)).drew
    have BZ := Lib.hid (show Blk (w2.alloc (Obj.cells #[.string ⟨#[]⟩, .bool false, .bool false, .slice none 0 0] 32)).drew w2.heap.size 32 _ from Blk.new w2 _ _)
    have hne : b2 ≠ w2.heap.size := by omega
    by_cases hc1 : c2 = 1
    · obtain rfl : r = [] := List.eq_nil_of_length_eq_zero (by omega)
      subst hc1
      have HN := Lib.hid (li_nil w2 · 0 (by omega))
      go_region_held3 (fun w' => w'.cell? ⟨b2, o2', none⟩ = some (.int .i64 1)) (first | (with_reducible exact hcy) | (with_reducible exact E1.out) | (with_reducible refine (World.cell?_of_block ((only_put4 _ _ _ _ _ _).block _ hne)).trans ?_; with_reducible exact E1.out) | exact (World.cell?_alloc_some w4 _ _ (by rw [E1.out]; rfl)).trans E1.out | go_keep) (first
        | (go_at_call 53; (with_reducible refine (fieldsOf_got w2.heap.size D2.out (Nat.le_refl _) _ _ _ _ (HN.out _) 0 rfl (by omega)).mono ?_); rintro e w4 ⟨FA, fk, fc, rfl, lf4, hfar, h4⟩; have O4 := Lib.hid (And.intro lf4 hfar); have H4 := Lib.hid (D2.out.trans h4); have E1 := Lib.hid ((h4.cell (p := ⟨b2, o2', none⟩) (by simpa using hb2)).trans hcy); clear h4 lf4 hfar)
        | (go_at_call 53; (with_reducible refine (fieldsOf_got w2.heap.size D3.out (Nat.le_refl _) _ _ _ _ (HN.out _) 0 rfl (by omega)).mono ?_); rintro e w4 ⟨FA, fk, fc, rfl, lf4, hfar, h4⟩; have O4 := Lib.hid (And.intro lf4 hfar); have H4 := Lib.hid (D3.out.trans (h4.mono (by simp))); have BN := Lib.hid (BZ.out.below h4 (by simp)); have E1 := Lib.hid ((H4.out.cell (p := ⟨b2, o2', none⟩) (by simpa using hb2)).trans hcy); have y0 := BN.out.frozen 0; have y1 := BN.out.frozen 1; have y2 := BN.out.frozen 2; have y3 := BN.out.frozen 3; have q0 := BN.out.cell 0; have q1 := BN.out.cell 1; have q2 := BN.out.cell 2; have q3 := BN.out.cell 3; simp at q0 q1 q2 q3; clear h4 lf4 hfar))
      · obtain ⟨w5, hw5⟩ : ∃ w5, w5 = w4.alloc (Obj.cells #[.string (sb (xV bs)), .bool true, .bool false, .slice FA fk fc] 32) := ⟨_, rfl⟩
        rw [← hw5]
        have N5 := Lib.hid (show Blk w5 w4.heap.size 32 #[.string (sb (xV bs)), .bool true, .bool false, .slice FA fk fc] by rw [hw5]; exact Blk.new _ _ _)
        have H5 := Lib.hid (show Below w2.heap.size w2 w5 by rw [hw5]; exact H4.out.alloc H4.out.size _)
        have O5 := Lib.hid (show Lf w5 FA fk fc (fos (zs [])) ∧ ∀ b o, FA = some ⟨b, o, none⟩ → w2.heap.size ≤ b ∧ b < w5.heap.size from ⟨by rw [hw5]; exact O4.out.1.below ((Below.refl w4.heap.size w4).alloc (Nat.le_refl _) _) (Nat.le_refl _), fun b' o' e => ⟨(O4.out.2 b' o' e).1, by rw [hw5]; simp; have := (O4.out.2 b' o' e).2; omega⟩⟩)
        have hs5 := H5.out.size
        have B5 := Lib.hid (B2.out.below H5.out (by omega))
        have z0 := B5.out.frozen 0
        have z1 := B5.out.frozen 1
        have z2 := B5.out.frozen 2
        have z3 := B5.out.frozen 3
        have d0 := B5.out.cell 0
        have d1 := B5.out.cell 1
        have d2 := B5.out.cell 2
        have d3 := B5.out.cell 3
        have n0 := N5.out.cell 0
        have n1 := N5.out.cell 1
        have n2 := N5.out.cell 2
        have n3 := N5.out.cell 3
        simp at d0 d1 d2 d3 n0 n1 n2 n3
        clear hw5
        go_wp2_with fail
        refine bodyPost_ret (res_cell3 rfl rfl B5.out.put4) rfl ⟨FA, fk, fc, ?_, ?_, ?_, below_put4 (X2.out.trans (H5.out.mono (by omega))) (Nat.le_refl _)⟩
        · simp
        · exact O5.out.1.only (only_put4 _ _ _ _ _ _) (fun b' o' e => by have := (O5.out.2 b' o' e).1; omega)
        · intro b' o' e
          have := O5.out.2 b' o' e
          rw [(only_put4 _ _ _ _ _ _).size]
          omega
      · obtain ⟨w5, hw5⟩ : ∃ w5, w5 = (((w4.setCell ⟨w2.heap.size, 0, none⟩ (.string (sb (xV bs)))).setCell ⟨w2.heap.size, 1, none⟩ (.bool true)).setCell ⟨w2.heap.size, 2, none⟩ (.bool false)).setCell ⟨w2.heap.size, 3, none⟩ (.slice FA fk fc) := ⟨_, rfl⟩
        rw [← hw5]
        have N5 := Lib.hid (show Blk w5 w2.heap.size 32 #[.string (sb (xV bs)), .bool true, .bool false, .slice FA fk fc] by rw [hw5]; exact BN.out.put4)
        have H5 := Lib.hid (show Below w2.heap.size w2 w5 by rw [hw5]; exact below_put4 H4.out (Nat.le_refl _))
        have O5 := Lib.hid (show Lf w5 FA fk fc (fos (zs [])) ∧ ∀ b o, FA = some ⟨b, o, none⟩ → w2.heap.size ≤ b ∧ b < w5.heap.size from ⟨by rw [hw5]; exact O4.out.1.only (only_put4 _ _ _ _ _ _) (fun b' o' e => by have := (O4.out.2 b' o' e).1; simp at this; omega), fun b' o' e => ⟨by have := (O4.out.2 b' o' e).1; simp at this; omega, by rw [hw5, (only_put4 _ _ _ _ _ _).size]; exact (O4.out.2 b' o' e).2⟩⟩)
        clear y0 y1 y2 y3 q0 q1 q2 q3
        have hs5 := H5.out.size
        have B5 := Lib.hid (B2.out.below H5.out (by omega))
        have z0 := B5.out.frozen 0
        have z1 := B5.out.frozen 1
        have z2 := B5.out.frozen 2
        have z3 := B5.out.frozen 3
        have d0 := B5.out.cell 0
        have d1 := B5.out.cell 1
        have d2 := B5.out.cell 2
        have d3 := B5.out.cell 3
        have n0 := N5.out.cell 0
        have n1 := N5.out.cell 1
        have n2 := N5.out.cell 2
        have n3 := N5.out.cell 3
        simp at d0 d1 d2 d3 n0 n1 n2 n3
        clear hw5
        go_wp2_with fail
        refine bodyPost_ret (res_cell3 rfl rfl B5.out.put4) rfl ⟨FA, fk, fc, ?_, ?_, ?_, below_put4 (X2.out.trans (H5.out.mono (by omega))) (Nat.le_refl _)⟩
        · simp
        · exact O5.out.1.only (only_put4 _ _ _ _ _ _) (fun b' o' e => by have := (O5.out.2 b' o' e).1; omega)
        · intro b' o' e
          have := O5.out.2 b' o' e
          rw [(only_put4 _ _ _ _ _ _).size]
          omega
    · have hc6 : ¬ (c2 : Int) = 1 := by omega
      have hr1 : (1 : Int) ≤ (r.length : Int) + 1 := by omega
      have LF := Lib.hid (Li.from1 (x := _) (r := zs r) LI.out)
      go_region_held3 (fun w' => w'.cell? ⟨b2, o2', none⟩ = some (.int .i64 1)) (first | (with_reducible exact hcy) | (with_reducible exact E1.out) | (with_reducible refine (World.cell?_of_block ((only_put4 _ _ _ _ _ _).block _ hne)).trans ?_; with_reducible exact E1.out) | exact (World.cell?_alloc_some w4 _ _ (by rw [E1.out]; rfl)).trans E1.out | go_keep) (first
        | (go_at_call 53; (with_reducible refine (fieldsOf_got w2.heap.size D2.out (Nat.le_refl _) _ _ _ _ LF.out m HZR.out hmb).mono ?_); rintro e w4 ⟨FA, fk, fc, rfl, lf4, hfar, h4⟩; have O4 := Lib.hid (And.intro lf4 hfar); have H4 := Lib.hid (D2.out.trans h4); have E1 := Lib.hid ((h4.cell (p := ⟨b2, o2', none⟩) (by simpa using hb2)).trans hcy); clear h4 lf4 hfar)
        | (go_at_call 53; (with_reducible refine (fieldsOf_got w2.heap.size D3.out (Nat.le_refl _) _ _ _ _ LF.out m HZR.out hmb).mono ?_); rintro e w4 ⟨FA, fk, fc, rfl, lf4, hfar, h4⟩; have O4 := Lib.hid (And.intro lf4 hfar); have H4 := Lib.hid (D3.out.trans (h4.mono (by simp))); have BN := Lib.hid (BZ.out.below h4 (by simp)); have E1 := Lib.hid ((H4.out.cell (p := ⟨b2, o2', none⟩) (by simpa using hb2)).trans hcy); have y0 := BN.out.frozen 0; have y1 := BN.out.frozen 1; have y2 := BN.out.frozen 2; have y3 := BN.out.frozen 3; have q0 := BN.out.cell 0; have q1 := BN.out.cell 1; have q2 := BN.out.cell 2; have q3 := BN.out.cell 3; simp at q0 q1 q2 q3; clear h4 lf4 hfar))
      · obtain ⟨w5, hw5⟩ : ∃ w5, w5 = w4.alloc (Obj.cells #[.string (sb (xV bs)), .bool true, .bool false, .slice FA fk fc] 32) := ⟨_, rfl⟩
        rw [← hw5]
        have N5 := Lib.hid (show Blk w5 w4.heap.size 32 #[.string (sb (xV bs)), .bool true, .bool false, .slice FA fk fc] by rw [hw5]; exact Blk.new _ _ _)
        have H5 := Lib.hid (show Below w2.heap.size w2 w5 by rw [hw5]; exact H4.out.alloc H4.out.size _)
        have O5 := Lib.hid (show Lf w5 FA fk fc (fos (zs r)) ∧ ∀ b o, FA = some ⟨b, o, none⟩ → w2.heap.size ≤ b ∧ b < w5.heap.size from ⟨by rw [hw5]; exact O4.out.1.below ((Below.refl w4.heap.size w4).alloc (Nat.le_refl _) _) (Nat.le_refl _), fun b' o' e => ⟨(O4.out.2 b' o' e).1, by rw [hw5]; simp; have := (O4.out.2 b' o' e).2; omega⟩⟩)
        have hs5 := H5.out.size
        have B5 := Lib.hid (B2.out.below H5.out (by omega))
        have z0 := B5.out.frozen 0
        have z1 := B5.out.frozen 1
        have z2 := B5.out.frozen 2
        have z3 := B5.out.frozen 3
        have d0 := B5.out.cell 0
        have d1 := B5.out.cell 1
        have d2 := B5.out.cell 2
        have d3 := B5.out.cell 3
        have n0 := N5.out.cell 0
        have n1 := N5.out.cell 1
        have n2 := N5.out.cell 2
        have n3 := N5.out.cell 3
        simp at d0 d1 d2 d3 n0 n1 n2 n3
        clear hw5
        go_wp2_with fail
        refine bodyPost_ret (res_cell3 rfl rfl B5.out.put4) rfl ⟨FA, fk, fc, ?_, ?_, ?_, below_put4 (X2.out.trans (H5.out.mono (by omega))) (Nat.le_refl _)⟩
        · simp
        · exact O5.out.1.only (only_put4 _ _ _ _ _ _) (fun b' o' e => by have := (O5.out.2 b' o' e).1; omega)
        · intro b' o' e
          have := O5.out.2 b' o' e
          rw [(only_put4 _ _ _ _ _ _).size]
          omega
      · obtain ⟨w5, hw5⟩ : ∃ w5, w5 = (((w4.setCell ⟨w2.heap.size, 0, none⟩ (.string (sb (xV bs)))).setCell ⟨w2.heap.size, 1, none⟩ (.bool true)).setCell ⟨w2.heap.size, 2, none⟩ (.bool false)).setCell ⟨w2.heap.size, 3, none⟩ (.slice FA fk fc) := ⟨_, rfl⟩
        rw [← hw5]
        have N5 := Lib.hid (show Blk w5 w2.heap.size 32 #[.string (sb (xV bs)), .bool true, .bool false, .slice FA fk fc] by rw [hw5]; exact BN.out.put4)
        have H5 := Lib.hid (show Below w2.heap.size w2 w5 by rw [hw5]; exact below_put4 H4.out (Nat.le_refl _))
        have O5 := Lib.hid (show Lf w5 FA fk fc (fos (zs r)) ∧ ∀ b o, FA = some ⟨b, o, none⟩ → w2.heap.size ≤ b ∧ b < w5.heap.size from ⟨by rw [hw5]; exact O4.out.1.only (only_put4 _ _ _ _ _ _) (fun b' o' e => by have := (O4.out.2 b' o' e).1; simp at this; omega), fun b' o' e => ⟨by have := (O4.out.2 b' o' e).1; simp at this; omega, by rw [hw5, (only_put4 _ _ _ _ _ _).size]; exact (O4.out.2 b' o' e).2⟩⟩)
        clear y0 y1 y2 y3 q0 q1 q2 q3
        have hs5 := H5.out.size
        have B5 := Lib.hid (B2.out.below H5.out (by omega))
        have z0 := B5.out.frozen 0
        have z1 := B5.out.frozen 1
        have z2 := B5.out.frozen 2
        have z3 := B5.out.frozen 3
        have d0 := B5.out.cell 0
        have d1 := B5.out.cell 1
        have d2 := B5.out.cell 2
        have d3 := B5.out.cell 3
        have n0 := N5.out.cell 0
        have n1 := N5.out.cell 1
        have n2 := N5.out.cell 2
        have n3 := N5.out.cell 3
        simp at d0 d1 d2 d3 n0 n1 n2 n3
        clear hw5
        go_wp2_with fail
        refine bodyPost_ret (res_cell3 rfl rfl B5.out.put4) rfl ⟨FA, fk, fc, ?_, ?_, ?_, below_put4 (X2.out.trans (H5.out.mono (by omega))) (Nat.le_refl _)⟩
        · simp
        · exact O5.out.1.only (only_put4 _ _ _ _ _ _) (fun b' o' e => by have := (O5.out.2 b' o' e).1; omega)
        · intro b' o' e
          have := O5.out.2 b' o' e
          rw [(only_put4 _ _ _ _ _ _).size]
          omega
  · have hv1 : (bits BinOp.and IntKind.i64 2 1 != 0) = false := by rfl
    have hv2 : (bits BinOp.and IntKind.i64 2 2 != 0) = true := by rfl
    go_enter Try.func38, Try.ntmps38
    go_wp2_with (go_at_call 51; rw [← HW0.out]; refine (takeText_any _ _ _ bs (H.out.below L0.out (Nat.le_refl _))).mono ?_; rintro e w1 ⟨rfl, h1⟩; rw [HQ.out, HXW.out]; have X1 := Lib.hid (L0.out.trans (h1.mono (by rw [SS.out]; omega))); have B1 := Lib.hid (B0.out.below h1 (by rw [SS.out]; omega)); have hs1 := h1.size; rw [SS.out] at hs1; clear h1)
    go_wp2_with (go_at_call 52; refine (takeInts_any _ _ _ (ttR bs) (by rw [HTR.out]; exact (H.out.from P hPk).below X1.out (Nat.le_refl _))).mono ?_; rintro e w2 ⟨v2, rfl, o2, h2⟩; rw [HQ2.out, HI.out]; have X2 := Lib.hid (X1.out.trans (h2.mono (by omega))); have B2 := Lib.hid (B1.out.below h2 (by omega)); have hs2 := h2.size; rw [HLL.out] at o2; obtain ⟨A2, k2, c2, rfl, l2⟩ := o2.form HFT.out; have hk2 : r.length + 1 = k2 := (by rw [← l2.len, zs_len]; rfl); subst hk2; have hc2 := l2.le; have hm2 := l2.max; obtain ⟨b2, o2', y, rfl, hy, _, _, hb2, hcy⟩ := l2.intAt 0 (by simp); have hye := hy.out; simp [zs] at hye; subst hye; rw [Nat.add_zero] at hcy; have LI := Lib.hid l2; clear l2 hy h2 o2)
    have D2 := Lib.hid (Below.refl w2.heap.size w2).drew
    have D3 := Lib.hid ((Below.refl w2.heap.size w2).alloc (Nat.le_refl _) (Obj.cells #[.string ⟨#[]⟩, .bool false, .bool false, .slice none 0 0] 32)).drew
    have BZ := Lib.hid (show Blk (w2.alloc (Obj.cells #[.string ⟨#[]⟩, .bool false, .bool false, .slice none 0 0] 32)).drew w2.heap.size 32 _ from Blk.new w2 _ _)
    have hne : b2 ≠ w2.heap.size := by omega
    by_cases hc1 : c2 = 1
    · obtain rfl : r = [] := List.eq_nil_of_length_eq_zero (by omega)
      subst hc1
      have HN := Lib.hid (li_nil w2 · 0 (by omega))
      go_region_held3 (fun w' => w'.cell? ⟨b2, o2', none⟩ = some (.int .i64 2)) (first | (with_reducible exact hcy) | (with_reducible exact E1.out) | (with_reducible refine (World.cell?_of_block ((only_put4 _ _ _ _ _ _).block _ hne)).trans ?_; with_reducible exact E1.out) | exact (World.cell?_alloc_some w4 _ _ (by rw [E1.out]; rfl)).trans E1.out | go_keep) (first
        | (go_at_call 53; (with_reducible refine (fieldsOf_got w2.heap.size D2.out (Nat.le_refl _) _ _ _ _ (HN.out _) 0 rfl (by omega)).mono ?_); rintro e w4 ⟨FA, fk, fc, rfl, lf4, hfar, h4⟩; have O4 := Lib.hid (And.intro lf4 hfar); have H4 := Lib.hid (D2.out.trans h4); have E1 := Lib.hid ((h4.cell (p := ⟨b2, o2', none⟩) (by simpa using hb2)).trans hcy); clear h4 lf4 hfar)
        | (go_at_call 53; (with_reducible refine (fieldsOf_got w2.heap.size D3.out (Nat.le_refl _) _ _ _ _ (HN.out _) 0 rfl (by omega)).mono ?_); rintro e w4 ⟨FA, fk, fc, rfl, lf4, hfar, h4⟩; have O4 := Lib.hid (And.intro lf4 hfar); have H4 := Lib.hid (D3.out.trans (h4.mono (by simp))); have BN := Lib.hid (BZ.out.below h4 (by simp)); have E1 := Lib.hid ((H4.out.cell (p := ⟨b2, o2', none⟩) (by simpa using hb2)).trans hcy); have y0 := BN.out.frozen 0; have y1 := BN.out.frozen 1; have y2 := BN.out.frozen 2; have y3 := BN.out.frozen 3; have q0 := BN.out.cell 0; have q1 := BN.out.cell 1; have q2 := BN.out.cell 2; have q3 := BN.out.cell 3; simp at q0 q1 q2 q3; clear h4 lf4 hfar))
      · obtain ⟨w5, hw5⟩ : ∃ w5, w5 = w4.alloc (Obj.cells #[.string (sb (xV bs)), .bool false, .bool true, .slice FA fk fc] 32) := ⟨_, rfl⟩
        rw [← hw5]
        have N5 := Lib.hid (show Blk w5 w4.heap.size 32 #[.string (sb (xV bs)), .bool false, .bool true, .slice FA fk fc] by rw [hw5]; exact Blk.new _ _ _)
        have H5 := Lib.hid (show Below w2.heap.size w2 w5 by rw [hw5]; exact H4.out.alloc H4.out.size _)
        have O5 := Lib.hid (show Lf w5 FA fk fc (fos (zs [])) ∧ ∀ b o, FA = some ⟨b, o, none⟩ → w2.heap.size ≤ b ∧ b < w5.heap.size from ⟨by rw [hw5]; exact O4.out.1.below ((Below.refl w4.heap.size w4).alloc (Nat.le_refl _) _) (Nat.le_refl _), fun b' o' e => ⟨(O4.out.2 b' o' e).1, by rw [hw5]; simp; have := (O4.out.2 b' o' e).2; omega⟩⟩)
        have hs5 := H5.out.size
        have B5 := Lib.hid (B2.out.below H5.out (by omega))
        have z0 := B5.out.frozen 0
        have z1 := B5.out.frozen 1
        have z2 := B5.out.frozen 2
        have z3 := B5.out.frozen 3
        have d0 := B5.out.cell 0
        have d1 := B5.out.cell 1
        have d2 := B5.out.cell 2
        have d3 := B5.out.cell 3
        have n0 := N5.out.cell 0
        have n1 := N5.out.cell 1
        have n2 := N5.out.cell 2
        have n3 := N5.out.cell 3
        simp at d0 d1 d2 d3 n0 n1 n2 n3
        clear hw5
        go_wp2_with fail
        refine bodyPost_ret (res_cell3 rfl rfl B5.out.put4) rfl ⟨FA, fk, fc, ?_, ?_, ?_, below_put4 (X2.out.trans (H5.out.mono (by omega))) (Nat.le_refl _)⟩
        · simp
        · exact O5.out.1.only (only_put4 _ _ _ _ _ _) (fun b' o' e => by have := (O5.out.2 b' o' e).1; omega)
        · intro b' o' e
          have := O5.out.2 b' o' e
          rw [(only_put4 _ _ _ _ _ _).size]
          omega
      · obtain ⟨w5, hw5⟩ : ∃ w5, w5 = (((w4.setCell ⟨w2.heap.size, 0, none⟩ (.string (sb (xV bs)))).setCell ⟨w2.heap.size, 1, none⟩ (.bool false)).setCell ⟨w2.heap.size, 2, none⟩ (.bool true)).setCell ⟨w2.heap.size, 3, none⟩ (.slice FA fk fc) := ⟨_, rfl⟩
        rw [← hw5]
        have N5 := Lib.hid (show Blk w5 w2.heap.size 32 #[.string (sb (xV bs)), .bool false, .bool true, .slice FA fk fc] by rw [hw5]; exact BN.out.put4)
        have H5 := Lib.hid (show Below w2.heap.size w2 w5 by rw [hw5]; exact below_put4 H4.out (Nat.le_refl _))
        have O5 := Lib.hid (show Lf w5 FA fk fc (fos (zs [])) ∧ ∀ b o, FA = some ⟨b, o, none⟩ → w2.heap.size ≤ b ∧ b < w5.heap.size from ⟨by rw [hw5]; exact O4.out.1.only (only_put4 _ _ _ _ _ _) (fun b' o' e => by have := (O4.out.2 b' o' e).1; simp at this; omega), fun b' o' e => ⟨by have := (O4.out.2 b' o' e).1; simp at this; omega, by rw [hw5, (only_put4 _ _ _ _ _ _).size]; exact (O4.out.2 b' o' e).2⟩⟩)
        clear y0 y1 y2 y3 q0 q1 q2 q3
        have hs5 := H5.out.size
        have B5 := Lib.hid (B2.out.below H5.out (by omega))
        have z0 := B5.out.frozen 0
        have z1 := B5.out.frozen 1
        have z2 := B5.out.frozen 2
        have z3 := B5.out.frozen 3
        have d0 := B5.out.cell 0
        have d1 := B5.out.cell 1
        have d2 := B5.out.cell 2
        have d3 := B5.out.cell 3
        have n0 := N5.out.cell 0
        have n1 := N5.out.cell 1
        have n2 := N5.out.cell 2
        have n3 := N5.out.cell 3
        simp at d0 d1 d2 d3 n0 n1 n2 n3
        clear hw5
        go_wp2_with fail
        refine bodyPost_ret (res_cell3 rfl rfl B5.out.put4) rfl ⟨FA, fk, fc, ?_, ?_, ?_, below_put4 (X2.out.trans (H5.out.mono (by omega))) (Nat.le_refl _)⟩
        · simp
        · exact O5.out.1.only (only_put4 _ _ _ _ _ _) (fun b' o' e => by have := (O5.out.2 b' o' e).1; omega)
        · intro b' o' e
          have := O5.out.2 b' o' e
          rw [(only_put4 _ _ _ _ _ _).size]
          omega
    · have hc6 : ¬ (c2 : Int) = 1 := by omega
      have hr1 : (1 : Int) ≤ (r.length : Int) + 1 := by omega
      have LF := Lib.hid (Li.from1 (x := _) (r := zs r) LI.out)
      go_region_held3 (fun w' => w'.cell? ⟨b2, o2', none⟩ = some (.int .i64 2)) (first | (with_reducible exact hcy) | (with_reducible exact E1.out) | (with_reducible refine (World.cell?_of_block ((only_put4 _ _ _ _ _ _).block _ hne)).trans ?_; with_reducible exact E1.out) | exact (World.cell?_alloc_some w4 _ _ (by rw [E1.out]; rfl)).trans E1.out | go_keep) (first
        | (go_at_call 53; (with_reducible refine (fieldsOf_got w2.heap.size D2.out (Nat.le_refl _) _ _ _ _ LF.out m HZR.out hmb).mono ?_); rintro e w4 ⟨FA, fk, fc, rfl, lf4, hfar, h4⟩; have O4 := Lib.hid (And.intro lf4 hfar); have H4 := Lib.hid (D2.out.trans h4); have E1 := Lib.hid ((h4.cell (p := ⟨b2, o2', none⟩) (by simpa using hb2)).trans hcy); clear h4 lf4 hfar)
        | (go_at_call 53; (with_reducible refine (fieldsOf_got w2.heap.size D3.out (Nat.le_refl _) _ _ _ _ LF.out m HZR.out hmb).mono ?_); rintro e w4 ⟨FA, fk, fc, rfl, lf4, hfar, h4⟩; have O4 := Lib.hid (And.intro lf4 hfar); have H4 := Lib.hid (D3.out.trans (h4.mono (by simp))); have BN := Lib.hid (BZ.out.below h4 (by simp)); have E1 := Lib.hid ((H4.out.cell (p := ⟨b2, o2', none⟩) (by simpa using hb2)).trans hcy); have y0 := BN.out.frozen 0; have y1 := BN.out.frozen 1; have y2 := BN.out.frozen 2; have y3 := BN.out.frozen 3; have q0 := BN.out.cell 0; have q1 := BN.out.cell 1; have q2 := BN.out.cell 2; have q3 := BN.out.cell 3; simp at q0 q1 q2 q3; clear h4 lf4 hfar))
      · obtain ⟨w5, hw5⟩ : ∃ w5, w5 = w4.alloc (Obj.cells #[.string (sb (xV bs)), .bool false, .bool true, .slice FA fk fc] 32) := ⟨_, rfl⟩
        rw [← hw5]
        have N5 := Lib.hid (show Blk w5 w4.heap.size 32 #[.string (sb (xV bs)), .bool false, .bool true, .slice FA fk fc] by rw [hw5]; exact Blk.new _ _ _)
        have H5 := Lib.hid (show Below w2.heap.size w2 w5 by rw [hw5]; exact H4.out.alloc H4.out.size _)
        have O5 := Lib.hid (show Lf w5 FA fk fc (fos (zs r)) ∧ ∀ b o, FA = some ⟨b, o, none⟩ → w2.heap.size ≤ b ∧ b < w5.heap.size from ⟨by rw [hw5]; exact O4.out.1.below ((Below.refl w4.heap.size w4).alloc (Nat.le_refl _) _) (Nat.le_refl _), fun b' o' e => ⟨(O4.out.2 b' o' e).1, by rw [hw5]; simp; have := (O4.out.2 b' o' e).2; omega⟩⟩)
        have hs5 := H5.out.size
        have B5 := Lib.hid (B2.out.below H5.out (by omega))
        have z0 := B5.out.frozen 0
        have z1 := B5.out.frozen 1
        have z2 := B5.out.frozen 2
        have z3 := B5.out.frozen 3
        have d0 := B5.out.cell 0
        have d1 := B5.out.cell 1
        have d2 := B5.out.cell 2
        have d3 := B5.out.cell 3
        have n0 := N5.out.cell 0
        have n1 := N5.out.cell 1
        have n2 := N5.out.cell 2
        have n3 := N5.out.cell 3
        simp at d0 d1 d2 d3 n0 n1 n2 n3
        clear hw5
        go_wp2_with fail
        refine bodyPost_ret (res_cell3 rfl rfl B5.out.put4) rfl ⟨FA, fk, fc, ?_, ?_, ?_, below_put4 (X2.out.trans (H5.out.mono (by omega))) (Nat.le_refl _)⟩
        · simp
        · exact O5.out.1.only (only_put4 _ _ _ _ _ _) (fun b' o' e => by have := (O5.out.2 b' o' e).1; omega)
        · intro b' o' e
          have := O5.out.2 b' o' e
          rw [(only_put4 _ _ _ _ _ _).size]
          omega
      · obtain ⟨w5, hw5⟩ : ∃ w5, w5 = (((w4.setCell ⟨w2.heap.size, 0, none⟩ (.string (sb (xV bs)))).setCell ⟨w2.heap.size, 1, none⟩ (.bool false)).setCell ⟨w2.heap.size, 2, none⟩ (.bool true)).setCell ⟨w2.heap.size, 3, none⟩ (.slice FA fk fc) := ⟨_, rfl⟩
        rw [← hw5]
        have N5 := Lib.hid (show Blk w5 w2.heap.size 32 #[.string (sb (xV bs)), .bool false, .bool true, .slice FA fk fc] by rw [hw5]; exact BN.out.put4)
        have H5 := Lib.hid (show Below w2.heap.size w2 w5 by rw [hw5]; exact below_put4 H4.out (Nat.le_refl _))
        have O5 := Lib.hid (show Lf w5 FA fk fc (fos (zs r)) ∧ ∀ b o, FA = some ⟨b, o, none⟩ → w2.heap.size ≤ b ∧ b < w5.heap.size from ⟨by rw [hw5]; exact O4.out.1.only (only_put4 _ _ _ _ _ _) (fun b' o' e => by have := (O4.out.2 b' o' e).1; simp at this; omega), fun b' o' e => ⟨by have := (O4.out.2 b' o' e).1; simp at this; omega, by rw [hw5, (only_put4 _ _ _ _ _ _).size]; exact (O4.out.2 b' o' e).2⟩⟩)
        clear y0 y1 y2 y3 q0 q1 q2 q3
        have hs5 := H5.out.size
        have B5 := Lib.hid (B2.out.below H5.out (by omega))
        have z0 := B5.out.frozen 0
        have z1 := B5.out.frozen 1
        have z2 := B5.out.frozen 2
        have z3 := B5.out.frozen 3
        have d0 := B5.out.cell 0
        have d1 := B5.out.cell 1
        have d2 := B5.out.cell 2
        have d3 := B5.out.cell 3
        have n0 := N5.out.cell 0
        have n1 := N5.out.cell 1
        have n2 := N5.out.cell 2
        have n3 := N5.out.cell 3
        simp at d0 d1 d2 d3 n0 n1 n2 n3
        clear hw5
        go_wp2_with fail
        refine bodyPost_ret (res_cell3 rfl rfl B5.out.put4) rfl ⟨FA, fk, fc, ?_, ?_, ?_, below_put4 (X2.out.trans (H5.out.mono (by omega))) (Nat.le_refl _)⟩
        · simp
        · exact O5.out.1.only (only_put4 _ _ _ _ _ _) (fun b' o' e => by have := (O5.out.2 b' o' e).1; omega)
        · intro b' o' e
          have := O5.out.2 b' o' e
          rw [(only_put4 _ _ _ _ _ _).size]
          omega
  · have hv1 : (bits BinOp.and IntKind.i64 3 1 != 0) = true := by rfl
    have hv2 : (bits BinOp.and IntKind.i64 3 2 != 0) = true := by rfl
    go_enter Try.func38, Try.ntmps38
    go_wp2_with (go_at_call 51; rw [← HW0.out]; refine (takeText_any _ _ _ bs (H.out.below L0.out (Nat.le_refl _))).mono ?_; rintro e w1 ⟨rfl, h1⟩; rw [HQ.out, HXW.out]; have X1 := Lib.hid (L0.out.trans (h1.mono (by rw [SS.out]; omega))); have B1 := Lib.hid (B0.out.below h1 (by rw [SS.out]; omega)); have hs1 := h1.size; rw [SS.out] at hs1; clear h1)
    go_wp2_with (go_at_call 52; refine (takeInts_any _ _ _ (ttR bs) (by rw [HTR.out]; exact (H.out.from P hPk).below X1.out (Nat.le_refl _))).mono ?_; rintro e w2 ⟨v2, rfl, o2, h2⟩; rw [HQ2.out, HI.out]; have X2 := Lib.hid (X1.out.trans (h2.mono (by omega))); have B2 := Lib.hid (B1.out.below h2 (by omega)); have hs2 := h2.size; rw [HLL.out] at o2; obtain ⟨A2, k2, c2, rfl, l2⟩ := o2.form HFT.out; have hk2 : r.length + 1 = k2 := (by rw [← l2.len, zs_len]; rfl); subst hk2; have hc2 := l2.le; have hm2 := l2.max; obtain ⟨b2, o2', y, rfl, hy, _, _, hb2, hcy⟩ := l2.intAt 0 (by simp); have hye := hy.out; simp [zs] at hye; subst hye; rw [Nat.add_zero] at hcy; have LI := Lib.hid l2; clear l2 hy h2 o2)
    have D2 := Lib.hid (Below.refl w2.heap.size w2).drew
    have D3 := Lib.hid ((Below.refl w2.heap.size w2).alloc (Nat.le_refl _) (Obj.cells #[.string ⟨#[]⟩, .bool false, .bool false, .slice none 0 0] 32)).drew
    have BZ := Lib.hid (show Blk (w2.alloc (Obj.cells #[.string ⟨#[]⟩, .bool false, .bool false, .slice none 0 0] 32)).drew w2.heap.size 32 _ from Blk.new w2 _ _)
    have hne : b2 ≠ w2.heap.size := by omega
    by_cases hc1 : c2 = 1
    · obtain rfl : r = [] := List.eq_nil_of_length_eq_zero (by omega)
      subst hc1
      have HN := Lib.hid (li_nil w2 · 0 (by omega))
      go_region_held3 (fun w' => w'.cell? ⟨b2, o2', none⟩ = some (.int .i64 3)) (first | (with_reducible exact hcy) | (with_reducible exact E1.out) | (with_reducible refine (World.cell?_of_block ((only_put4 _ _ _ _ _ _).block _ hne)).trans ?_; with_reducible exact E1.out) | exact (World.cell?_alloc_some w4 _ _ (by rw [E1.out]; rfl)).trans E1.out | go_keep) (first
        | (go_at_call 53; (with_reducible refine (fieldsOf_got w2.heap.size D2.out (Nat.le_refl _) _ _ _ _ (HN.out _) 0 rfl (by omega)).mono ?_); rintro e w4 ⟨FA, fk, fc, rfl, lf4, hfar, h4⟩; have O4 := Lib.hid (And.intro lf4 hfar); have H4 := Lib.hid (D2.out.trans h4); have E1 := Lib.hid ((h4.cell (p := ⟨b2, o2', none⟩) (by simpa using hb2)).trans hcy); clear h4 lf4 hfar)
        | (go_at_call 53; (with_reducible refine (fieldsOf_got w2.heap.size D3.out (Nat.le_refl _) _ _ _ _ (HN.out _) 0 rfl (by omega)).mono ?_); rintro e w4 ⟨FA, fk, fc, rfl, lf4, hfar, h4⟩; have O4 := Lib.hid (And.intro lf4 hfar); have H4 := Lib.hid (D3.out.trans (h4.mono (by simp))); have BN := Lib.hid (BZ.out.below h4 (by simp)); have E1 := Lib.hid ((H4.out.cell (p := ⟨b2, o2', none⟩) (by simpa using hb2)).trans hcy); have y0 := BN.out.frozen 0; have y1 := BN.out.frozen 1; have y2 := BN.out.frozen 2; have y3 := BN.out.frozen 3; have q0 := BN.out.cell 0; have q1 := BN.out.cell 1; have q2 := BN.out.cell 2; have q3 := BN.out.cell 3; simp at q0 q1 q2 q3; clear h4 lf4 hfar))
      · obtain ⟨w5, hw5⟩ : ∃ w5, w5 = w4.alloc (Obj.cells #[.string (sb (xV bs)), .bool true, .bool true, .slice FA fk fc] 32) := ⟨_, rfl⟩
        rw [← hw5]
        have N5 := Lib.hid (show Blk w5 w4.heap.size 32 #[.string (sb (xV bs)), .bool true, .bool true, .slice FA fk fc] by rw [hw5]; exact Blk.new _ _ _)
        have H5 := Lib.hid (show Below w2.heap.size w2 w5 by rw [hw5]; exact H4.out.alloc H4.out.size _)
        have O5 := Lib.hid (show Lf w5 FA fk fc (fos (zs [])) ∧ ∀ b o, FA = some ⟨b, o, none⟩ → w2.heap.size ≤ b ∧ b < w5.heap.size from ⟨by rw [hw5]; exact O4.out.1.below ((Below.refl w4.heap.size w4).alloc (Nat.le_refl _) _) (Nat.le_refl _), fun b' o' e => ⟨(O4.out.2 b' o' e).1, by rw [hw5]; simp; have := (O4.out.2 b' o' e).2; omega⟩⟩)
        have hs5 := H5.out.size
        have B5 := Lib.hid (B2.out.below H5.out (by omega))
        have z0 := B5.out.frozen 0
        have z1 := B5.out.frozen 1
        have z2 := B5.out.frozen 2
        have z3 := B5.out.frozen 3
        have d0 := B5.out.cell 0
        have d1 := B5.out.cell 1
        have d2 := B5.out.cell 2
        have d3 := B5.out.cell 3
        have n0 := N5.out.cell 0
        have n1 := N5.out.cell 1
        have n2 := N5.out.cell 2
        have n3 := N5.out.cell 3
        simp at d0 d1 d2 d3 n0 n1 n2 n3
        clear hw5
        go_wp2_with fail
        refine bodyPost_ret (res_cell3 rfl rfl B5.out.put4) rfl ⟨FA, fk, fc, ?_, ?_, ?_, below_put4 (X2.out.trans (H5.out.mono (by omega))) (Nat.le_refl _)⟩
        · simp
        · exact O5.out.1.only (only_put4 _ _ _ _ _ _) (fun b' o' e => by have := (O5.out.2 b' o' e).1; omega)
        · intro b' o' e
          have := O5.out.2 b' o' e
          rw [(only_put4 _ _ _ _ _ _).size]
          omega
      · obtain ⟨w5, hw5⟩ : ∃ w5, w5 = (((w4.setCell ⟨w2.heap.size, 0, none⟩ (.string (sb (xV bs)))).setCell ⟨w2.heap.size, 1, none⟩ (.bool true)).setCell ⟨w2.heap.size, 2, none⟩ (.bool true)).setCell ⟨w2.heap.size, 3, none⟩ (.slice FA fk fc) := ⟨_, rfl⟩
        rw [← hw5]
        have N5 := Lib.hid (show Blk w5 w2.heap.size 32 #[.string (sb (xV bs)), .bool true, .bool true, .slice FA fk fc] by rw [hw5]; exact BN.out.put4)
        have H5 := Lib.hid (show Below w2.heap.size w2 w5 by rw [hw5]; exact below_put4 H4.out (Nat.le_refl _))
        have O5 := Lib.hid (show Lf w5 FA fk fc (fos (zs [])) ∧ ∀ b o, FA = some ⟨b, o, none⟩ → w2.heap.size ≤ b ∧ b < w5.heap.size from ⟨by rw [hw5]; exact O4.out.1.only (only_put4 _ _ _ _ _ _) (fun b' o' e => by have := (O4.out.2 b' o' e).1; simp at this; omega), fun b' o' e => ⟨by have := (O4.out.2 b' o' e).1; simp at this; omega, by rw [hw5, (only_put4 _ _ _ _ _ _).size]; exact (O4.out.2 b' o' e).2⟩⟩)
        clear y0 y1 y2 y3 q0 q1 q2 q3
        have hs5 := H5.out.size
        have B5 := Lib.hid (B2.out.below H5.out (by omega))
        have z0 := B5.out.frozen 0
        have z1 := B5.out.frozen 1
        have z2 := B5.out.frozen 2
        have z3 := B5.out.frozen 3
        have d0 := B5.out.cell 0
        have d1 := B5.out.cell 1
        have d2 := B5.out.cell 2
        have d3 := B5.out.cell 3
        have n0 := N5.out.cell 0
        have n1 := N5.out.cell 1
        have n2 := N5.out.cell 2
        have n3 := N5.out.cell 3
        simp at d0 d1 d2 d3 n0 n1 n2 n3
        clear hw5
        go_wp2_with fail
        refine bodyPost_ret (res_cell3 rfl rfl B5.out.put4) rfl ⟨FA, fk, fc, ?_, ?_, ?_, below_put4 (X2.out.trans (H5.out.mono (by omega))) (Nat.le_refl _)⟩
        · simp
        · exact O5.out.1.only (only_put4 _ _ _ _ _ _) (fun b' o' e => by have := (O5.out.2 b' o' e).1; omega)
        · intro b' o' e
          have := O5.out.2 b' o' e
          rw [(only_put4 _ _ _ _ _ _).size]
          omega
    · have hc6 : ¬ (c2 : Int) = 1 := by omega
      have hr1 : (1 : Int) ≤ (r.length : Int) + 1 := by omega
      have LF := Lib.hid (Li.from1 (x := _) (r := zs r) LI.out)
      go_region_held3 (fun w' => w'.cell? ⟨b2, o2', none⟩ = some (.int .i64 3)) (first | (with_reducible exact hcy) | (with_reducible exact E1.out) | (with_reducible refine (World.cell?_of_block ((only_put4 _ _ _ _ _ _).block _ hne)).trans ?_; with_reducible exact E1.out) | exact (World.cell?_alloc_some w4 _ _ (by rw [E1.out]; rfl)).trans E1.out | go_keep) (first
        | (go_at_call 53; (with_reducible refine (fieldsOf_got w2.heap.size D2.out (Nat.le_refl _) _ _ _ _ LF.out m HZR.out hmb).mono ?_); rintro e w4 ⟨FA, fk, fc, rfl, lf4, hfar, h4⟩; have O4 := Lib.hid (And.intro lf4 hfar); have H4 := Lib.hid (D2.out.trans h4); have E1 := Lib.hid ((h4.cell (p := ⟨b2, o2', none⟩) (by simpa using hb2)).trans hcy); clear h4 lf4 hfar)
        | (go_at_call 53; (with_reducible refine (fieldsOf_got w2.heap.size D3.out (Nat.le_refl _) _ _ _ _ LF.out m HZR.out hmb).mono ?_); rintro e w4 ⟨FA, fk, fc, rfl, lf4, hfar, h4⟩; have O4 := Lib.hid (And.intro lf4 hfar); have H4 := Lib.hid (D3.out.trans (h4.mono (by simp))); have BN := Lib.hid (BZ.out.below h4 (by simp)); have E1 := Lib.hid ((H4.out.cell (p := ⟨b2, o2', none⟩) (by simpa using hb2)).trans hcy); have y0 := BN.out.frozen 0; have y1 := BN.out.frozen 1; have y2 := BN.out.frozen 2; have y3 := BN.out.frozen 3; have q0 := BN.out.cell 0; have q1 := BN.out.cell 1; have q2 := BN.out.cell 2; have q3 := BN.out.cell 3; simp at q0 q1 q2 q3; clear h4 lf4 hfar))
      · obtain ⟨w5, hw5⟩ : ∃ w5, w5 = w4.alloc (Obj.cells #[.string (sb (xV bs)), .bool true, .bool true, .slice FA fk fc] 32) := ⟨_, rfl⟩
        rw [← hw5]
        have N5 := Lib.hid (show Blk w5 w4.heap.size 32 #[.string (sb (xV bs)), .bool true, .bool true, .slice FA fk fc] by rw [hw5]; exact Blk.new _ _ _)
        have H5 := Lib.hid (show Below w2.heap.size w2 w5 by rw [hw5]; exact H4.out.alloc H4.out.size _)
        have O5 := Lib.hid (show Lf w5 FA fk fc (fos (zs r)) ∧ ∀ b o, FA = some ⟨b, o, none⟩ → w2.heap.size ≤ b ∧ b < w5.heap.size from ⟨by rw [hw5]; exact O4.out.1.below ((Below.refl w4.heap.size w4).alloc (Nat.le_refl _) _) (Nat.le_refl _), fun b' o' e => ⟨(O4.out.2 b' o' e).1, by rw [hw5]; simp; have := (O4.out.2 b' o' e).2; omega⟩⟩)
        have hs5 := H5.out.size
        have B5 := Lib.hid (B2.out.below H5.out (by omega))
        have z0 := B5.out.frozen 0
        have z1 := B5.out.frozen 1
        have z2 := B5.out.frozen 2
        have z3 := B5.out.frozen 3
        have d0 := B5.out.cell 0
        have d1 := B5.out.cell 1
        have d2 := B5.out.cell 2
        have d3 := B5.out.cell 3
        have n0 := N5.out.cell 0
        have n1 := N5.out.cell 1
        have n2 := N5.out.cell 2
        have n3 := N5.out.cell 3
        simp at d0 d1 d2 d3 n0 n1 n2 n3
        clear hw5
        go_wp2_with fail
        refine bodyPost_ret (res_cell3 rfl rfl B5.out.put4) rfl ⟨FA, fk, fc, ?_, ?_, ?_, below_put4 (X2.out.trans (H5.out.mono (by omega))) (Nat.le_refl _)⟩
        · simp
        · exact O5.out.1.only (only_put4 _ _ _ _ _ _) (fun b' o' e => by have := (O5.out.2 b' o' e).1; omega)
        · intro b' o' e
          have := O5.out.2 b' o' e
          rw [(only_put4 _ _ _ _ _ _).size]
          omega
      · obtain ⟨w5, hw5⟩ : ∃ w5, w5 = (((w4.setCell ⟨w2.heap.size, 0, none⟩ (.string (sb (xV bs)))).setCell ⟨w2.heap.size, 1, none⟩ (.bool true)).setCell ⟨w2.heap.size, 2, none⟩ (.bool true)).setCell ⟨w2.heap.size, 3, none⟩ (.slice FA fk fc) := ⟨_, rfl⟩
        rw [← hw5]
        have N5 := Lib.hid (show Blk w5 w2.heap.size 32 #[.string (sb (xV bs)), .bool true, .bool true, .slice FA fk fc] by rw [hw5]; exact BN.out.put4)
        have H5 := Lib.hid (show Below w2.heap.size w2 w5 by rw [hw5]; exact below_put4 H4.out (Nat.le_refl _))
        have O5 := Lib.hid (show Lf w5 FA fk fc (fos (zs r)) ∧ ∀ b o, FA = some ⟨b, o, none⟩ → w2.heap.size ≤ b ∧ b < w5.heap.size from ⟨by rw [hw5]; exact O4.out.1.only (only_put4 _ _ _ _ _ _) (fun b' o' e => by have := (O4.out.2 b' o' e).1; simp at this; omega), fun b' o' e => ⟨by have := (O4.out.2 b' o' e).1; simp at this; omega, by rw [hw5, (only_put4 _ _ _ _ _ _).size]; exact (O4.out.2 b' o' e).2⟩⟩)
        clear y0 y1 y2 y3 q0 q1 q2 q3
        have hs5 := H5.out.size
        have B5 := Lib.hid (B2.out.below H5.out (by omega))
        have z0 := B5.out.frozen 0
        have z1 := B5.out.frozen 1
        have z2 := B5.out.frozen 2
        have z3 := B5.out.frozen 3
        have d0 := B5.out.cell 0
        have d1 := B5.out.cell 1
        have d2 := B5.out.cell 2
        have d3 := B5.out.cell 3
        have n0 := N5.out.cell 0
        have n1 := N5.out.cell 1
        have n2 := N5.out.cell 2
        have n3 := N5.out.cell 3
        simp at d0 d1 d2 d3 n0 n1 n2 n3
        clear hw5
        go_wp2_with fail
        refine bodyPost_ret (res_cell3 rfl rfl B5.out.put4) rfl ⟨FA, fk, fc, ?_, ?_, ?_, below_put4 (X2.out.trans (H5.out.mono (by omega))) (Nat.le_refl _)⟩
        · simp
        · exact O5.out.1.only (only_put4 _ _ _ _ _ _) (fun b' o' e => by have := (O5.out.2 b' o' e).1; omega)
        · intro b' o' e
          have := O5.out.2 b' o' e
          rw [(only_put4 _ _ _ _ _ _).size]
          omega
end
end Go.Proofs.Ytnkjlocjfljjlaa
