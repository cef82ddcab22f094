/- The contract of Check. Condition: the types can be read. -/
import Derived.Test.YtnkjlocjfljjlaaTReaches
import Derived.Test.YtnkjlocjfljjlaaTCheckType
import Derived.Test.YtnkjlocjfljjlaaTRType
namespace Go.Proofs.Ytnkjlocjfljjlaa
open Go.RowKit Go.Maps Go.WideMaps
set_option maxRecDepth 100000
set_option maxHeartbeats 4000000

theorem lawS : Keyed Try.prog 9 := string_keyed Try.underlying9
theorem zeroI (w : World) : (zeroValue 3).run Try.prog w = .ok (.int .i64 0) w := by kernel_rfl
def kS (s : ByteArray) : Lit := .string s.data.toList
theorem kS_of {s : ByteArray} (h : s.size ≤ 9223372036854775807) : keyOf Try.prog 9 (.string s) = some (kS s) := keyOf_string_mk Try.underlying9 (by simpa [maxLen] using h)
theorem kS_inj {a b : ByteArray} (h : kS a = kS b) : a = b := by
  obtain ⟨⟨l⟩⟩ := a
  obtain ⟨⟨m⟩⟩ := b
  simp [kS] at h
  rw [h]
/-- The map holds the names of the first j types. -/
def Nms (ts : List Ty) (j : Nat) (D : DataW Unit) : Prop := ∀ s : ByteArray, Maps.has D (kS s) = dup ts j s
open Classical in
theorem dup_snoc {ts : List Ty} {j : Nat} {t : Ty} (h : ts[j]? = some t) (s : ByteArray) : dup ts (j + 1) s = (dup ts j s || decide (t.name = s)) := by
  unfold dup
  rw [take_snoc h, List.any_append]
  simp
theorem Nms.put {ts : List Ty} {j : Nat} {D : DataW Unit} {t : Ty} (h : Nms ts j D) (hD : IsMap D) (ht : ts[j]? = some t) (d : DataW Unit) : Nms ts (j + 1) (D.put (kS t.name) d) := by
  intro s
  rw [dup_snoc ht]
  by_cases e : t.name = s
  · subst e
    rw [has_put_same hD (show WideAt.IsKeyLit (kS t.name) from trivial)]
    simp
  · rw [has_put_other (fun hh => e (kS_inj hh).symm), h s]
    simp [e]
section
variable {w : World}
theorem isName5_any (s : ByteArray) (hs : s.size ≤ 9223372036854775807) :
    Calls Try.prog 23 #[.string s] w fun e w' => e = .returned (.bool (nm (ofS s))) ∧ Below w.heap.size w w' := by
  cases hn : nm (ofS s)
  case' false => have HE := Lib.hid (show txE (ofS s) = 1 by unfold txE; rw [hn]; rfl)
  case' true => have HE := Lib.hid (show txE (ofS s) = 0 by unfold txE; rw [hn]; rfl)
  all_goals
    clear hn
    go_enter Try.func23, Try.ntmps23
    go_wp2_with (go_at_call 31; refine (text_any s hs).mono ?_; rintro e w1 ⟨v1, rfl, h1, h2⟩; rw [HE.out]; have H2 := Lib.hid h2; clear h1 h2)
    go_ret
    exact ⟨rfl, H2.out⟩
theorem check_any (A : Option Addr) (n cap : Nat) (ts : List Ty) (h : Lt w A n cap ts) :
    Calls Try.prog 12 #[.slice A n cap] w fun e w' => e = .returned (.tuple #[.int .i64 (ckI ts : Nat), .int .i64 (ckE ts : Nat)]) ∧ Below w.heap.size w w' := by
  have hle := h.le
  have hmx := h.max
  have HN := Lib.hid h.len
  have H := Lib.hid h
  clear h
  by_cases hbig : 32 < n
  · obtain ⟨e1, e2⟩ := ck_big (ts := ts) (by rw [HN.out]; exact hbig)
    have HE := Lib.hid (And.intro e1 e2)
    clear e1 e2
    go_enter Try.func12, Try.ntmps12
    go_wp2_with fail
    go_ret2
    rw [HE.out.1, HE.out.2]
    refine ⟨rfl, ?_⟩
    (repeat' (first | exact Below.refl _ _ | assumption | (refine Below.alloc ?_ (by (try simp) <;> omega) _)))
  · have hn : n ≤ 32 := by omega
    have HB := Lib.hid (show ¬ 32 < ts.length by rw [HN.out]; exact hbig)
    obtain ⟨w0, hw0⟩ : ∃ w0, w0 = w.alloc (Obj.cells #[.slice A n cap] 22) := ⟨_, rfl⟩
    have B0 := Lib.hid (show Blk w0 w.heap.size 22 #[.slice A n cap] by rw [hw0]; exact Blk.new _ _ _)
    have L0 := Lib.hid (show Below w.heap.size w w0 by rw [hw0]; (repeat' (first | exact Below.refl _ _ | assumption | (refine Below.alloc ?_ (by (try simp) <;> omega) _))))
    have S0 : w0.heap.size = w.heap.size + 1 := by rw [hw0]; simp
    have HW0 := Lib.hid hw0
    have SS := Lib.hid S0
    clear hw0 S0
    have hmm := @run_makeMap Try.prog
    go_enter Try.func12, Try.ntmps12
    go_wp2_with fail
    rw [← HW0.out]
    go_loopw [20] (fun i wr => ∃ (j : Nat) (D : DataW Unit), j ≤ n ∧ i = .int .i64 j ∧ Hid (∀ t, t < j → tpE ts t = 0) ∧ Hid (Nms ts j D) ∧ Hid (wr.ownsMap Try.prog 9 (plainElem Try.prog 3) (w.heap.size + 1) j D) ∧ Hid (Below w0.heap.size w0 wr)) (fun i _ => n - (intOf i).toNat)
    case atStart =>
      refine ⟨0, .map [], Nat.zero_le _, rfl, fun t ht => absurd ht (by omega), fun s => by unfold dup; rfl, ?_, ?_⟩
      · show World.ownsMap _ _ _ _ _ _ _
        have := World.ownsMap_made (H := Unit) w0 Try.prog 9 (plainElem Try.prog 3)
        rw [SS.out] at this
        exact this
      · exact (Below.refl _ _).alloc (Nat.le_refl _) _
    case round =>
      obtain ⟨j, D, hj, rfl, HZ, HM, HO, HW0r⟩ := hrel
      have HW := Lib.hid (L0.out.trans (HW0r.out.mono (by rw [SS.out]; omega)))
      have hws := HW0r.out.size
      have hws0 : w.heap.size + 1 ≤ wr.heap.size := by rw [← SS.out]; exact hws
      have hom : w.heap.size + 1 < wr.heap.size := HO.out.lt
      have cB := (B0.out.below HW0r.out (by rw [SS.out]; omega)).cell 0
      simp at cB
      by_cases hlt : j < n
      · obtain ⟨b, o, t, FA, fk, fc, rfl, hu, hnm, hb, c0, c1, c2, c3, hf⟩ := H.out.at j hlt
        have hji : (j : Int) < (n : Int) := by omega
        obtain ⟨tn, tv, tr, fs⟩ := t
        simp only at c0 c1 c2 hf hnm
        replace c0 := (HW.out.cell (p := ⟨b, o + j * 4, none⟩) hb).trans c0
        replace c1 := (HW.out.cell (p := ⟨b, o + j * 4 + 1, none⟩) hb).trans c1
        replace c2 := (HW.out.cell (p := ⟨b, o + j * 4 + 2, none⟩) hb).trans c2
        replace c3 := (HW.out.cell (p := ⟨b, o + j * 4 + 3, none⟩) hb).trans c3
        have HKEY := Lib.hid (kS_of hnm)
        have HH := Lib.hid (HM.out tn)
        obtain ⟨w1, hw1⟩ : ∃ w1, w1 = wr.alloc (Obj.cells #[.string tn, .bool tv, .bool tr, .slice FA fk fc] 32) := ⟨_, rfl⟩
        have B1 := Lib.hid (show Blk w1 wr.heap.size 32 #[.string tn, .bool tv, .bool tr, .slice FA fk fc] by rw [hw1]; exact Blk.new _ _ _)
        have L1 := Lib.hid (show Below w0.heap.size w0 w1 by rw [hw1]; exact HW0r.out.alloc hws _)
        have hs1 : w1.heap.size = wr.heap.size + 1 := by rw [hw1]; simp
        have HW1 := Lib.hid hw1
        have S1 := Lib.hid hs1
        have HX := Lib.hid (L0.out.trans (L1.out.mono (by rw [SS.out]; omega)))
        have HO1 := Lib.hid (show w1.ownsMap Try.prog 9 (plainElem Try.prog 3) (w.heap.size + 1) j D by rw [hw1]; exact HO.out.alloc _)
        clear hw1 hs1
        cases hd : dup ts j tn
        · have HH2 := Lib.hid (HH.out.trans hd)
          have HD := Lib.hid hd
          clear hd
          cases hnn : nm (ofS tn)
          · have HNN := Lib.hid hnn
            have HT := Lib.hid (tp_name hu.out hnn)
            obtain ⟨e1, e2⟩ := ck_one HB.out (by rw [HN.out]; exact hlt) HZ.out (by rw [HT.out]; decide)
            have HE := Lib.hid (And.intro e1 e2)
            clear hnn e1 e2
            obtain ⟨f0, f1, f2, f3⟩ := four B1.out (Below.refl w1.heap.size w1) (by rw [S1.out]; omega)
            go_wp2_with (first | (at_lookup; rw [← HW1.out]; refine wpList_lookup_own_ok_int _ rfl _ _ 57 rfl 9 3 .i64 lawS Try.underlying57 Try.underlying3 (zeroI _) (w.heap.size + 1) j D rfl HO1.out _ _ rfl HKEY.out ?_; intro c hat hwc; rw [HH2.out]; clear hat hwc) | (go_at_call 23; refine (isName5_any tn hnm).mono ?_; rintro e w2 ⟨rfl, hb2⟩; rw [HNN.out]; have X2 := Lib.hid (HX.out.trans (hb2.mono HX.out.size)); clear hb2))
            go_ret2
            rw [HE.out.1, HE.out.2, HT.out]
            exact ⟨rfl, X2.out⟩
          · have HNN := Lib.hid hnn
            have HT := Lib.hid (tp_go (t := ⟨tn, tv, tr, fs⟩) hu.out hnn HD.out)
            clear hnn
            obtain ⟨q, hq⟩ : ∃ q, tyE ts ⟨tn, tv, tr, fs⟩ = q := ⟨_, rfl⟩
            have HQ := Lib.hid hq
            obtain ⟨f0, f1, f2, f3⟩ := four B1.out (Below.refl w1.heap.size w1) (by rw [S1.out]; omega)
            by_cases hq0 : q = 0
            case' neg => (obtain ⟨e1, e2⟩ := ck_one HB.out (by rw [HN.out]; exact hlt) HZ.out (by rw [HT.out, hq]; exact hq0); have HE := Lib.hid (And.intro e1 e2); have hqn : ((q : Int) != 0) = true := (by simpa using hq0); clear e1 e2)
            case' pos => (subst hq0; have HT0 := Lib.hid (HT.out.trans hq))
            all_goals
              clear hq
              go_wp2_with (first
                | (at_lookup; rw [← HW1.out]; refine wpList_lookup_own_ok_int _ rfl _ _ 57 rfl 9 3 .i64 lawS Try.underlying57 Try.underlying3 (zeroI _) (w.heap.size + 1) j D rfl HO1.out _ _ rfl HKEY.out ?_; intro c hat hwc; rw [HH2.out]; clear hat hwc)
                | (go_at_call 23; refine (isName5_any tn hnm).mono ?_; rintro e w2 ⟨rfl, hb2⟩; rw [HNN.out]; have X2 := Lib.hid (L1.out.trans (hb2.mono (Nat.le_trans hws (by rw [S1.out]; omega)))); have hs2 := hb2.size; rw [S1.out] at hs2; have HO2 := Lib.hid (om_below HO1.out hb2 (by rw [S1.out]; omega)); obtain ⟨g0, g1, g2, g3⟩ := four B1.out hb2 (by rw [S1.out]; omega); have BB2 := Lib.hid (B1.out.below hb2 (by rw [S1.out]; omega)); clear hb2)
                | (at_mapUpdate; refine wpList_mapUpdate_own _ rfl _ _ _ 57 rfl 9 3 lawS Try.underlying57 (plainElem (H := Unit) Try.prog 3) (w.heap.size + 1) j D rfl HO2.out (by unfold maxLen; omega) _ _ _ rfl rfl HKEY.out _ [] (plainElem_int Try.underlying3 (WalkArith.wf_i64 (by omega))) ?_; intro w3 hown3 hgrow3; have hs3 := hgrow3.size; have HO3 := Lib.hid hown3; have X3 := Lib.hid (X2.out.grown hgrow3 X2.out.size (fun r e => (by cases e; rw [SS.out]; exact Nat.le_refl _))); have k0 := (hgrow3.cell_far ⟨wr.heap.size, 0, none⟩ (by simp only; omega) (by simp; omega)).trans g0; have k1 := (hgrow3.cell_far ⟨wr.heap.size, 1, none⟩ (by simp only; omega) (by simp; omega)).trans g1; have k2 := (hgrow3.cell_far ⟨wr.heap.size, 2, none⟩ (by simp only; omega) (by simp; omega)).trans g2; have k3 := (hgrow3.cell_far ⟨wr.heap.size, 3, none⟩ (by simp only; omega) (by simp; omega)).trans g3; have HX3 := Lib.hid (L0.out.trans (X3.out.mono (by rw [SS.out]; omega))); have hsx3 := HX3.out.size; clear hown3 hgrow3)
                | (go_at_call 24; refine (checkType_any _ n cap ts (H.out.below HX3.out (Nat.le_refl _)) ⟨tn, tv, tr, fs⟩ FA fk fc (hf.out.below HX3.out (Nat.le_refl _)) w.heap.size (by omega) ((B0.out.below X3.out (by rw [SS.out]; omega)).cell 0)).mono ?_; rintro e w4 ⟨rfl, hb4⟩; rw [HQ.out]; have X4 := Lib.hid (X3.out.trans (hb4.mono (Nat.le_trans (Nat.le_trans hws (by omega)) hs3))); have HO4 := Lib.hid (om_below HO3.out hb4 (by omega)); clear hb4))
            · go_roundw
              case rel =>
                refine ⟨j + 1, _, by omega, by go_num, ?_, HM.out.put HO1.out.isMap hu.out _, HO4.out, X4.out⟩
                intro t ht
                rcases Nat.lt_or_ge t j with h1 | h1
                · exact HZ.out t h1
                · obtain rfl : t = j := by omega
                  exact HT0.out
              case measure => simp [intOf]; omega
            · go_ret2
              rw [HE.out.1, HE.out.2, HT.out, HQ.out]
              exact ⟨rfl, L0.out.trans (X4.out.mono (by rw [SS.out]; omega))⟩
        · have HH2 := Lib.hid (HH.out.trans hd)
          have HT := Lib.hid (tp_dup hu.out hd)
          obtain ⟨e1, e2⟩ := ck_one HB.out (by rw [HN.out]; exact hlt) HZ.out (by rw [HT.out]; decide)
          have HE := Lib.hid (And.intro e1 e2)
          clear hd e1 e2
          go_wp2_with (at_lookup; rw [← HW1.out]; refine wpList_lookup_own_ok_int _ rfl _ _ 57 rfl 9 3 .i64 lawS Try.underlying57 Try.underlying3 (zeroI _) (w.heap.size + 1) j D rfl HO1.out _ _ rfl HKEY.out ?_; intro c hat hwc; rw [HH2.out]; clear hat hwc)
          go_ret2
          rw [HE.out.1, HE.out.2, HT.out]
          exact ⟨rfl, HX.out⟩
      · obtain rfl : j = n := by omega
        have HZA := Lib.hid (show ∀ t, t < ts.length → tpE ts t = 0 from fun t ht => HZ.out t (by rw [HN.out] at ht; exact ht))
        have HPK := Lib.hid (pok_of HZA.out)
        go_wp2_with fail
        go_loopw [54] (fun i wr => ∃ k : Nat, k ≤ j ∧ i = .int .i64 k ∧ Hid (∀ t, t < k → rfE ts t = 0) ∧ Hid (Below w0.heap.size w0 wr)) (fun i _ => j - (intOf i).toNat)
        case atStart => exact ⟨0, Nat.zero_le _, rfl, fun t ht => absurd ht (by omega), HW0r.out⟩
        case round =>
          clear HW HW0r hws hws0 hom cB HO HM
          obtain ⟨k, hk, rfl, HR0, HW0r⟩ := hrel
          have HW := Lib.hid (L0.out.trans (HW0r.out.mono (by rw [SS.out]; omega)))
          have hws := HW0r.out.size
          have hws0 : w.heap.size + 1 ≤ wr.heap.size := by rw [← SS.out]; exact hws
          by_cases hlt : k < j
          · obtain ⟨b, o, t, FA, fk, fc, rfl, hu, hnm, hb, c0, c1, c2, c3, hf⟩ := H.out.at k hlt
            have hji : (k : Int) < (j : Int) := by omega
            obtain ⟨tn, tv, tr, fs⟩ := t
            simp only at c0 c1 c2 hf hnm
            replace c0 := (HW.out.cell (p := ⟨b, o + k * 4, none⟩) hb).trans c0
            replace c1 := (HW.out.cell (p := ⟨b, o + k * 4 + 1, none⟩) hb).trans c1
            replace c2 := (HW.out.cell (p := ⟨b, o + k * 4 + 2, none⟩) hb).trans c2
            replace c3 := (HW.out.cell (p := ⟨b, o + k * 4 + 3, none⟩) hb).trans c3
            obtain ⟨w1, hw1⟩ : ∃ w1, w1 = wr.alloc (Obj.cells #[.string tn, .bool tv, .bool tr, .slice FA fk fc] 32) := ⟨_, rfl⟩
            have L1 := Lib.hid (show Below w0.heap.size w0 w1 by rw [hw1]; exact HW0r.out.alloc hws _)
            have HX := Lib.hid (L0.out.trans (L1.out.mono (by rw [SS.out]; omega)))
            have cB := (B0.out.below L1.out (by rw [SS.out]; omega)).cell 0
            simp at cB
            rw [hw1] at cB
            have HW1 := Lib.hid hw1
            clear hw1
            have HRF := Lib.hid (show rfE ts k = if (tr && reach ts k) = true then 7 else 0 by unfold rfE; rw [hu.out])
            cases tr
            · have HRZ := Lib.hid (show rfE ts k = 0 by rw [HRF.out]; rfl)
              go_wp2_with fail
              go_roundw
              case rel =>
                refine ⟨k + 1, by omega, by go_num, ?_, by rw [← HW1.out]; exact L1.out⟩
                intro t ht
                rcases Nat.lt_or_ge t k with h1 | h1
                · exact HR0.out t h1
                · obtain rfl : t = k := by omega
                  exact HRZ.out
              case measure => simp [intOf]; omega
            · cases hr : reach ts k
              · have HR := Lib.hid hr
                have HRZ := Lib.hid (show rfE ts k = 0 by rw [HRF.out, hr]; rfl)
                clear hr
                go_wp2_with (go_at_call 25; rw [← HW1.out]; refine (reaches_any _ j cap ts (H.out.below HX.out (Nat.le_refl _)) k hlt hn HPK.out).mono ?_; rintro e w2 ⟨rfl, hb2⟩; rw [HR.out]; have X2 := Lib.hid (L1.out.trans (hb2.mono L1.out.size)); clear hb2)
                go_roundw
                case rel =>
                  refine ⟨k + 1, by omega, by go_num, ?_, X2.out⟩
                  intro t ht
                  rcases Nat.lt_or_ge t k with h1 | h1
                  · exact HR0.out t h1
                  · obtain rfl : t = k := by omega
                    exact HRZ.out
                case measure => simp [intOf]; omega
              · have HR := Lib.hid hr
                obtain ⟨e1, e2⟩ := ck_two HB.out HZA.out (by rw [HN.out]; exact hlt) HR0.out (by rw [HRF.out, hr]; decide)
                have HE := Lib.hid (And.intro e1 e2)
                clear hr e1 e2
                go_wp2_with (go_at_call 25; rw [← HW1.out]; refine (reaches_any _ j cap ts (H.out.below HX.out (Nat.le_refl _)) k hlt hn HPK.out).mono ?_; rintro e w2 ⟨rfl, hb2⟩; rw [HR.out]; have X2 := Lib.hid (L1.out.trans (hb2.mono L1.out.size)); clear hb2)
                go_ret2
                rw [HE.out.1, HE.out.2]
                exact ⟨rfl, L0.out.trans (X2.out.mono (by rw [SS.out]; omega))⟩
          · obtain rfl : k = j := by omega
            obtain ⟨e1, e2⟩ := ck_ok HB.out HZA.out (fun t ht => HR0.out t (by rw [HN.out] at ht; exact ht))
            have HE := Lib.hid (And.intro e1 e2)
            clear e1 e2
            go_wp2_with fail
            go_ret2
            rw [HE.out.1, HE.out.2]
            exact ⟨rfl, HW.out⟩
end
end Go.Proofs.Ytnkjlocjfljjlaa
