/- InsnBack's walk. Conditions: the tables lie in their blocks; the instructions and the bytes can be read. -/
import Derived.Test.YtcedjjolikmbbaaDoorIBytesM
import Derived.Test.YtcedjjolikmbbaaDoorIShown
import Derived.Test.YtcedjjolikmbbaaDoorISame
import Derived.Test.YtcedjjolikmbbaaDoorIStr
import Derived.Deep.RegionHeld
import Derived.Deep.CutRange
import Derived.Test.YtcedjjolikmbbaaDoorIApart
namespace Go.Proofs.YtcedjjolikmbbaaDoor
open Go.RowKit
set_option maxRecDepth 100000
set_option maxHeartbeats 1000000

def allB (l : List In) : Bool := l.all fun i => decide (ck i = 0)
theorem all_snoc {l : List In} {j : Nat} {f : In} (h : l[j]? = some f) : allB (l.take (j + 1)) = (allB (l.take j) && decide (ck f = 0)) := by
  rw [take_snoc h]
  simp [allB]
theorem allB_true {l : List In} (h : allB l = true) : ∀ i ∈ l, ck i = 0 := by
  intro i hi
  have := List.all_eq_true.1 h i hi
  simpa using this
theorem allB_false {l : List In} (h : allB l = false) : fe1 l ≠ 0 := by
  intro e
  have : allB l = true := List.all_eq_true.2 fun i hi => by simpa using fe1_all e i hi
  rw [h] at this
  cases this
theorem tx_len {i : In} (h : i.ok) : (tx i).length ≤ 1000 := by
  unfold tx
  split
  · rw [txL_jn]
    have hj : ∀ (l : List (List UInt8)), (∀ w ∈ l, w.length ≤ 40) → (jn l).length ≤ 41 * l.length := by
      intro l
      induction l with
      | nil => intro _; simp [jn]
      | cons w t ih =>
        intro hl
        have hw := hl w (List.mem_cons_self ..)
        have := ih fun x hx => hl x (List.mem_cons_of_mem _ hx)
        cases t with
        | nil => simp [jn]; omega
        | cons v t => simp only [jn, List.length_append, List.length_cons] at this ⊢; omega
    have hw : ∀ (r : List (Nat × Nat)), (tws i r).length ≤ r.length ∧ ∀ w ∈ tws i r, w.length ≤ 40 := by
      intro r
      induction r with
      | nil => simp [tws]
      | cons o r ih =>
        unfold tws
        split
        · refine ⟨by simp only [List.length_cons]; omega, fun w hw => ?_⟩
          rcases List.mem_cons.1 hw with rfl | hw
          · have := wd_len o.2 (opAt i o.1) (opAt_lt h _)
            omega
          · exact ih.2 w hw
        · exact ⟨by simp only [List.length_cons]; omega, ih.2⟩
    have hr : (rowN i.op).length ≤ 4 := by
      unfold rowN
      rw [List.getD_eq_getElem?_getD]
      rcases e : rowsN[i.op]? with _ | r
      · simp
      · have : ∀ r ∈ rowsN, r.length ≤ 4 := by decide
        exact this r (List.mem_of_getElem? e)
    obtain ⟨h1, h2⟩ := hw (rowN i.op)
    have := hj (fw i :: tws i (rowN i.op)) (fun w hwm => by
      rcases List.mem_cons.1 hwm with rfl | hwm
      · exact fw_len i
      · exact h2 w hwm)
    simp only [List.length_cons] at this
    omega
  · simp
section
variable {w : World}
theorem back_walk (A : Option Addr) (k c : Nat) (l : List In) (B : Option Addr) (n d : Nat) (bs : List Nat) (h : Ri w A k c l) (hk : k ≤ 17592186043904) (g : Rd w B n d bs) (T : Hid (Tabs w)) :
    Calls Tryd.prog 6 #[.slice A k c, .slice B n d] w fun e w' => e = .returned (.bool true) ∧ Below w.heap.size w w' := by
  have hl := h.len
  have hmx := h.max
  have hle := h.le
  have R0 := Lib.hid h
  have G0 := Lib.hid g
  have HLN := Lib.hid hl
  have LOK := Lib.hid h.ok
  have BYL := Lib.hid (byI_byt h.ok)
  have PEL := Lib.hid (paE_byI h.ok)
  have DIB := Lib.hid (dI_byI h.ok)
  clear hl h g
  go_enter Tryd.func6, Tryd.ntmps6
  go_wp2_with (go_at_call 10; (with_reducible refine (shown_any T).mono ?_); rintro e w1 ⟨rfl, hb1⟩; have X1 := Lib.hid hb1; clear hb1)
  go_loopw [6, 7] (fun v q wr => ∃ j : Nat, j ≤ k ∧ v = .bool (allB (l.take j)) ∧ q = .int .i64 j ∧ Hid (Below w.heap.size w wr)) (fun _ q _ => k - (intOf q).toNat)
  case atStart => exact ⟨0, by omega, rfl, rfl, X1.out⟩
  case round =>
    clear X1
    obtain ⟨j, hj, rfl, rfl, HW⟩ := hrel
    by_cases hjk : j < k
    · have hjk' : (j : Int) < k := by omega
      have wj : IntKind.i64.wrap ((j : Int) + 1) = ((j + 1 : Nat) : Int) := by rw [show (j : Int) + 1 = ((j + 1 : Nat) : Int) by omega]; exact w64 _ (by omega)
      obtain ⟨b, o, f, rfl, HF, hok, hb, c0, c1, c2, c3, c4⟩ := (R0.out.below HW.out (Nat.le_refl _)).at j hjk
      have HOK := Lib.hid hok
      have HS := Lib.hid (all_snoc HF.out)
      have TX := Lib.hid (fun (W : World) (T : Hid (Tabs W)) => text_any T f hok)
      have CK := Lib.hid (fun (W : World) (T : Hid (Tabs W)) => check_any T f hok)
      have RDT := Lib.hid (fun (h0 : ck f = 0) (W : World) (T : Hid (Tabs W)) => (read_any T (tx f) (by have := tx_len hok; omega)))
      have RDV := Lib.hid (fun (h0 : ck f = 0) => rd_tx hok h0)
      have TW := Lib.hid (T.out.out HW.out)
      have CL := Lib.hid (fun (W : World) (hb2 : Below wr.heap.size wr W) => And.intro ((hb2.cell (p := ⟨b, o + j * 5, none⟩) hb).trans c0) (And.intro ((hb2.cell (p := ⟨b, o + j * 5 + 1, none⟩) hb).trans c1) (And.intro ((hb2.cell (p := ⟨b, o + j * 5 + 2, none⟩) hb).trans c2) (And.intro ((hb2.cell (p := ⟨b, o + j * 5 + 3, none⟩) hb).trans c3) ((hb2.cell (p := ⟨b, o + j * 5 + 4, none⟩) hb).trans c4)))))
      have hws := HW.out.size
      obtain ⟨al, hal⟩ : ∃ al, allB (l.take j) = al := ⟨_, rfl⟩
      rw [hal] at HS ⊢
      clear hal hok
      unfold sv at RDT
      by_cases h0 : ck f = 0
      · have RDE := RDV.out h0
        have RD := Lib.hid (RDT.out h0)
        rw [show rdV (tx f) = f by unfold rdV; rw [RDE]; rfl, show rdE (tx f) = 0 by unfold rdE; rw [RDE]; rfl] at RD
        rw [h0] at TX CK
        have HS2 := Lib.hid (show allB (l.take (j + 1)) = al by rw [HS.out, h0]; simp)
        obtain ⟨S, hS⟩ : ∃ S, tx f = S := ⟨_, rfl⟩
        rw [hS] at TX RD
        clear RDE RDT RDV hS h0
        obtain ⟨op, a, b', c', im⟩ := f
        simp only [iv] at TX CK RD
        simp only at c0 c1 c2 c3 c4
        simp only at CL
        cases al
        · go_wp2_with (go_at_call 11; (with_reducible refine (TX.out _ TW).mono ?_); rintro e w2 ⟨rfl, hb2⟩; have M2 := Lib.hid hb2; have X2 := Lib.hid (HW.out.trans (hb2.mono hws)); have T2 := Lib.hid (T.out.out X2.out); clear c0 c1 c2 c3 c4; obtain ⟨c0, c1, c2, c3, c4⟩ := CL.out _ hb2; clear hb2; unfold sv)
          go_wp2_with (go_at_call 13; (with_reducible refine (CK.out _ T2).mono ?_); rintro e w3 ⟨rfl, hb2⟩; have M3 := Lib.hid (M2.out.trans (hb2.mono M2.out.size)); have X3 := Lib.hid (X2.out.trans (hb2.mono X2.out.size)); have T3 := Lib.hid (T.out.out X3.out); clear c0 c1 c2 c3 c4; obtain ⟨c0, c1, c2, c3, c4⟩ := CL.out _ M3.out; clear hb2)
          go_wp2_with (go_at_call 15; (with_reducible refine (RD.out _ T3).mono ?_); rintro e w8 ⟨rfl, hb2⟩; have M8 := Lib.hid (M3.out.trans (hb2.mono M3.out.size)); have X8 := Lib.hid (X3.out.trans (hb2.mono X3.out.size)); obtain ⟨w9, hw9⟩ : ∃ w9, w9 = w8.alloc (Obj.cells #[.int .u8 (op : Int), .int .u8 (a : Int), .int .u8 (b' : Int), .int .u8 (c' : Int), .int .u32 (im : Int)] 24) := ⟨_, rfl⟩; have X9 := Lib.hid (show Below w.heap.size w w9 by rw [hw9]; exact X8.out.alloc X8.out.size _); have M9 := Lib.hid (show Below wr.heap.size wr w9 by rw [hw9]; exact M8.out.alloc M8.out.size _); have K9 := Lib.hid (show Blk w9 w8.heap.size 24 #[.int .u8 (op : Int), .int .u8 (a : Int), .int .u8 (b' : Int), .int .u8 (c' : Int), .int .u32 (im : Int)] by rw [hw9]; exact Blk.new _ _ _); have HW9 := Lib.hid hw9; clear hb2 hw9 c0 c1 c2 c3 c4)
          rw [← HW9.out]
          obtain ⟨c0, c1, c2, c3, c4⟩ := CL.out _ M9.out
          obtain ⟨q0, q1, q2, q3, q4, -⟩ := ten K9.out
          go_quiet (fail)
          go_wp2_with fail
          go_roundw
          case rel => exact ⟨j + 1, by omega, by rw [HS2.out], by go_num, by first | exact X9.out.drew | exact bel_drewN X9.out _⟩
          case measure => simp [intOf]; omega
        · go_wp2_with (go_at_call 11; (with_reducible refine (TX.out _ TW).mono ?_); rintro e w2 ⟨rfl, hb2⟩; have M2 := Lib.hid hb2; have X2 := Lib.hid (HW.out.trans (hb2.mono hws)); have T2 := Lib.hid (T.out.out X2.out); clear c0 c1 c2 c3 c4; obtain ⟨c0, c1, c2, c3, c4⟩ := CL.out _ hb2; clear hb2; unfold sv)
          go_wp2_with (go_at_call 13; (with_reducible refine (CK.out _ T2).mono ?_); rintro e w3 ⟨rfl, hb2⟩; have M3 := Lib.hid (M2.out.trans (hb2.mono M2.out.size)); have X3 := Lib.hid (X2.out.trans (hb2.mono X2.out.size)); have T3 := Lib.hid (T.out.out X3.out); clear c0 c1 c2 c3 c4; obtain ⟨c0, c1, c2, c3, c4⟩ := CL.out _ M3.out; clear hb2)
          go_wp2_with (go_at_call 13; (with_reducible refine (CK.out _ T3).mono ?_); rintro e w4 ⟨rfl, hb2⟩; have M4 := Lib.hid (M3.out.trans (hb2.mono M3.out.size)); have X4 := Lib.hid (X3.out.trans (hb2.mono X3.out.size)); have T4 := Lib.hid (T.out.out X4.out); clear c0 c1 c2 c3 c4; obtain ⟨c0, c1, c2, c3, c4⟩ := CL.out _ M4.out; clear hb2)
          go_wp2_with (go_at_call 15; (with_reducible refine (RD.out _ T4).mono ?_); rintro e w8 ⟨rfl, hb2⟩; have M8 := Lib.hid (M4.out.trans (hb2.mono M4.out.size)); have X8 := Lib.hid (X4.out.trans (hb2.mono X4.out.size)); obtain ⟨w9, hw9⟩ : ∃ w9, w9 = w8.alloc (Obj.cells #[.int .u8 (op : Int), .int .u8 (a : Int), .int .u8 (b' : Int), .int .u8 (c' : Int), .int .u32 (im : Int)] 24) := ⟨_, rfl⟩; have X9 := Lib.hid (show Below w.heap.size w w9 by rw [hw9]; exact X8.out.alloc X8.out.size _); have M9 := Lib.hid (show Below wr.heap.size wr w9 by rw [hw9]; exact M8.out.alloc M8.out.size _); have K9 := Lib.hid (show Blk w9 w8.heap.size 24 #[.int .u8 (op : Int), .int .u8 (a : Int), .int .u8 (b' : Int), .int .u8 (c' : Int), .int .u32 (im : Int)] by rw [hw9]; exact Blk.new _ _ _); have HW9 := Lib.hid hw9; clear hb2 hw9 c0 c1 c2 c3 c4)
          rw [← HW9.out]
          obtain ⟨c0, c1, c2, c3, c4⟩ := CL.out _ M9.out
          obtain ⟨q0, q1, q2, q3, q4, -⟩ := ten K9.out
          go_quiet (fail)
          go_wp2_with fail
          go_roundw
          case rel => exact ⟨j + 1, by omega, by rw [HS2.out], by go_num, by first | exact X9.out.drew | exact bel_drewN X9.out _⟩
          case measure => simp [intOf]; omega
      · have h1 := ck_le f
        have hE0 : tx f = [] := by unfold tx; rw [if_neg h0]
        have HS2 := Lib.hid (show allB (l.take (j + 1)) = false by rw [HS.out]; simp [h0])
        rw [hE0] at TX
        obtain ⟨E, hE⟩ : ∃ E, ck f = E := ⟨_, rfl⟩
        rw [hE] at TX CK h0 h1
        have n0 : ((E : Int) == 0) = false := by simp; omega
        clear hE0 RDT RDV hE h0 h1
        obtain ⟨op, a, b', c', im⟩ := f
        simp only [iv] at TX CK
        simp only at c0 c1 c2 c3 c4
        simp only at CL
        cases al
        · go_wp2_with (go_at_call 11; (with_reducible refine (TX.out _ TW).mono ?_); rintro e w2 ⟨rfl, hb2⟩; have M2 := Lib.hid hb2; have X2 := Lib.hid (HW.out.trans (hb2.mono hws)); have T2 := Lib.hid (T.out.out X2.out); clear c0 c1 c2 c3 c4; obtain ⟨c0, c1, c2, c3, c4⟩ := CL.out _ hb2; clear hb2; unfold sv)
          go_wp2_with (go_at_call 13; (with_reducible refine (CK.out _ T2).mono ?_); rintro e w3 ⟨rfl, hb2⟩; have M3 := Lib.hid (M2.out.trans (hb2.mono M2.out.size)); have X3 := Lib.hid (X2.out.trans (hb2.mono X2.out.size)); have T3 := Lib.hid (T.out.out X3.out); clear c0 c1 c2 c3 c4; obtain ⟨c0, c1, c2, c3, c4⟩ := CL.out _ M3.out; clear hb2)
          go_roundw
          case rel => exact ⟨j + 1, by omega, by rw [HS2.out], by go_num, X3.out⟩
          case measure => simp [intOf]; omega
        · go_wp2_with (go_at_call 11; (with_reducible refine (TX.out _ TW).mono ?_); rintro e w2 ⟨rfl, hb2⟩; have M2 := Lib.hid hb2; have X2 := Lib.hid (HW.out.trans (hb2.mono hws)); have T2 := Lib.hid (T.out.out X2.out); clear c0 c1 c2 c3 c4; obtain ⟨c0, c1, c2, c3, c4⟩ := CL.out _ hb2; clear hb2; unfold sv)
          go_wp2_with (go_at_call 13; (with_reducible refine (CK.out _ T2).mono ?_); rintro e w3 ⟨rfl, hb2⟩; have M3 := Lib.hid (M2.out.trans (hb2.mono M2.out.size)); have X3 := Lib.hid (X2.out.trans (hb2.mono X2.out.size)); have T3 := Lib.hid (T.out.out X3.out); clear c0 c1 c2 c3 c4; obtain ⟨c0, c1, c2, c3, c4⟩ := CL.out _ M3.out; clear hb2)
          go_wp2_with (go_at_call 13; (with_reducible refine (CK.out _ T3).mono ?_); rintro e w4 ⟨rfl, hb2⟩; have M4 := Lib.hid (M3.out.trans (hb2.mono M3.out.size)); have X4 := Lib.hid (X3.out.trans (hb2.mono X3.out.size)); have T4 := Lib.hid (T.out.out X4.out); clear c0 c1 c2 c3 c4; obtain ⟨c0, c1, c2, c3, c4⟩ := CL.out _ M4.out; clear hb2)
          go_roundw
          case rel => exact ⟨j + 1, by omega, by rw [HS2.out], by go_num, X4.out⟩
          case measure => simp [intOf]; omega
    · obtain rfl : j = k := by omega
      have HTK : l.take j = l := List.take_of_length_le (by rw [HLN.out]; omega)
      obtain ⟨al, hal⟩ : ∃ al, allB (l.take j) = al := ⟨_, rfl⟩
      rw [hal]
      rw [HTK] at hal
      have HAL := Lib.hid hal
      obtain ⟨E1, hE1⟩ : ∃ E1, paE (byI l) = E1 := ⟨_, rfl⟩
      have HE1 := Lib.hid hE1
      have hPE := PEL.out
      rw [hE1, HLN.out] at hPE
      have HPE := Lib.hid hPE
      have HPL := Lib.hid (show paL (byI l) = if E1 = 0 then l else [] by unfold paL; rw [hE1, DIB.out])
      have RW := Lib.hid (R0.out.below HW.out (Nat.le_refl _))
      have POK := Lib.hid (paL_ok BYL.out)
      have hws := HW.out.size
      have PE2 := Lib.hid (show paE bs = 0 → byI (paL bs) = bs from fun h0 => paL_back G0.out.byt h0)
      have PO2 := Lib.hid (paL_ok G0.out.byt)
      have PB2 := Lib.hid (byI_byt PO2.out)
      have PN2 := Lib.hid (show paE bs ≠ 0 → paL bs = [] from fun h0 => by unfold paL; rw [if_neg h0])
      clear hal HTK hE1 hPE
      go_upto_region 15 with (first
        | (go_at_call 20; (with_reducible refine (bytes6_any _ _ _ _ RW.out hk).mono ?_); rintro e w2 ⟨v2, rfl, ho2, hb2⟩; obtain ⟨A2, k2, c2, rfl, hr2⟩ := ho2.form BYL.out; have R2 := Lib.hid hr2; have X2 := Lib.hid (HW.out.trans (hb2.mono hws)); have T2 := Lib.hid (T.out.out X2.out); clear ho2 hr2 hb2)
        | (go_at_call 17; (with_reducible refine (parse6_any T2 _ _ _ _ R2.out).mono ?_); rintro e w3 ⟨v3, rfl, ho3, hb3⟩; rw [HE1.out]; obtain ⟨A3, k3, c3, rfl, hr3⟩ := ho3.form POK.out; have R3 := Lib.hid hr3; have X3 := Lib.hid (X2.out.trans (hb3.mono X2.out.size)); clear ho3 hr3 hb3))
      rw [HPL.out] at R3
      go_cut [93] from 70 to 92 (fun v wx => v = .bool false ∧ Hid (Below w.heap.size w wx))
      case first =>
        cases al
        · have hne : E1 ≠ 0 := by
            have := HPE.out
            have := allB_false HAL.out
            rw [HPE.out]
            split
            · omega
            · exact this
          have n0 : ((E1 : Int) == 0) = false := by simp; omega
          clear hne
          go_wp2_with fail
          go_meet
          exact ⟨rfl, X3.out⟩
        · have hz : fe1 l = 0 := fe1_zero (allB_true HAL.out)
          by_cases h128 : j ≤ 128
          · have h128' : (j : Int) ≤ 128 := by omega
            have hE0 : E1 = 0 := by rw [HPE.out, if_neg (by omega), hz]
            subst hE0
            rw [if_pos rfl] at R3
            have hk3 := R3.out.len
            rw [HLN.out] at hk3
            subst hk3
            have RL := Lib.hid (R0.out.below X3.out (Nat.le_refl _))
            have SM := Lib.hid (same6_any _ _ _ _ _ l R3.out RL.out)
            clear hz
            go_wp2_with (go_at_call 19; (with_reducible refine SM.out.mono ?_); rintro e w4 ⟨rfl, hb4⟩; have X4 := Lib.hid (X3.out.trans (hb4.mono X3.out.size)); clear hb4)
            go_meet
            exact ⟨rfl, X4.out⟩
          · have h128' : ¬ (j : Int) ≤ 128 := by omega
            clear hz h128
            go_wp2_with fail
            go_meet
            exact ⟨rfl, X3.out⟩
      case rest =>
      obtain ⟨rfl, HC⟩ := hcut
      clear R3 X3
      have TC := Lib.hid (T.out.out HC.out)
      have GC := Lib.hid (G0.out.below HC.out (Nat.le_refl _))
      obtain ⟨E2, hE2⟩ : ∃ E2, paE bs = E2 := ⟨_, rfl⟩
      rw [hE2] at PE2 PN2
      have HE2 := Lib.hid hE2
      clear hE2
      by_cases h0 : E2 = 0
      · subst h0
        have hbk := PE2.out rfl
        have HBK := Lib.hid hbk
        clear hbk
        go_upto_region 20 with (go_at_call 17; (with_reducible refine (parse6_any TC _ _ _ _ GC.out).mono ?_); rintro e w5 ⟨v5, rfl, ho5, hb5⟩; rw [HE2.out]; obtain ⟨A5, k5, c5, rfl, hr5⟩ := ho5.form PO2.out; have R5 := Lib.hid hr5; have X5 := Lib.hid (HC.out.trans (hb5.mono HC.out.size)); clear ho5 hr5 hb5)
        have hk5 : k5 ≤ 128 := by
          have h1 := R5.out.len
          have h2 := HE2.out
          unfold paE at h2
          split at h2
          · omega
          · split at h2
            · omega
            · rename_i h3 h4
              unfold paL at h1
              rw [if_pos HE2.out, dI_len] at h1
              omega
        have G5 := Lib.hid (G0.out.below X5.out (Nat.le_refl _))
        have Y5 := Lib.hid (show Below w.heap.size w w5.drew from X5.out.drew)
        have C5 : (convert 40 9 (.slice B n d)).run Tryd.prog w5.drew = .ok (.string (sb bs)) w5.drew := run_strA (G0.out.below Y5.out (Nat.le_refl _))
        have R5d := Lib.hid (R5.out.below (show Below w5.heap.size w5 w5.drew from (Below.refl _ _).drew) (Nat.le_refl _))
        go_region_held (fun w' => Hid (Below w.heap.size w w') ∧ (convert 40 9 (.slice B n d)).run Tryd.prog w' = .ok (.string (sb bs)) w') (first | exact ⟨Y5, C5⟩ | exact ⟨Y6, C6⟩) (first
          | (go_at_call 20; (with_reducible refine (bytes6_any _ _ _ _ R5d.out (by omega)).mono ?_); rintro e w6 ⟨v6, rfl, ho6, hb6⟩; obtain ⟨A6, k6, c6, rfl, hr6⟩ := ho6.form PB2.out; rw [HBK.out] at hr6; have S6 := run_strA hr6; have Y6 := Lib.hid (Y5.out.trans (hb6.mono Y5.out.size)); have C6 := run_strA (G0.out.below Y6.out (Nat.le_refl _)); clear ho6 hr6 hb6))
        go_wp2_with fail
        go_ret
        exact ⟨rfl, Y6.out⟩
      · have hne : ¬ (E2 : Int) = 0 := by omega
        have hpl := PN2.out h0
        go_wp2_with (go_at_call 17; (with_reducible refine (parse6_any TC _ _ _ _ GC.out).mono ?_); rintro e w5 ⟨v5, rfl, ho5, hb5⟩; rw [HE2.out]; obtain ⟨A5, k5, c5, rfl, hr5⟩ := ho5.form PO2.out; have hk5 := hr5.len; rw [hpl] at hk5; obtain rfl : k5 = 0 := hk5.symm; have X5 := Lib.hid (HC.out.trans (hb5.mono HC.out.size)); clear ho5 hr5 hb5 hk5)
        go_ret
        exact ⟨rfl, X5.out⟩
end
end Go.Proofs.YtcedjjolikmbbaaDoor
