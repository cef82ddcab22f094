/- The contract of the document's Check. No condition. -/
import Derived.Test.YtcedjjolikmbbaaDoorJSmall
import Derived.Test.YtcedjjolikmbbaaDoorICheck
import Derived.Test.YtcedjjolikmbbaaDoorISame
import Derived.Deep.RegionHeld
namespace Go.Proofs.YtcedjjolikmbbaaDoor
open Go.RowKit
set_option maxRecDepth 100000
set_option maxHeartbeats 2000000

/-- An instruction's five cells. -/
abbrev S5 (w1 : World) (b : Nat) (v0 v1 v2 v3 v4 : Value) : Prop := w1.cell? ⟨b, 0, none⟩ = some v0 ∧ w1.cell? ⟨b, 1, none⟩ = some v1 ∧ w1.cell? ⟨b, 2, none⟩ = some v2 ∧ w1.cell? ⟨b, 3, none⟩ = some v3 ∧ w1.cell? ⟨b, 4, none⟩ = some v4
theorem fiveB {w : World} {b : Nat} {t : TypeId} {v0 v1 v2 v3 v4 : Value} (h : Blk w b t #[v0, v1, v2, v3, v4]) : S5 w b v0 v1 v2 v3 v4 :=
  ⟨h.cell 0, h.cell 1, h.cell 2, h.cell 3, h.cell 4⟩
theorem rck_lt {i : In} (h : i.op < 1 ∨ 15 < i.op) : rck i = 3 := by unfold rck; rw [if_pos h]
theorem rck_no {i : In} (h1 : 1 ≤ i.op) (h2 : i.op ≤ 15) {j : Nat} {p : UInt8 × UInt8} (hp : (nmN i.op)[j]? = some p) (hf : rfits i p = false) : rck i = 4 := by
  unfold rck
  rw [if_neg (by omega), if_neg]
  intro h
  rw [List.all_eq_true] at h
  have := h p (List.mem_of_getElem? hp)
  rw [hf] at this
  cases this
theorem rck_all {i : In} (h1 : 1 ≤ i.op) (h2 : i.op ≤ 15) (h : ∀ (j : Nat) p, (nmN i.op)[j]? = some p → rfits i p = true) : rck i = if abci.any (rbad i) = true then 1 else 0 := by
  unfold rck
  rw [if_neg (by omega), if_pos]
  rw [List.all_eq_true]
  intro p hp
  obtain ⟨j, hj⟩ := List.mem_iff_getElem?.1 hp
  exact h j p hj
/-- Is a letter among the first j? -/
def rinU (l : List (UInt8 × UInt8)) (c : UInt8) (j : Nat) : Bool := (l.take j).any fun p => p.1 == c
theorem rinU_succ {l : List (UInt8 × UInt8)} {j : Nat} {p : UInt8 × UInt8} (h : l[j]? = some p) (c : UInt8) : rinU l c (j + 1) = (rinU l c j || (p.1 == c)) := by
  unfold rinU
  rw [List.take_add_one, h]
  simp
theorem rinU_all (i : In) (c : UInt8) {j : Nat} (h : (nmN i.op).length ≤ j) : rinU (nmN i.op) c j = rin i c := by
  unfold rinU rin
  rw [List.take_of_length_le h]
theorem u8eq (a b : UInt8) : ((a.toNat : Int) == (b.toNat : Int)) = (a == b) := by
  by_cases h : a = b
  · subst h; rw [beq_self_eq_true, beq_self_eq_true]
  · have : ¬ (a.toNat : Int) = (b.toNat : Int) := fun e => h (UInt8.toNat_inj.1 (by omega))
    rw [beq_eq_false_iff_ne.2 this, beq_eq_false_iff_ne.2 h]
theorem rvl_lt {i : In} (h : i.ok) (c : UInt8) : rvl i c < 4294967296 := by
  obtain ⟨_, _, _, _, _⟩ := h
  unfold rvl
  (repeat' split) <;> omega
section
variable {w : World}
theorem rcheck6_any (i : In) (hi : i.ok) : Calls Tryd.prog 14 #[iv i] w fun e w' => e = .returned (.int .i64 (rck i : Int)) ∧ Below w.heap.size w w' := by
  have HI := Lib.hid hi
  obtain ⟨op, a, b, c, im⟩ := i
  obtain ⟨hop, ha, hb, hc, him⟩ := hi
  simp only at hop ha hb hc him
  have wo := w64 op (by omega)
  by_cases h1 : op < 1
  · have HL := Lib.hid (rck_lt (i := ⟨op, a, b, c, im⟩) (.inl h1))
    have g1 : decide ((op : Int) < 1) = true := by simp; omega
    unfold iv
    go_enter Tryd.func14, Tryd.ntmps14
    go_wp2_with fail
    go_ret
    rw [HL.out]
    refine ⟨rfl, ?_⟩
    go_grown
  by_cases h2 : 15 < op
  · have HL := Lib.hid (rck_lt (i := ⟨op, a, b, c, im⟩) (.inr h2))
    have g1 : decide ((op : Int) < 1) = false := by simp; omega
    have g2 : decide (15 < (op : Int)) = true := by simp; omega
    unfold iv
    go_enter Tryd.func14, Tryd.ntmps14
    go_wp2_with fail
    go_ret
    rw [HL.out]
    refine ⟨rfl, ?_⟩
    go_grown
  have o1 : 1 ≤ op := by omega
  have o2 : op ≤ 15 := by omega
  have HNO := Lib.hid (fun j p => @rck_no ⟨op, a, b, c, im⟩ o1 o2 j p)
  have HALL := Lib.hid (@rck_all ⟨op, a, b, c, im⟩ o1 o2)
  have HRA := Lib.hid (fun c' j => @rinU_all ⟨op, a, b, c, im⟩ c' j)
  have HRS := Lib.hid (fun j p => @rinU_succ (nmN op) j p)
  have HFT := Lib.hid (fun p => show rfits ⟨op, a, b, c, im⟩ p = rfit (rvl ⟨op, a, b, c, im⟩ p.1) p.2 (woN op).length from rfl)
  have HPA := Lib.hid (fun W => @rparts_any W op o1 o2)
  have HWO := Lib.hid (fun W => @rwords_any W op o1 o2)
  obtain ⟨n1, n2, n3⟩ := nmN_len o1 o2
  have HN := Lib.hid (show fl (nmN op) = if 0 < (woN op).length ∧ op ≠ 14 then fl (paN op) ++ [67, 119] else fl (paN op) by unfold nmN; split; (· rw [fl_app]; rfl); (· rfl))
  have hps : (st (fl (paN op))).size ≤ 8 := by rw [st_size, fl_len]; omega
  have hns : (st (fl (nmN op))).size = 2 * (nmN op).length := by rw [st_size, fl_len]
  have HIX := Lib.hid (fun (j : Nat) p (h : (nmN op)[j]? = some p) W => show (Instr.index 9 (.string (st (fl (nmN op)))) (.int .i64 (2 * (j : Int)))).run Tryd.prog W = .ok (.int .u8 (p.1.toNat : Int)) W from run_ixs (k := 2 * j) (fl_at h).1 W)
  have HIY := Lib.hid (fun (j : Nat) p (h : (nmN op)[j]? = some p) W => show (Instr.index 9 (.string (st (fl (nmN op)))) (.int .i64 (2 * (j : Int) + 1))).run Tryd.prog W = .ok (.int .u8 (p.2.toNat : Int)) W from run_ixs (k := 2 * j + 1) (fl_at h).2 W)
  have hcat : (0 < (woN op).length ∧ op ≠ 14) → st (fl (paN op)) ++ ⟨#[67, 119]⟩ = st (fl (nmN op)) := fun h => by rw [HN.out, if_pos h]; exact st_app _ [67, 119]
  have hsame : ¬ (0 < (woN op).length ∧ op ≠ 14) → st (fl (paN op)) = st (fl (nmN op)) := fun h => by rw [HN.out, if_neg h]
  obtain ⟨NM, hNM⟩ : ∃ NM, nmN op = NM := ⟨_, rfl⟩
  obtain ⟨S, hS⟩ : ∃ S, st (fl (nmN op)) = S := ⟨_, rfl⟩
  obtain ⟨P, hP⟩ : ∃ P, st (fl (paN op)) = P := ⟨_, rfl⟩
  obtain ⟨m, hm⟩ : ∃ m, (woN op).length = m := ⟨_, rfl⟩
  unfold sv at HPA
  simp only [hS] at HIX HIY
  rw [hS] at hns hcat hsame
  rw [hP] at hps hcat hsame
  simp only [hNM] at HNO HALL HRA HRS n1 HIX HIY hns
  simp only [hP] at HPA
  rw [hm] at hcat hsame n3
  simp only [hm] at HFT HWO
  clear HN hNM hP hm n2 hS
  obtain ⟨L, hL⟩ : ∃ L, NM.length = L := ⟨_, rfl⟩
  rw [hL] at hns n1
  have HL := Lib.hid hL
  clear hL
  have g1 : decide ((op : Int) < 1) = false := by simp; omega
  have g2 : decide (15 < (op : Int)) = false := by simp; omega
  unfold iv
  obtain ⟨w0, hw0⟩ : ∃ w0, w0 = w.alloc (.cells #[.int .u8 (op : Int), .int .u8 (a : Int), .int .u8 (b : Int), .int .u8 (c : Int), .int .u32 (im : Int)] 24) := ⟨_, rfl⟩
  have X0 := Lib.hid (show Below w.heap.size w w0 by rw [hw0]; go_grown)
  have K0 := Lib.hid (show Blk w0 w.heap.size 24 #[.int .u8 (op : Int), .int .u8 (a : Int), .int .u8 (b : Int), .int .u8 (c : Int), .int .u32 (im : Int)] by rw [hw0]; exact Blk.new _ _ _)
  have HW0 := Lib.hid hw0
  clear hw0
  have hd : (∃ h : 0 < m ∧ op ≠ 14, P ++ ⟨#[67, 119]⟩ = S ∧ 0 < m ∧ ((op : Int) != 14) = true) ∨ (P = S ∧ ¬ 0 < m) ∨ (P = S ∧ ((op : Int) != 14) = false ∧ 0 < m) := by
    by_cases h0 : m = 0
    · exact .inr (.inl ⟨hsame (by omega), by omega⟩)
    · by_cases h14 : op = 14
      · exact .inr (.inr ⟨hsame (by omega), by simp; omega, by omega⟩)
      · exact .inl ⟨⟨by omega, h14⟩, hcat ⟨by omega, h14⟩, by omega, by simp; omega⟩
  clear hcat hsame hop h1 h2 ha hb hc him
  rcases hd with ⟨-, hcat, k1, k2⟩ | ⟨rfl, k1⟩ | ⟨rfl, k2, k1⟩
  all_goals
    go_enter Tryd.func14, Tryd.ntmps14
    go_wp2_with (go_at_call 26; rw [← HW0.out]; refine (HPA.out _).mono ?_; rintro e w1 ⟨rfl, rfl⟩)
    go_wp2_with (go_at_call 27; refine (HWO.out _).mono ?_; rintro e w1 ⟨A, n, rfl, rfl, -, hb1⟩; have X1 := Lib.hid (X0.out.trans (hb1.mono X0.out.size)); have K1 := Lib.hid (K0.out.below hb1 K0.out.lt); clear hb1)
    go_loopw [8] (fun q wr => ∃ j : Nat, j ≤ L ∧ q = .int .i64 (2 * (j : Int)) ∧ Hid (∀ (j' : Nat) p, j' < j → NM[j']? = some p → rfits ⟨op, a, b, c, im⟩ p = true) ∧ Hid (Blk wr w.heap.size 24 #[.int .u8 (op : Int), .int .u8 (a : Int), .int .u8 (b : Int), .int .u8 (c : Int), .int .u32 (im : Int)]) ∧ Hid (Below w.heap.size w wr)) (fun q _ => 2 * L - (intOf q).toNat)
    case atStart => exact ⟨0, by omega, rfl, Lib.hid (fun j' p h _ => absurd h (by omega)), K1, X1⟩
    case round =>
      obtain ⟨j, hj, rfl, HA, KW, HW⟩ := hrel
      have wj : IntKind.i64.wrap (2 * (j : Int) + 1) = 2 * (j : Int) + 1 := by rw [show 2 * (j : Int) + 1 = ((2 * j + 1 : Nat) : Int) by omega]; exact w64 _ (by omega)
      have wj2 : IntKind.i64.wrap (2 * (j : Int) + 2) = 2 * (j : Int) + 2 := by rw [show 2 * (j : Int) + 2 = ((2 * j + 2 : Nat) : Int) by omega]; exact w64 _ (by omega)
      by_cases hjk : j < L
      · obtain ⟨p, hp⟩ : ∃ p, NM[j]? = some p := ⟨_, List.getElem?_eq_getElem (by rw [HL.out]; exact hjk)⟩
        have ix := HIX.out j p hp
        have iy := HIY.out j p hp
        have HP := Lib.hid hp
        obtain ⟨q0, q1, q2, q3, q4⟩ := fiveB KW.out
        have SZ := Lib.hid HW.out.size
        obtain ⟨f, hf⟩ : ∃ f, rfits ⟨op, a, b, c, im⟩ p = f := ⟨_, rfl⟩
        have FT := Lib.hid ((HFT.out p).symm.trans hf)
        have HF := Lib.hid hf
        have hjk' : (j : Int) < L := by omega
        clear hp hf
        go_wp2_with fail
        have S0 := Lib.hid (fiveB (KW.out.below (Below.drew (Below.refl _ _)) KW.out.lt))
        go_region_held3 (fun w' => S5 w' w.heap.size (.int .u8 (op : Int)) (.int .u8 (a : Int)) (.int .u8 (b : Int)) (.int .u8 (c : Int)) (.int .u32 (im : Int))) (first | (with_reducible exact S0.out) | (with_reducible exact S2.out) | go_keep) (first
          | (go_at_call 28; (with_reducible refine (rvalue_any ⟨op, a, b, c, im⟩ HI.out p.1).mono ?_); rintro e w2 ⟨rfl, hb2⟩; have X2 := Lib.hid (HW.out.drew.trans (hb2.mono SZ.out)); have K2 := Lib.hid (KW.out.below ((Below.drew (Below.refl _ _)).trans hb2) KW.out.lt); have S2 := Lib.hid (fiveB K2.out); clear hb2)
          | (go_at_call 32; (with_reducible refine (rfits_any _ (rvl_lt HI.out p.1) p.2 _).mono ?_); rintro e w3 ⟨rfl, rfl⟩; rw [FT.out]))
        all_goals
          cases f
          · go_wp2_with fail
            go_ret
            rw [HNO.out j p HP.out HF.out]
            exact ⟨rfl, X2.out⟩
          · go_wp2_with fail
            go_roundw
            case rel =>
              refine ⟨j + 1, by omega, by go_num, Lib.hid (fun j' p' h' hp' => ?_), K2, X2⟩
              by_cases e : j' = j
              · subst e
                rw [HP.out] at hp'
                injection hp' with hp'
                rw [← hp']
                exact HF.out
              · exact HA.out j' p' (by omega) hp'
            case measure => simp [intOf]; omega
      · obtain rfl : j = L := by omega
        have HC := Lib.hid (HALL.out (fun j' p hp => HA.out j' p (by have := (List.getElem?_eq_some_iff.1 hp).1; rw [HL.out] at this; exact this) hp))
        go_wp2_with fail
        obtain ⟨AB, hAB⟩ : ∃ AB : ByteArray, AB = ⟨#[65, 66, 67, 73]⟩ := ⟨_, rfl⟩
        rw [← hAB]
        have HAX := Lib.hid (fun (k : Nat) C (h : abci[k]? = some C) W => show (Instr.index 9 (.string AB) (.int .i64 (k : Int))).run Tryd.prog W = .ok (.int .u8 (C.toNat : Int)) W by rw [hAB]; exact run_ixs h W)
        clear hAB
        go_loopw [10] (fun q wr => ∃ k : Nat, k ≤ 4 ∧ q = .int .i64 (k : Int) ∧ Hid (∀ (k' : Nat) C, k' < k → abci[k']? = some C → rbad ⟨op, a, b, c, im⟩ C = false) ∧ Hid (Blk wr w.heap.size 24 #[.int .u8 (op : Int), .int .u8 (a : Int), .int .u8 (b : Int), .int .u8 (c : Int), .int .u32 (im : Int)]) ∧ Hid (Below w.heap.size w wr)) (fun q _ => 4 - (intOf q).toNat)
        case atStart => exact ⟨0, by omega, rfl, Lib.hid (fun j' p h _ => absurd h (by omega)), KW, HW⟩
        case round =>
          clear HW KW
          obtain ⟨k, hk, rfl, HB, KW, HW⟩ := hrel
          by_cases hk4 : k < 4
          · have hk4' : (k : Int) < 4 := by omega
            obtain ⟨C, hC⟩ : ∃ C, abci[k]? = some C := ⟨_, List.getElem?_eq_getElem hk4⟩
            have ax := HAX.out k C hC
            have HCk := Lib.hid hC
            have wk : IntKind.i64.wrap ((k : Int) + 1) = ((k + 1 : Nat) : Int) := by rw [show (k : Int) + 1 = ((k + 1 : Nat) : Int) by omega]; exact w64 _ (by omega)
            clear hC
            go_wp2_with fail
            go_loopw [11, 12] (fun qf qj wr' => ∃ i : Nat, i ≤ j ∧ qj = .int .i64 (2 * (i : Int)) ∧ qf = .bool (rinU NM C i) ∧ Hid (Blk wr' w.heap.size 24 #[.int .u8 (op : Int), .int .u8 (a : Int), .int .u8 (b : Int), .int .u8 (c : Int), .int .u32 (im : Int)]) ∧ Hid (Below w.heap.size w wr')) (fun _ qj _ => 2 * j - (intOf qj).toNat)
            case atStart => exact ⟨0, by omega, rfl, rfl, KW, HW⟩
            case round =>
              clear HW KW
              obtain ⟨i, hi, rfl, rfl, KW, HW⟩ := hrel
              have wi : IntKind.i64.wrap (2 * (i : Int) + 2) = 2 * (i : Int) + 2 := by rw [show 2 * (i : Int) + 2 = ((2 * i + 2 : Nat) : Int) by omega]; exact w64 _ (by omega)
              by_cases hij : i < j
              · have hij' : (i : Int) < j := by omega
                obtain ⟨p, hp⟩ : ∃ p, NM[i]? = some p := ⟨_, List.getElem?_eq_getElem (by rw [HL.out]; exact hij)⟩
                have ix := HIX.out i p hp
                have u8 := u8eq p.1 C
                have HS := Lib.hid (HRS.out i p hp C)
                obtain ⟨bb, hbb⟩ : ∃ bb, rinU NM C i = bb := ⟨_, rfl⟩
                rw [hbb] at HS ⊢
                clear hp hbb
                cases bb
                · go_wp2_with fail
                  go_quiet (fail)
                  go_wp2_with fail
                  go_roundw
                  case rel => exact ⟨i + 1, by omega, by go_num, by rw [HS.out, Bool.false_or], KW.out.below (bel_drewN (Below.refl _ _) _) KW.out.lt, bel_drewN HW.out _⟩
                  case measure => simp [intOf]; omega
                · go_wp2_with fail
                  go_quiet (fail)
                  go_wp2_with fail
                  go_roundw
                  case rel => exact ⟨i + 1, by omega, by go_num, by rw [HS.out, Bool.true_or], KW.out.below (bel_drewN (Below.refl _ _) _) KW.out.lt, bel_drewN HW.out _⟩
                  case measure => simp [intOf]; omega
              · obtain rfl : i = j := by omega
                have HR := Lib.hid (HRA.out C i (by rw [HL.out]; exact Nat.le_refl _))
                obtain ⟨bb, hbb⟩ : ∃ bb, rinU NM C i = bb := ⟨_, rfl⟩
                rw [hbb] at HR ⊢
                clear hbb
                have HBn := Lib.hid (fun (h : rbad ⟨op, a, b, c, im⟩ C = false) => show ∀ (k' : Nat) C', k' < k + 1 → abci[k']? = some C' → rbad ⟨op, a, b, c, im⟩ C' = false from fun k' C' h1 h2 => by
                  by_cases e : k' = k
                  · subst e
                    rw [HCk.out] at h2
                    injection h2 with h2
                    rw [← h2]
                    exact h
                  · exact HB.out k' C' (by omega) h2)
                have S0 := Lib.hid (fiveB (KW.out.below (Below.drew (Below.refl _ _)) KW.out.lt))
                have SZ := Lib.hid HW.out.size
                cases bb
                · by_cases hd : rvl ⟨op, a, b, c, im⟩ C = 0
                  · have HBk := Lib.hid (HBn.out (by unfold rbad; rw [← HR.out, hd]; rfl))
                    have d0 : ((rvl ⟨op, a, b, c, im⟩ C : Int) != 0) = false := by rw [hd]; rfl
                    clear hd
                    go_wp2_with fail
                    go_region_held3 (fun w' => S5 w' w.heap.size (.int .u8 (op : Int)) (.int .u8 (a : Int)) (.int .u8 (b : Int)) (.int .u8 (c : Int)) (.int .u32 (im : Int))) (first | (with_reducible exact S0.out) | (with_reducible exact S2.out) | go_keep) (first
                      | (go_at_call 28; (with_reducible refine (rvalue_any ⟨op, a, b, c, im⟩ HI.out C).mono ?_); rintro e w2 ⟨rfl, hb2⟩; have X2 := Lib.hid (HW.out.drew.trans (hb2.mono SZ.out)); have K2 := Lib.hid (KW.out.below ((Below.drew (Below.refl _ _)).trans hb2) KW.out.lt); have S2 := Lib.hid (fiveB K2.out); clear hb2))
                    all_goals
                      go_wp2_with fail
                      go_roundw
                      case rel => exact ⟨k + 1, by omega, by go_num, HBk, K2, X2⟩
                      case measure => simp [intOf]; omega
                  · have HE := Lib.hid (show rck ⟨op, a, b, c, im⟩ = 1 by
                      rw [HC.out, if_pos]
                      rw [List.any_eq_true]
                      refine ⟨C, List.mem_of_getElem? HCk.out, ?_⟩
                      unfold rbad
                      rw [← HR.out]
                      simp [hd])
                    have d0 : ((rvl ⟨op, a, b, c, im⟩ C : Int) != 0) = true := by simp; omega
                    clear hd
                    go_wp2_with fail
                    go_region_held3 (fun w' => S5 w' w.heap.size (.int .u8 (op : Int)) (.int .u8 (a : Int)) (.int .u8 (b : Int)) (.int .u8 (c : Int)) (.int .u32 (im : Int))) (first | (with_reducible exact S0.out) | (with_reducible exact S2.out) | go_keep) (first
                      | (go_at_call 28; (with_reducible refine (rvalue_any ⟨op, a, b, c, im⟩ HI.out C).mono ?_); rintro e w2 ⟨rfl, hb2⟩; have X2 := Lib.hid (HW.out.drew.trans (hb2.mono SZ.out)); have K2 := Lib.hid (KW.out.below ((Below.drew (Below.refl _ _)).trans hb2) KW.out.lt); have S2 := Lib.hid (fiveB K2.out); clear hb2))
                    all_goals
                      go_wp2_with fail
                      go_ret
                      rw [HE.out]
                      exact ⟨rfl, X2.out⟩
                · have HBk := Lib.hid (HBn.out (by unfold rbad; rw [← HR.out]; rfl))
                  go_wp2_with fail
                  go_quiet (fail)
                  go_wp2_with fail
                  go_roundw
                  case rel => exact ⟨k + 1, by omega, by go_num, HBk, KW.out.below (bel_drewN (Below.refl _ _) _) KW.out.lt, bel_drewN HW.out _⟩
                  case measure => simp [intOf]; omega
          · have hk5 : k = 4 := by omega
            subst hk5
            have HE := Lib.hid (show rck ⟨op, a, b, c, im⟩ = 0 by
              rw [HC.out, if_neg]
              intro h
              rw [List.any_eq_true] at h
              obtain ⟨C, hC, hr⟩ := h
              obtain ⟨k', hk'⟩ := List.mem_iff_getElem?.1 hC
              rw [HB.out k' C (List.getElem?_eq_some_iff.1 hk').1 hk'] at hr
              cases hr)
            go_wp2_with fail
            go_ret
            rw [HE.out]
            exact ⟨rfl, HW.out⟩
end
end Go.Proofs.YtcedjjolikmbbaaDoor
