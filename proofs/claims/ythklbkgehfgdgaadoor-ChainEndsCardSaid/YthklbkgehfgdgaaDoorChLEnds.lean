/- The walk of ChainEnds: it returns true, and nothing that was there has turned. Condition: the table of widths lies in its block. -/
import Derived.Test.YthklbkgehfgdgaaDoorChLRange
import Derived.Test.YthklbkgehfgdgaaDoorChEndsM
namespace Go.Proofs.YthklbkgehfgdgaaDoor
open Go.RowKit

set_option maxRecDepth 100000 in
set_option maxHeartbeats 8000000 in
theorem ends_walk (n : Nat) (d1 d2 : Bool) (w : World) (hn : n ≤ 255) (hT : Tab w) (hB : 0 < w.heap.size) :
    Calls Tryd.prog 5 #[.int .u8 n, .bool d1, .bool d2] w fun e w' => e = .returned (.bool true) ∧ Below w.heap.size w w' := by
  obtain ⟨m, hm⟩ : ∃ m, m = n % 15 := ⟨_, rfl⟩
  have hm14 : m ≤ 14 := by omega
  have hmi : (n : Int) % 15 = (m : Int) := by omega
  have P : ∀ (p g k : Nat), k < 14 → ∀ w' f, Cs w w' p g (EL d1 k) f → Calls Tryd.prog 14 #[.pointer (some ⟨p, 0, none⟩), .int .i64 8, .int .i64 (ndN k : Nat), .bool d1] w' (Ct w w' p g (EL d1 (k + 1)) (.int .i64 0)) := fun p g k hk w' f c => by
    have := cs_push c d1 (h := 8) (by decide) (ndN_in k)
    rw [(EL_push d1 hk).1, (EL_push d1 hk).2] at this
    exact this
  obtain ⟨Q, hQ⟩ : ∃ Q : Nat → Nat, ∀ j, Q j = if d1 == d2 then m - 1 - j else j := ⟨_, fun _ => rfl⟩
  have HQ := Lib.hid hQ
  have O : ∀ (p g j : Nat), j < m → ∀ w' f, Cs w w' p g (EO d1 d2 m j) f → Calls Tryd.prog 16 #[.pointer (some ⟨p, 0, none⟩), .int .i64 8, .bool d2] w' (Ct w w' p g (EO d1 d2 m (j + 1)) (.tuple #[.int .i64 (ndN (Q j) : Nat), .int .i64 0])) := fun p g j hj w' f c => by
    have := cs_pop c d2 (h := 8) (by decide)
    obtain ⟨e1, e2, e3⟩ := EO_pop d1 d2 hm14 hj
    have hqq : (if d1 == d2 then ndN (m - 1 - j) else ndN j) = ndN (Q j) := by rw [hQ]; split <;> rfl
    rw [e1, e2, e3, hqq] at this
    exact this
  have O0 : ∀ (p g : Nat) w' f, Cs w w' p g E0 f → Calls Tryd.prog 16 #[.pointer (some ⟨p, 0, none⟩), .int .i64 8, .bool d2] w' (Ct w w' p g E0 (.tuple #[.int .i64 0, .int .i64 6])) := fun p g w' f c => by
    have := cs_pop c d2 (h := 8) (by decide)
    cases d2 <;> exact this
  clear hQ
  have hz0 := EL_zero d1
  have hz1 := EO_zero d1 d2 m
  have hz2 := EO_end d1 d2 m
  generalize EL d1 = el at P hz0 hz1
  generalize EO d1 d2 m = eo at O hz1 hz2
  replace P := Lib.hid P
  replace O0 := Lib.hid O0
  replace O := Lib.hid O
  replace hz0 := Lib.hid hz0
  replace hz1 := Lib.hid hz1
  replace hz2 := Lib.hid hz2
  replace hm := Lib.hid hm
  rcases d1 with _ | _ <;> rcases d2 with _ | _
  all_goals
    have SH := Lib.hid (shown_any10 hT hB)
    have HT := Lib.hid hT
    clear hT
    go_enter Tryd.func5, Tryd.ntmps5
    go_wp2_with fail
    refine SH.out.mono ?_
    rintro e wa ⟨rfl, hb⟩
    have NW := Lib.hid (cs_new (HT.out.below hb hB) (Nat.lt_of_lt_of_le hB hb.size) hb)
    clear hb
    go_wp2_with fail
    refine NW.out.mono ?_
    rintro e wc ⟨p, g, rfl, hc, hb⟩
    have CC := Lib.hid hc
    clear hc hb
    replace CC : Hid (Cs w wc p g (el 0) (fun _ => 0)) := Lib.hid (by rw [hz0.out]; exact CC.out)
    go_wp2_with fail
    clear hmi
    go_loopw [10] (fun v wr => ∃ (k : Nat) (f : Nat → Int), k ≤ m ∧ v = .int .i64 k ∧ Hid (Cs w wr p g (el k) f)) (fun v _ => m - (intOf v).toNat)
    case atStart => exact ⟨0, _, Nat.zero_le _, rfl, CC⟩
    case round =>
      clear CC
      obtain ⟨k, f, hk, rfl, CC⟩ := hrel
      by_cases hlt : k < m
      · have hk14 : k < 14 := by omega
        have hw8 : IntKind.u8.wrap (k : Int) = k := by rw [IntKind.wrap_u8]; omega
        go_wp2_with (first
          | (go_at_call 13; (with_reducible refine (node_any k (by omega) _).mono ?_); rintro e wd ⟨rfl, rfl⟩)
          | (go_at_call 14; (with_reducible refine (P.out p g k hk14 _ f CC.out).mono ?_); rintro e wd ⟨rfl, f', hc, hf⟩; have CC := Lib.hid hc; clear hc hf))
        go_roundw
        case rel => exact ⟨k + 1, f', hlt, by go_num, CC⟩
        case measure => simp [intOf]; omega
      · obtain rfl : k = m := by omega
        replace CC : Hid (Cs w wr p g (eo 0) f) := Lib.hid (by rw [hz1.out]; exact CC.out)
        go_wp2_with fail
        go_loopw [11] (fun v wr => ∃ (j : Nat) (f : Nat → Int), j ≤ k ∧ v = .int .i64 j ∧ Hid (Cs w wr p g (eo j) f)) (fun v _ => k - (intOf v).toNat)
        case atStart => exact ⟨0, _, Nat.zero_le _, rfl, CC⟩
        case round =>
          clear CC
          obtain ⟨j, f, hj, rfl, CC⟩ := hrel
          by_cases hlt2 : j < k
          · obtain ⟨i, hi⟩ : ∃ i, i = k - 1 - j := ⟨_, rfl⟩
            have hw8 : IntKind.u8.wrap (j : Int) = j := by rw [IntKind.wrap_u8]; omega
            have hw9 : IntKind.u8.wrap ((k : Int) - 1 - j) = i := by rw [IntKind.wrap_u8]; omega
            have PO0 := O.out p g j hlt2 _ f CC.out
            have hq := HQ.out j
            first
              | (rw [show Q j = i from hq.trans hi.symm] at PO0)
              | (rw [show Q j = j from hq] at PO0)
            have PO := Lib.hid PO0
            have hib : i ≤ 255 := by omega
            have HI := Lib.hid hi
            clear PO0 hq hi
            try rw [← HI.out] at hw9
            go_wp2_with (first
              | (go_at_call 13; (with_reducible refine (node_any j (by omega) _).mono ?_); rintro e wd ⟨rfl, rfl⟩)
              | (go_at_call 13; (with_reducible refine (node_any i (by omega) _).mono ?_); rintro e wd ⟨rfl, rfl⟩)
              | (go_at_call 16; (with_reducible refine PO.out.mono ?_); rintro e wd ⟨rfl, f', hc, hf⟩; have CC := Lib.hid hc; clear hc hf))
            go_roundw
            case rel => exact ⟨j + 1, f', hlt2, by go_num, CC⟩
            case measure => simp [intOf]; omega
          · obtain rfl : j = k := by omega
            replace CC : Hid (Cs w wr p g E0 f) := Lib.hid (by rw [← hz2.out]; exact CC.out)
            have BY : ∀ f', Hid (∀ w', Cs w w' p g E0 f' → _) := fun f' => Lib.hid (by512 (w0 := w) p g E0 f')
            go_wp2_with (first
              | (go_at_call 16; (with_reducible refine (O0.out p g _ f CC.out).mono ?_); rintro e wc ⟨rfl, f', hc, hf⟩; have CC := Lib.hid hc; clear hc hf)
              | (go_at_call 24; (with_reducible refine ((BY _).out _ CC.out).mono ?_); rintro e wb ⟨rfl, hbk, hbb⟩; have CC := Lib.hid (CC.out.below hbb); generalize wc.heap.size = bb at hbk ⊢; replace hbk := Lib.hid hbk; clear hbb))
            have hz : Hid (∀ j : Nat, j < 512 → wb.cell? ⟨bb, j, none⟩ = some (.int .u8 0)) := Lib.hid fun j hj => by
              have h5 := hbk.out.cell j
              rw [row_at _ _ _ hj] at h5
              rw [CC.out.zero j hj] at h5; exact h5
            go_wp2_with fail
            go_loop [19] (fun v => ∃ j : Nat, j ≤ 512 ∧ v = .int .i64 j) (fun v => 512 - (intOf v).toNat)
            case atStart => exact ⟨0, Nat.zero_le _, rfl⟩
            case round =>
              obtain ⟨j, hj, rfl⟩ := hrel
              by_cases hjc : j < 512
              · have hcj := hz.out j hjc
                go_wp2
                go_round
                case rel => exact ⟨j + 1, hjc, by go_num⟩
                case measure => simp [intOf]; omega
              · obtain rfl : j = 512 := by omega
                go_wp2
                go_ret
                exact ⟨rfl, CC.out.bl⟩
end Go.Proofs.YthklbkgehfgdgaaDoor
