/- The document's answer for the slab: Block. Condition: its blocks are known. -/
import Derived.Test.YthblpnnbkjhmhaaDoorSWith
namespace Go.Proofs.YthblpnnbkjhmhaaDoor
open Go.RowKit

section
variable {w w' : World} {B : Bd} {g cp n : Nat} {s : St} {T : Nat → List Nat} {Q : Nat → Qg}
theorem isB_none (hT : Tl s T) (hI : Inv0 n s) {at_ : Int} (h : ∀ i, i < n → ∀ a ∈ T i, at_ ≠ (a : Nat)) : isB n s at_ = false ∧ bkV n s at_ = 0 := by
  have : isB n s at_ = false := by
    cases hb : isB n s at_ with
    | false => rfl
    | true =>
      obtain ⟨a, _, _, rfl, _⟩ := isB_spec hb
      have ht := (isB_iff hI a).1 hb
      exact absurd rfl (h (a / 512) (page_lt hI ht.1).2 a ((hT.mem _ a).2 ht))
  exact ⟨this, by unfold bkV; rw [this]; rfl⟩
set_option maxRecDepth 100000 in
theorem rblock_any (at_ : Int) (h : Rf w B g cp n s T Q) (hT : Tl s T) (hI : Inv0 n s) :
    Calls Tryd.prog 26 #[.slice (some ⟨g, 0, none⟩) n cp, .int .i64 at_] w fun e w' => e = .returned (.tuple #[.int .i64 (bkV n s at_), .bool (isB n s at_)]) ∧ w = w' := by
  have hn := h.small
  have H := Lib.hid h
  have HT := Lib.hid hT
  have HI := Lib.hid hI
  clear h hT hI
  go_enter Tryd.func26, Tryd.ntmps26
  go_wp2_with fail
  go_loop [6] (fun v => ∃ i : Nat, i ≤ n ∧ v = .int .i64 i ∧ Hid (∀ i', i' < i → ∀ a ∈ T i', at_ ≠ (a : Nat))) (fun v => n - (intOf v).toNat)
  case atStart => exact ⟨0, Nat.zero_le _, rfl, Lib.hid fun _ h => by omega⟩
  case round =>
    obtain ⟨i, hi, rfl, hN⟩ := hrel
    by_cases hlt : i < n
    · obtain ⟨c0, _, c2⟩ := H.out.cells i hlt
      unfold rc0 at c0
      unfold rc2 at c2
      have hok := H.out.ok i hlt
      have hl32 : (T i).length ≤ 32 := by rw [HT.out.len i]; exact Pool.cnt_le _ _
      have HOK := Lib.hid hok
      have C0 := Lib.hid c0
      clear hok c0
      go_wp2_with fail
      go_loop [7] (fun v => ∃ k : Nat, k ≤ (T i).length ∧ v = .int .i64 k ∧ Hid (∀ j a, j < k → (T i)[j]? = some a → at_ ≠ (a : Nat))) (fun v => (T i).length - (intOf v).toNat)
      case atStart => exact ⟨0, Nat.zero_le _, rfl, Lib.hid fun _ _ h => by omega⟩
      case round =>
        obtain ⟨k, hk, rfl, hM⟩ := hrel
        by_cases hkl : k < (T i).length
        · obtain ⟨x, hx⟩ : ∃ x, (T i)[k]? = some x := ⟨_, List.getElem?_eq_getElem hkl⟩
          obtain ⟨b, o, eA, _, _, cx⟩ := HOK.out.taken k x hx
          have HXX := Lib.hid hx
          clear hx
          rw [eA] at c2
          by_cases hax : at_ = (x : Nat)
          · have hm : x ∈ T i := List.mem_of_getElem? HXX.out
            have ht := (HT.out.mem i x).1 hm
            obtain ⟨b1, b2, _⟩ := isB_tkn HI.out ht
            rw [← hax] at b1 b2
            have c0 := C0.out
            have hb1 := Lib.hid b1
            have hb2 := Lib.hid b2
            have hax' : (((x : Nat) : Int) == at_) = true := by rw [hax]; simp
            have HAX := Lib.hid hax
            clear hax b1 b2 hm ht
            go_wp2
            go_ret2
            exact ⟨by rw [hb1.out, hb2.out] <;> rfl, rfl⟩
          · have hax' : (((x : Nat) : Int) == at_) = false := by rw [beq_eq_false_iff_ne]; exact fun e => hax e.symm
            have HAX := Lib.hid hax
            clear hax
            go_wp2
            go_round
            case rel =>
              refine ⟨k + 1, hkl, by go_num, Lib.hid fun j a hj ha => ?_⟩
              rcases Nat.lt_or_ge j k with h1 | h1
              · exact hM.out j a h1 ha
              · obtain rfl : j = k := by omega
                rw [HXX.out] at ha
                cases ha
                exact HAX.out
            case measure => simp [intOf]; omega
        · go_wp2
          go_round
          case rel =>
            refine ⟨i + 1, hlt, by go_num, Lib.hid fun i' h1 a ha => ?_⟩
            rcases Nat.lt_or_ge i' i with h2 | h2
            · exact hN.out i' h2 a ha
            · obtain rfl : i' = i := by omega
              obtain ⟨j, hj, e⟩ := List.getElem_of_mem ha
              exact hM.out j a (by omega) (by rw [← e]; exact List.getElem?_eq_getElem hj)
          case measure => simp [intOf]; omega
    · obtain rfl : n = i := by omega
      have hr := Lib.hid (isB_none HT.out HI.out hN.out)
      go_wp2
      go_ret2
      exact ⟨by rw [hr.out.1, hr.out.2] <;> rfl, rfl⟩
end
end Go.Proofs.YthblpnnbkjhmhaaDoor
