/- The contracts of Bytes, types' and the document's. Condition: the types can be read. -/
import Derived.Test.YtnkjlocjfljjlaaTBytes
import Derived.Test.YtnkjlocjfljjlaaTRCheck
namespace Go.Proofs.Ytnkjlocjfljjlaa
open Go.RowKit
set_option maxRecDepth 100000
set_option maxHeartbeats 4000000
theorem Ob.blt {w : World} {B : Nat} {v : Value} {bs : List Nat} (h : Ob w B v bs) {g : Nat} (hg : v.ownBlock = some g) : g < w.heap.size := (World.ownsRow.lt h g hg).2
theorem by_bad {ts : List Ty} (h : ckE ts ≠ 0) : byV ts = [] := by unfold byV; rw [if_neg h]
theorem by_ok {ts : List Ty} (h : ckE ts = 0) : byV ts = num ts.length ++ encs ts := by unfold byV; rw [if_pos h]
section
variable {w : World}
theorem bytes5_any (A : Option Addr) (n cap : Nat) (ts : List Ty) (h : Lt w A n cap ts) :
    Calls Try.prog 17 #[.slice A n cap] w fun e w' => ∃ v', e = .returned (.tuple #[v', .int .i64 (ckE ts : Nat)]) ∧ Ob w' w.heap.size v' (byV ts) ∧ Below w.heap.size w w' := by
  have hle := h.le
  have hmx := h.max
  have HN := Lib.hid h.len
  have H := Lib.hid h
  clear h
  obtain ⟨q, hq⟩ : ∃ q, ckE ts = q := ⟨_, rfl⟩
  have HQ := Lib.hid hq
  by_cases hq0 : q = 0
  case neg =>
    have hqn : ((q : Int) != 0) = true := by simpa using hq0
    have HB := Lib.hid (by_bad (ts := ts) (by rw [hq]; exact hq0))
    clear hq
    go_enter Try.func17, Try.ntmps17
    go_wp2_with (go_at_call 12; refine (check_any _ n cap ts H.out).mono ?_; rintro e w2 ⟨rfl, h2⟩; rw [HQ.out]; have W2 := Lib.hid h2; clear h2)
    go_ret2
    rw [HQ.out, HB.out]
    exact ⟨_, rfl, Ob.nil _ _, W2.out⟩
  subst hq0
  have HB := Lib.hid (by_ok hq)
  have HZ := Lib.hid (ck_zero hq)
  have hn : n ≤ 32 := by rw [← HN.out]; exact HZ.out.1
  have HF := Lib.hid (show ∀ t ∈ ts, t.fields.length ≤ 12 from fun t ht => by
    obtain ⟨i, hi⟩ := List.mem_iff_getElem?.1 ht
    exact (tyE_zero (tpE_zero (HZ.out.2.1 i (List.getElem?_eq_some_iff.1 hi).1) hi).2.2).1)
  have HTL := Lib.hid (num_ten (show n < 18446744073709551616 by omega))
  clear hq
  go_enter Try.func17, Try.ntmps17
  go_wp2_with (go_at_call 12; refine (check_any _ n cap ts H.out).mono ?_; rintro e w1 ⟨rfl, h1⟩; rw [HQ.out]; have W1 := Lib.hid h1; clear h1)
  go_wp2_with (go_at_call 30; refine (number_any n (by omega)).mono ?_; rintro e w2 ⟨v2, rfl, o2, h2⟩; have O2 := Lib.hid (o2.less W1.out.size); have W2 := Lib.hid (W1.out.trans (h2.mono W1.out.size)); clear h2 o2)
  go_loopw [6, 27] (fun u i wr => ∃ j : Nat, j ≤ n ∧ i = .int .i64 j ∧ Hid (Ob wr w.heap.size u (num n ++ encs (ts.take j))) ∧ Hid (Below w.heap.size w wr)) (fun _ i _ => n - (intOf i).toNat)
  case atStart => exact ⟨0, Nat.zero_le _, rfl, by show Ob _ _ _ _; simpa [encs] using O2.out, W2.out⟩
  case round =>
    clear W1 W2 O2
    obtain ⟨j, hj, rfl, HO, HW⟩ := hrel
    have hws := HW.out.size
    by_cases hlt : j < n
    · obtain ⟨b, o, t, FA, fk, fc, rfl, hu, hnm, hb, c0, c1, c2, c3, hf⟩ := H.out.at j hlt
      have hji : (j : Int) < (n : Int) := by omega
      have hf12 := HF.out t (List.mem_of_getElem? hu.out)
      have HES := Lib.hid (encs_snoc hu.out)
      have HEN := Lib.hid (show enc t = txV (ofS t.name) ++ isV (nums t) from rfl)
      have HL1 := Lib.hid (encs_len (ts.take j) fun u hu => HF.out u (List.mem_of_mem_take hu))
      have HL2 := Lib.hid (txV_len t.name)
      have HL3 := Lib.hid (isV_len (l := nums t) (by rw [nums_len]; omega))
      obtain ⟨tn, tv, tr, fs⟩ := t
      simp only at c0 c1 c2 hf hnm hf12
      rw [hf.out.len] at hf12
      replace c0 := (HW.out.cell (p := ⟨b, o + j * 4, none⟩) hb).trans c0
      replace c1 := (HW.out.cell (p := ⟨b, o + j * 4 + 1, none⟩) hb).trans c1
      replace c2 := (HW.out.cell (p := ⟨b, o + j * 4 + 2, none⟩) hb).trans c2
      replace c3 := (HW.out.cell (p := ⟨b, o + j * 4 + 3, none⟩) hb).trans c3
      have HBK := Lib.hid (fun g (hg : _ = some g) => HO.out.blt hg)
      obtain ⟨w1, hw1⟩ : ∃ w1, w1 = wr.alloc (Obj.cells #[.string tn, .bool tv, .bool tr, .slice FA fk fc] 32) := ⟨_, rfl⟩
      have B1 := Lib.hid (show Blk w1 wr.heap.size 32 #[.string tn, .bool tv, .bool tr, .slice FA fk fc] by rw [hw1]; exact Blk.new _ _ _)
      have L1 := Lib.hid (show Below wr.heap.size wr w1 by rw [hw1]; exact (Below.refl _ _).alloc (Nat.le_refl _) _)
      have hs1 : w1.heap.size = wr.heap.size + 1 := by rw [hw1]; simp
      have HW1 := Lib.hid hw1
      have S1 := Lib.hid hs1
      have HLEN := Lib.hid (show (num n ++ encs (ts.take j)).length + (txV (ofS tn)).length ≤ 140737488400000 by
        have h1 := HTL.out
        have h2 := HL1.out
        have h3 := HL2.out
        rw [List.length_take] at h2
        rw [List.length_append]
        simp only at h3
        omega)
      have HLEN2 := Lib.hid (show (num n ++ encs (ts.take j) ++ txV (ofS tn)).length + (isV (nums ⟨tn, tv, tr, fs⟩)).length ≤ 140737488400000 by
        have h1 := HTL.out
        have h2 := HL1.out
        have h3 := HL2.out
        have h4 := HL3.out
        rw [List.length_take] at h2
        rw [List.length_append, List.length_append]
        simp only at h3
        omega)
      clear hw1 hs1
      go_wp2_with (go_at_call 31; rw [← HW1.out]; refine (text_any tn hnm).mono ?_; rintro e w2 ⟨v2, rfl, o2, h2⟩; have hs2 := h2.size; rw [S1.out] at hs2; obtain ⟨d0, d1, d2, d3⟩ := four B1.out h2 (by rw [S1.out]; omega); have L2 := Lib.hid (L1.out.trans (h2.mono (by rw [S1.out]; omega))); obtain ⟨An, kn, cn, rfl, rn, _⟩ := o2.far (txV_byt' tn); have RN2 := Lib.hid rn; have X2 := Lib.hid (HW.out.trans (L2.out.mono hws)); clear o2 h2 rn)
      go_wp2_with (go_at_call 33; refine (typeNumbers_any ⟨tn, tv, tr, fs⟩ FA fk fc (hf.out.below X2.out (Nat.le_refl _)) hf12).mono ?_; rintro e w3 ⟨v3, rfl, o3, h3⟩; obtain ⟨Ai, ki, ci, rfl, ri⟩ := o3.form (nums_fit hf.out); have RI3 := Lib.hid ri; have RN3 := Lib.hid (RN2.out.below h3 (Nat.le_refl _)); have L3 := Lib.hid (L2.out.trans (h3.mono (by omega))); have hs3 := h3.size; clear o3 h3 ri)
      go_wp2_with (first
        | (go_at_call 32; refine (ints_any Ai ki ci _ RI3.out).mono ?_; rintro e w4 ⟨v4, rfl, o4, h4⟩; obtain ⟨A4, k4, c4, rfl, r4, f4⟩ := o4.far (isV_byt' _); have RN4 := Lib.hid (RN3.out.below h4 (Nat.le_refl _)); have R4 := Lib.hid r4; have L4 := Lib.hid (L3.out.trans (h4.mono (by omega))); have hs4 := h4.size; have F4 := Lib.hid f4; have O4 := Lib.hid (HO.out.keep L4.out (Nat.le_refl _)); clear o4 h4 r4 f4)
        | (at_builtin; refine wpList_appg rfl (.tmp 43) (.tmp 44) 40 rfl w.heap.size _ _ rfl O4.out _ _ rfl (src_rd RN4.out) HLEN.out (by omega) ?_; intro v5 w5 o5 h5 g5; have O5 := Lib.hid o5; have R5 := Lib.hid (R4.out.grown g5 (fun b o e e2 => (by have h1 := F4.out b o e; have h2 := HBK.out b e2; omega))); have X5 := Lib.hid ((HW.out.trans (L4.out.mono hws)).trans h5); have hs5 := X5.out.size; clear o5 h5 g5)
        | (at_builtin; refine wpList_app rfl (.tmp 46) (.tmp 47) 40 rfl w.heap.size _ _ rfl O5.out _ _ rfl (src_rd R5.out) HLEN2.out hs5 ?_; intro v6 w6 o6 h6; have O6 := Lib.hid o6; have X6 := Lib.hid (X5.out.trans h6); clear o6 h6))
      go_roundw
      case rel =>
        refine ⟨j + 1, by omega, by go_num, ?_, X6.out⟩
        show Ob _ _ _ _
        rw [HES.out, HEN.out]
        have := O6.out
        simp only [List.append_assoc] at this ⊢
        exact this
      case measure => simp [intOf]; omega
    · obtain rfl : j = n := by omega
      have HT := Lib.hid (List.take_of_length_le (Nat.le_of_eq HN.out))
      go_wp2_with fail
      go_ret2
      rw [HQ.out, HB.out, HN.out]
      have := HO.out
      rw [HT.out] at this
      exact ⟨_, rfl, this, HW.out⟩
end
end Go.Proofs.Ytnkjlocjfljjlaa
