/- The document's lists in memory: Next. No condition but that its blocks are known. -/
import Derived.Test.YthklbkgehfgdgaaDoorChRReads
namespace Go.Proofs.YthklbkgehfgdgaaDoor
open Go.RowKit

/-- A function's box of the document's lists, beside them; what turned since w0. -/
structure Rb (w0 w : World) (B : Bx) (hb ob cp : Nat) (A : Nat → Option Addr) (c : Nat → Nat) (L : Nat → List Nat) (b : Nat) : Prop where
  xr : Xr w B hb ob cp A c L
  bx : X2 w b hb ob cp
  lt : b < w.heap.size
  fr : Below w0.heap.size w0 w
section
variable {w0 w w' : World} {B : Bx} {hb ob cp b : Nat} {A : Nat → Option Addr} {c : Nat → Nat} {L : Nat → List Nat} {f : Nat → Int}
theorem Rb.below (r : Rb w0 w B hb ob cp A c L b) (h : Below w.heap.size w w') : Rb w0 w' B hb ob cp A c L b :=
  ⟨r.xr.below h, x2_keep r.bx r.lt h, Nat.lt_of_lt_of_le r.lt h.size, r.fr.trans (h.mono r.fr.size)⟩
theorem Rb.drew (r : Rb w0 w B hb ob cp A c L b) : Rb w0 w.drew B hb ob cp A c L b := r.below ((Below.refl _ w).drew)
theorem Rb.new (x : Xr w B hb ob cp A c L) : Rb w (w.alloc (.cells #[.slice (some ⟨hb, 0, none⟩) 3 3, .slice (some ⟨ob, 0, none⟩) 3 cp] 29)) B hb ob cp A c L w.heap.size :=
  ⟨x.below (below_one w _), x2_new w hb ob cp, by simp, below_one w _⟩
theorem nx_in (ch : Ch 512 H3 N14 L f) {n i : Nat} (hm : n ∈ L (hdN i)) :
    nx L n true = ((L (hdN i))[ixN (L (hdN i)) n + 1]?).getD 0 ∧ nx L n false = bkv (L (hdN i)) (ixN (L (hdN i)) n) := by
  have hh := hdN_in i
  have hat := ixN_at hm
  refine ⟨?_, nx_bkv ch hh hat⟩
  unfold nx
  rw [ch.ow_in hh hm, if_neg (h3_ne hh), show dl true (L (hdN i)) = L (hdN i) from rfl, nxt_at (ch.nod _ hh) hat]
set_option maxRecDepth 100000 in
set_option maxHeartbeats 4000000 in
theorem rnext_any (x : Xr w B hb ob cp A c L) (ch : Ch 512 H3 N14 L f) (n : Nat) (d : Bool) :
    Calls Tryd.prog 39 #[xv hb ob cp, .int .i64 n, .bool d] w fun e w' => e = .returned (.int .i64 (nx L n d : Nat)) ∧ Below w.heap.size w w' := by
  have hcp := x.cp
  obtain ⟨w1, hw1⟩ : ∃ w1, w1 = w.alloc (.cells #[.slice (some ⟨hb, 0, none⟩) 3 3, .slice (some ⟨ob, 0, none⟩) 3 cp] 29) := ⟨_, rfl⟩
  obtain ⟨b, hbe⟩ : ∃ b, b = w.heap.size := ⟨_, rfl⟩
  have R1 : Hid (Rb w w1 B hb ob cp A c L b) := Lib.hid (by rw [hw1, hbe]; exact Rb.new x)
  have HW := Lib.hid hw1
  have HBE := Lib.hid hbe
  clear x hw1 hbe
  rcases ow_cases L n with ⟨ho, _⟩ | ⟨ho, hm⟩
  · have E0 : Hid (nx L n d = 0) := Lib.hid (nx_free L d ho)
    have OW : Hid (∀ w', Rb w w' B hb ob cp A c L b → Calls Tryd.prog 33 #[.agg #[.slice (some ⟨hb, 0, none⟩) 3 3, .slice (some ⟨ob, 0, none⟩) 3 cp], .int .i64 n] w' fun e w'' => e = .returned (.int .i64 0) ∧ Below w'.heap.size w' w'') := Lib.hid fun w' r => by
      have := rowner_any r.xr n
      rw [ho] at this
      exact this
    have OF : Hid (∀ w', Rb w w' B hb ob cp A c L b → Calls Tryd.prog 34 #[.agg #[.slice (some ⟨hb, 0, none⟩) 3 3, .slice (some ⟨ob, 0, none⟩) 3 cp], .int .i64 0] w' fun e w'' => e = .returned (.slice none 0 0) ∧ Below w'.heap.size w' w'') := Lib.hid fun w' r => rof_none r.xr
    have IX : Hid (∀ w', Calls Tryd.prog 38 #[.slice none 0 0, .int .i64 n] w' fun e w'' => e = .returned (.int .i64 (-1)) ∧ w' = w'') := Lib.hid fun w' => rindex_any (B := ⟨0, 0⟩) 0 0 n (Sx.nil w' _ none) rfl (by decide)
    clear ho
    rw [E0.out]
    unfold xv
    go_enter Tryd.func39, Tryd.ntmps39
    go_wp2_with fail
    rw [← HBE.out, ← HW.out]
    have SC : Hid (X2 w1 b hb ob cp) := Lib.hid R1.out.bx
    have SE : Hid (X2 w1.drew b hb ob cp) := SC
    have RC := Lib.hid R1.out.drew
    obtain ⟨k0, k1⟩ := SC.out
    go_region_held3 (fun w' => X2 w' b hb ob cp) (first | (with_reducible exact SC.out) | (with_reducible exact SE.out) | go_keep) (first
      | (go_at_call 33; (with_reducible refine (OW.out _ RC.out).mono ?_); rintro e wd ⟨rfl, hbc⟩; have RC := Lib.hid (RC.out.below hbc); have SC := Lib.hid RC.out.bx; replace hbc := Lib.hid hbc)
      | (go_at_call 34; (with_reducible refine (OF.out _ RC.out).mono ?_); rintro e wd ⟨rfl, hbc⟩; have RC := Lib.hid (RC.out.below hbc); have SC := Lib.hid RC.out.bx; replace hbc := Lib.hid hbc))
    all_goals
      go_wp2_with (go_at_call 38; (with_reducible refine (IX.out _).mono ?_); rintro e wd ⟨rfl, rfl⟩)
      go_ret
      exact ⟨rfl, RC.out.fr⟩
  · obtain ⟨i, hi, hhi, _⟩ := h3_hd ho
    rw [hhi] at hm
    obtain ⟨n1, n2⟩ := nx_in ch hm
    have hl14 := (R1.out.xr.cap i hi).2.2
    obtain ⟨h, hhe⟩ : ∃ h, h = hdN i := ⟨_, rfl⟩
    rw [← hhe] at hhi
    obtain ⟨l, hl⟩ : ∃ l, l = L (hdN i) := ⟨_, rfl⟩
    obtain ⟨k, hk⟩ : ∃ k, k = l.length := ⟨_, rfl⟩
    have SL : Hid (∀ w', Rb w w' B hb ob cp A c L b → Sx w' B (A i) l) := Lib.hid fun w' r => by rw [hl]; exact r.xr.sx i hi
    have OW : Hid (∀ w', Rb w w' B hb ob cp A c L b → Calls Tryd.prog 33 #[.agg #[.slice (some ⟨hb, 0, none⟩) 3 3, .slice (some ⟨ob, 0, none⟩) 3 cp], .int .i64 n] w' fun e w'' => e = .returned (.int .i64 (h : Nat)) ∧ Below w'.heap.size w' w'') := Lib.hid fun w' r => by
      have := rowner_any r.xr n
      rw [hhi] at this
      exact this
    have OF : Hid (∀ w', Rb w w' B hb ob cp A c L b → Calls Tryd.prog 34 #[.agg #[.slice (some ⟨hb, 0, none⟩) 3 3, .slice (some ⟨ob, 0, none⟩) 3 cp], .int .i64 (h : Nat)] w' fun e w'' => e = .returned (.slice (A i) k (c i)) ∧ Below w'.heap.size w' w'') := Lib.hid fun w' r => by
      have := rof_any r.xr hi h hhe
      rwa [← hl, ← hk] at this
    rw [← hl] at hm n1 n2 hl14
    rw [← hk] at hl14
    have hat := ixN_at hm
    have hlt := (List.getElem?_eq_some_iff.1 hat).1
    have hixi := ixI_in hm
    obtain ⟨j, hj⟩ : ∃ j, j = ixN l n := ⟨_, rfl⟩
    rw [← hj] at n1 n2 hat hlt hixi
    rw [← hk] at hlt
    have IX : Hid (∀ w', Rb w w' B hb ob cp A c L b → Calls Tryd.prog 38 #[.slice (A i) k (c i), .int .i64 n] w' fun e w'' => e = .returned (.int .i64 (j : Nat)) ∧ w' = w'') := Lib.hid fun w' r => by
      have := rindex_any (c i) k n (SL.out w' r) hk.symm (by omega)
      rwa [hixi] at this
    have HK := Lib.hid hk
    have N1 := Lib.hid n1
    have N2 := Lib.hid n2
    clear hm ho hl hk hj hat hixi hhi hhe n1 n2 ch
    have fin : (d = true ∧ j + 1 < k ∧ ∃ y, l[j + 1]? = some y ∧ nx L n d = y) ∨ (d = true ∧ ¬ j + 1 < k ∧ nx L n d = 0) ∨ (d = false ∧ j = 0 ∧ nx L n d = 0) ∨ (d = false ∧ ∃ t, j = t + 1 ∧ ∃ y, l[t]? = some y ∧ nx L n d = y) := by
      cases d with
      | true =>
        by_cases h1 : j + 1 < k
        · have hy : l[j + 1]? = some (l[j + 1]'(by have := HK.out; omega)) := List.getElem?_eq_getElem _
          exact .inl ⟨rfl, h1, _, hy, by rw [N1.out, hy]; rfl⟩
        · exact .inr (.inl ⟨rfl, h1, by rw [N1.out, List.getElem?_eq_none (by have := HK.out; omega)]; rfl⟩)
      | false =>
        cases j with
        | zero => exact .inr (.inr (.inl ⟨rfl, rfl, by rw [N2.out]; rfl⟩))
        | succ t =>
          have hy : l[t]? = some (l[t]'(by have := HK.out; omega)) := List.getElem?_eq_getElem _
          exact .inr (.inr (.inr ⟨rfl, t, rfl, _, hy, by rw [N2.out, bkv_succ, hy]; rfl⟩))
    unfold xv
    clear N1 N2
    rcases fin with ⟨rfl, hjk, y, hy, hv⟩ | ⟨rfl, hjk, hv⟩ | ⟨rfl, rfl, hv⟩ | ⟨rfl, t, rfl, y, hy, hv⟩
    all_goals
      rw [hv]
      (try have HY := Lib.hid hy)
      (try clear hy)
      have HV := Lib.hid hv
      clear hv
      go_enter Tryd.func39, Tryd.ntmps39
      go_wp2_with fail
      rw [← HBE.out, ← HW.out]
      have SC : Hid (X2 w1 b hb ob cp) := Lib.hid R1.out.bx
      have SE : Hid (X2 w1.drew b hb ob cp) := SC
      have RC := Lib.hid R1.out.drew
      obtain ⟨k0, k1⟩ := SC.out
      go_region_held3 (fun w' => X2 w' b hb ob cp) (first | (with_reducible exact SC.out) | (with_reducible exact SE.out) | go_keep) (first
        | (go_at_call 33; (with_reducible refine (OW.out _ RC.out).mono ?_); rintro e wd ⟨rfl, hbc⟩; have RC := Lib.hid (RC.out.below hbc); have SC := Lib.hid RC.out.bx; replace hbc := Lib.hid hbc)
        | (go_at_call 34; (with_reducible refine (OF.out _ RC.out).mono ?_); rintro e wd ⟨rfl, hbc⟩; have RC := Lib.hid (RC.out.below hbc); have SC := Lib.hid RC.out.bx; replace hbc := Lib.hid hbc))
      all_goals
        first
          | (obtain ⟨bb, oo, ea, _, _, cc⟩ := SL.out _ RC.out _ _ HY.out
             have IXr := IX.out _ RC.out
             rw [ea] at IXr ⊢
             have IXr := Lib.hid IXr
             have hjk2 : (j : Int) + 1 < (k : Int) := by omega
             go_wp2_with (go_at_call 38; (with_reducible refine IXr.out.mono ?_); rintro e wd ⟨rfl, rfl⟩)
             go_ret
             exact ⟨rfl, RC.out.fr⟩)
          | (obtain ⟨bb, oo, ea, _, _, cc⟩ := SL.out _ RC.out _ _ HY.out
             have IXr := IX.out _ RC.out
             rw [ea] at IXr ⊢
             have IXr := Lib.hid IXr
             have hjk2 : (t : Int) < (k : Int) := by omega
             go_wp2_with (go_at_call 38; (with_reducible refine IXr.out.mono ?_); rintro e wd ⟨rfl, rfl⟩)
             go_ret
             exact ⟨rfl, RC.out.fr⟩)
          | (go_wp2_with (go_at_call 38; (with_reducible refine (IX.out _ RC.out).mono ?_); rintro e wd ⟨rfl, rfl⟩)
             go_ret
             exact ⟨rfl, RC.out.fr⟩)
end
end Go.Proofs.YthklbkgehfgdgaaDoor
