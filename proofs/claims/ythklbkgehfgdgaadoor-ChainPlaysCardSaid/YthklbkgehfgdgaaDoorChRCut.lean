/- The document's lists in memory: Remove. No condition but that its blocks are known. -/
import Derived.Test.YthklbkgehfgdgaaDoorChRPush2
namespace Go.Proofs.YthklbkgehfgdgaaDoor
open Go.RowKit

section
variable {w0 w w' : World} {B : Bx} {hb ob cp b : Nat} {A : Nat → Option Addr} {c : Nat → Nat} {L : Nat → List Nat} {f : Nat → Int}
set_option maxRecDepth 100000 in
theorem rremove_not (x : Xr w B hb ob cp A c L) (hB : B.b ≤ w.heap.size ∧ B.t < w.heap.size) {i : Nat} (hi : i < 3) (h : Nat) (hh : h = hdN i) (n : Nat) (hm : n ∉ L h) :
    Calls Tryd.prog 19 #[xv hb ob cp, .int .i64 h, .int .i64 n] w fun e w' => e = .returned (.tuple #[xv hb ob cp, .int .i64 8]) ∧ Below w.heap.size w w' := by
  have h14 := (x.cap i hi).2.2
  obtain ⟨w2, hw2⟩ : ∃ w2, w2 = (w.alloc (.cells #[.slice (some ⟨hb, 0, none⟩) 3 3, .slice (some ⟨ob, 0, none⟩) 3 cp] 29)).alloc (.cells #[.slice none 0 0, .slice none 0 0] 29) := ⟨_, rfl⟩
  obtain ⟨b, hbe⟩ : ∃ b, b = w.heap.size := ⟨_, rfl⟩
  have V1 : Hid (Vb w w2 B hb ob cp A c L b) := Lib.hid (by rw [hw2, hbe]; exact Vb.new x)
  obtain ⟨l, hl⟩ : ∃ l, l = L (hdN i) := ⟨_, rfl⟩
  obtain ⟨k, hk⟩ : ∃ k, k = l.length := ⟨_, rfl⟩
  have hkz := (x.cap i hi).2.1
  have SL : Hid (∀ w', Vb w w' B hb ob cp A c L b → Sx w' B (A i) l) := Lib.hid fun w' v => by rw [hl]; exact v.rb.xr.sx i hi
  have OF : Hid (∀ w', Vb w w' B hb ob cp A c L b → Calls Tryd.prog 34 #[.agg #[.slice (some ⟨hb, 0, none⟩) 3 3, .slice (some ⟨ob, 0, none⟩) 3 cp], .int .i64 h] w' fun e w'' => e = .returned (.slice (A i) k (c i)) ∧ Below w'.heap.size w' w'') := Lib.hid fun w' v => by
    have := rof_any v.rb.xr hi h hh
    rwa [← hl, ← hk] at this
  have _WT : Hid (∀ W A' k' c' l', Vb w W B hb ob cp A c L b → Rx W w2.heap.size A' c' l' → l'.length = k' → k' ≤ 14 → Calls Tryd.prog 35 #[.agg #[.slice (some ⟨hb, 0, none⟩) 3 3, .slice (some ⟨ob, 0, none⟩) 3 cp], .int .i64 h, .slice A' k' c'] W fun e w'' => ∃ ob' cp', e = .returned (.agg #[.slice (some ⟨hb, 0, none⟩) 3 3, .slice (some ⟨ob', 0, none⟩) 3 cp']) ∧
      Xr w'' B hb ob' cp' (upN A i A') (upN c i c') (upL L h l') ∧ Below W.heap.size W w'' ∧ W.heap.size ≤ ob') := Lib.hid fun W A' k' c' l' v r hk' h14 => by
    have hs2 := V1.out.rb.fr.size
    have hsW := v.rb.fr.size
    have hsx : Sx W B A' l' := r.sx (fun k hk => ⟨by have := hB.1; omega, by have := hB.2; omega⟩)
    exact rwith_any v.rb.xr ⟨by have := hB.1; omega, by have := hB.2; omega⟩ hi h hh A' k' c' l' hsx hk' (by rw [← hk']; exact r.caps.1) r.caps.2.1 h14
  rw [← hl] at h14
  have hixi : ixI l n = -1 := ixI_out (by rw [hl, ← hh]; exact hm)
  have IX : Hid (∀ w', Vb w w' B hb ob cp A c L b → Calls Tryd.prog 38 #[.slice (A i) k (c i), .int .i64 n] w' fun e w'' => e = .returned (.int .i64 (-1)) ∧ w' = w'') := Lib.hid fun w' v => by
    have := rindex_any (c i) k n (SL.out w' v) hk.symm (by omega)
    rwa [hixi] at this
  have HW := Lib.hid hw2
  have HBE := Lib.hid hbe
  have VC := V1
  obtain ⟨k0, k1⟩ := VC.out.rb.bx
  clear x hw2 hbe hl hk h14 hixi hh hm _WT
  unfold xv
  go_enter Tryd.func19, Tryd.ntmps19
  go_wp2_with fail
  rw [← HBE.out, ← HW.out]
  refine (OF.out _ VC.out).mono ?_
  rintro e w3 ⟨rfl, hbc⟩
  have VC := Lib.hid (VC.out.below hbc)
  clear hbc k0 k1
  obtain ⟨k0, k1⟩ := VC.out.rb.bx
  obtain ⟨⟨r0, r1⟩, z0, z1⟩ := VC.out.cells
  go_wp2_with (go_at_call 38; (with_reducible refine (IX.out _ VC.out).mono ?_); rintro e wd ⟨rfl, rfl⟩)
  obtain ⟨hR, hF⟩ := VC.out.put (by have := HBE.out; omega) (.slice (some ⟨hb, 0, none⟩) 3 3) (.slice (some ⟨ob, 0, none⟩) 3 cp)
  refine bodyPost_ret (resL2 rfl rfl hR) rfl ?_
  exact ⟨rfl, hF⟩
set_option maxRecDepth 100000 in
set_option maxHeartbeats 4000000 in
theorem rremove_ok (x : Xr w B hb ob cp A c L) (hB : B.b ≤ w.heap.size ∧ B.t < w.heap.size) {i : Nat} (hi : i < 3) (h : Nat) (hh : h = hdN i) (n : Nat) (hm : n ∈ L h) :
    Calls Tryd.prog 19 #[xv hb ob cp, .int .i64 h, .int .i64 n] w fun e w' => ∃ ob' cp' A1 c1, e = .returned (.tuple #[xv hb ob' cp', .int .i64 0]) ∧
      Xr w' B hb ob' cp' (upN A i A1) (upN c i c1) (upL L h ((L h).erase n)) ∧ Below w.heap.size w w' ∧ w.heap.size ≤ ob' ∧ ∀ a, A1 = some a → w.heap.size ≤ a.block := by
  have h14 := (x.cap i hi).2.2
  have hkc := (x.cap i hi).1
  obtain ⟨w2, hw2⟩ : ∃ w2, w2 = (w.alloc (.cells #[.slice (some ⟨hb, 0, none⟩) 3 3, .slice (some ⟨ob, 0, none⟩) 3 cp] 29)).alloc (.cells #[.slice none 0 0, .slice none 0 0] 29) := ⟨_, rfl⟩
  obtain ⟨b, hbe⟩ : ∃ b, b = w.heap.size := ⟨_, rfl⟩
  have V1 : Hid (Vb w w2 B hb ob cp A c L b) := Lib.hid (by rw [hw2, hbe]; exact Vb.new x)
  obtain ⟨l, hl⟩ : ∃ l, l = L (hdN i) := ⟨_, rfl⟩
  obtain ⟨k, hk⟩ : ∃ k, k = l.length := ⟨_, rfl⟩
  have hkz := (x.cap i hi).2.1
  have SL : Hid (∀ w', Vb w w' B hb ob cp A c L b → Sx w' B (A i) l) := Lib.hid fun w' v => by rw [hl]; exact v.rb.xr.sx i hi
  have OF : Hid (∀ w', Vb w w' B hb ob cp A c L b → Calls Tryd.prog 34 #[.agg #[.slice (some ⟨hb, 0, none⟩) 3 3, .slice (some ⟨ob, 0, none⟩) 3 cp], .int .i64 h] w' fun e w'' => e = .returned (.slice (A i) k (c i)) ∧ Below w'.heap.size w' w'') := Lib.hid fun w' v => by
    have := rof_any v.rb.xr hi h hh
    rwa [← hl, ← hk] at this
  have WT : Hid (∀ W A' k' c' l', Vb w W B hb ob cp A c L b → Rx W w2.heap.size A' c' l' → l'.length = k' → k' ≤ 14 → Calls Tryd.prog 35 #[.agg #[.slice (some ⟨hb, 0, none⟩) 3 3, .slice (some ⟨ob, 0, none⟩) 3 cp], .int .i64 h, .slice A' k' c'] W fun e w'' => ∃ ob' cp', e = .returned (.agg #[.slice (some ⟨hb, 0, none⟩) 3 3, .slice (some ⟨ob', 0, none⟩) 3 cp']) ∧
      Xr w'' B hb ob' cp' (upN A i A') (upN c i c') (upL L h l') ∧ Below W.heap.size W w'' ∧ W.heap.size ≤ ob') := Lib.hid fun W A' k' c' l' v r hk' h14 => by
    have hs2 := V1.out.rb.fr.size
    have hsW := v.rb.fr.size
    have hsx : Sx W B A' l' := r.sx (fun k hk => ⟨by have := hB.1; omega, by have := hB.2; omega⟩)
    exact rwith_any v.rb.xr ⟨by have := hB.1; omega, by have := hB.2; omega⟩ hi h hh A' k' c' l' hsx hk' (by rw [← hk']; exact r.caps.1) r.caps.2.1 h14
  rw [← hl] at h14 hkc
  rw [← hk] at h14 hkc
  have hml : n ∈ l := by rw [hl, ← hh]; exact hm
  obtain ⟨j, hj⟩ : ∃ j, j = ixN l n := ⟨_, rfl⟩
  have hixi : ixI l n = (j : Nat) := by rw [hj]; exact ixI_in hml
  have hat : l[j]? = some n := by rw [hj]; exact ixN_at hml
  have hjk : j < k := by rw [hk]; exact (List.getElem?_eq_some_iff.1 hat).1
  have PL : Hid ([] ++ l.take j ++ l.drop (j + 1) = (L h).erase n) := Lib.hid (by rw [hh, ← hl, ixN_erase hml, hj]; rfl)
  have IX : Hid (∀ w', Vb w w' B hb ob cp A c L b → Calls Tryd.prog 38 #[.slice (A i) k (c i), .int .i64 n] w' fun e w'' => e = .returned (.int .i64 (j : Nat)) ∧ w' = w'') := Lib.hid fun w' v => by
    have := rindex_any (c i) k n (SL.out w' v) hk.symm (by omega)
    rwa [hixi] at this
  have HH := Lib.hid hh
  have XW := Lib.hid x
  have HW := Lib.hid hw2
  have HBE := Lib.hid hbe
  have HK := Lib.hid hk
  have HA := Lib.hid hat
  obtain ⟨cc, hcc⟩ : ∃ cc, cc = c i := ⟨_, rfl⟩
  rw [← hcc] at hkc hkz OF IX
  have VC := V1
  obtain ⟨k0, k1⟩ := VC.out.rb.bx
  have hwj : IntKind.i64.wrap ((j : Int) + 1) = (j : Int) + 1 := IntWalk.i64_in _ (by omega)
  have htn : ((j : Int) + 1).toNat = j + 1 := by omega
  have h01 : (0 : Int) ≤ (j : Int) + 1 := by omega
  have hjcc : j ≤ cc := by omega
  have hjk1 : j + 1 ≤ k := hjk
  have hjk2 : (j : Int) + 1 ≤ (k : Int) := by omega
  clear x hw2 hbe hl hk hixi hh hm hml hat hj hcc
  unfold xv
  by_cases hce : cc = j + 1
  · subst hce
    obtain rfl : k = j + 1 := by omega
    have hle : (j : Int) ≤ (j : Int) + 1 := by omega
    go_enter Tryd.func19, Tryd.ntmps19
    go_wp2_with fail
    rw [← HBE.out, ← HW.out]
    refine (OF.out _ VC.out).mono ?_
    rintro e w3 ⟨rfl, hbc⟩
    have h3x := Lib.hid hbc.size
    have VC := Lib.hid (VC.out.below hbc)
    clear hbc k0 k1
    obtain ⟨k0, k1⟩ := VC.out.rb.bx
    have h3s : Hid (w2.heap.size ≤ w3.heap.size) := Lib.hid (by have := VC.out.rb.lt; exact h3x.out)
    have XC : Hid (Below w3.heap.size w3 w3) := Lib.hid (Below.refl _ _)
    have V3 := VC
    have KEEP : Hid (∀ W, Below w3.heap.size w3 W → X2 W b hb ob cp) := Lib.hid fun W hX => (V3.out.below hX).rb.bx
    have SS : Hid (∀ W x y, X2 W b hb ob cp → X2 ((W.setCell ⟨b + 1, 0, none⟩ x).setCell ⟨b + 1, 1, none⟩ y) b hb ob cp) := Lib.hid fun W x y h => x2_put h
    have SL3 := Lib.hid (SL.out _ VC.out)
    obtain ⟨bb, oo, ea, _, _, _⟩ := SL3.out j n HA.out
    have IXr := IX.out _ VC.out
    rw [ea] at IXr SL3 ⊢
    have IXr := Lib.hid IXr
    clear ea
    have LIT0 : Hid ((w3.alloc (.cells #[] 3)).ownsRow w3.heap.size 3 1 (.slice (some ⟨w3.heap.size, 0, none⟩) 0 0) 0 (intx [])) := Lib.hid (World.ownsRow_lit w3 #[] 0 (Nat.le_refl _) (by decide) rfl)
    go_wp2_with (go_at_call 38; (with_reducible refine IXr.out.mono ?_); rintro e wd ⟨rfl, rfl⟩)
    have SD : Hid (∀ W, Sx W B (some ⟨bb, oo, none⟩) (l.drop (j + 1))) := Lib.hid fun W => by
      rw [List.drop_eq_nil_of_le (by have := HK.out; omega)]
      exact Sx.nil _ _ _
    go_region_held_law (fun w' => X2 w' b hb ob cp) (first | (refine KEEP.out _ ?_; (repeat' (first | (with_reducible exact XC.out) | (with_reducible exact Below.refl _ _) | (refine Below.drew ?_) | (refine Below.alloc ?_ ?_ _) | (refine Below.setCell ?_ ?_ _))); all_goals (first | exact Nat.le_refl _ | exact XC.out.size | omega | (simp; done) | (simp; omega) | (have hs := XC.out.size; simp; omega)); done) | (refine SS.out _ _ _ ?_; refine KEEP.out _ ?_; (repeat' (first | (with_reducible exact XC.out) | (with_reducible exact Below.refl _ _) | (refine Below.drew ?_) | (refine Below.alloc ?_ ?_ _) | (refine Below.setCell ?_ ?_ _))); all_goals (first | exact Nat.le_refl _ | exact XC.out.size | omega | (simp; done) | (simp; omega) | (have hs := XC.out.size; simp; omega)); done) | go_keep) (first
      | (refine step_xapp (w := w3) rfl (.tmp 21) (.tmp 24) rfl B 0 _ _ _ [] (l.take j) (some ⟨bb, oo, none⟩) rfl LIT0.out rfl ((SL3.out.take j).keep (Kx.below ?hb1)) ?hm (fun h => by cases h) ?hb3 ?hb2 ?_
         case hb1 => ((repeat' (first | (with_reducible exact XC.out) | (with_reducible exact Below.refl _ _) | (refine Below.drew ?_) | (refine Below.alloc ?_ ?_ _) | (refine Below.setCell ?_ ?_ _))); all_goals (first | exact Nat.le_refl _ | exact XC.out.size | omega | (simp; done) | (simp; omega) | (have hs := XC.out.size; simp; omega)))
         case hb2 => ((repeat' (first | (with_reducible exact XC.out) | (with_reducible exact Below.refl _ _) | (refine Below.drew ?_) | (refine Below.alloc ?_ ?_ _) | (refine Below.setCell ?_ ?_ _))); all_goals (first | exact Nat.le_refl _ | exact XC.out.size | omega | (simp; done) | (simp; omega) | (have hs := XC.out.size; simp; omega)))
         case hm => (rw [List.length_take]; have := HK.out; omega)
         case hb3 => omega
         intro v4 w4 hown hgrow hbel
         have XC := Lib.hid hbel
         replace hgrow := Lib.hid hgrow
         have OW4 := Lib.hid hown
         clear hbel hown)
      | (refine step_xapp (w := w3) rfl (.tmp 25) (.tmp 29) rfl B (0 + j) _ _ _ ([] ++ l.take j) (l.drop (j + 1)) (some ⟨bb, oo, none⟩) rfl OW4.out rfl (SD.out _) ?hm (fun h => by cases h) ?hb3 ?hb2 ?_
         case hb2 => ((repeat' (first | (with_reducible exact XC.out) | (with_reducible exact Below.refl _ _) | (refine Below.drew ?_) | (refine Below.alloc ?_ ?_ _) | (refine Below.setCell ?_ ?_ _))); all_goals (first | exact Nat.le_refl _ | exact XC.out.size | omega | (simp; done) | (simp; omega) | (have hs := XC.out.size; simp; omega)))
         case hm => (rw [List.length_drop]; have := HK.out; omega)
         case hb3 => omega
         intro v' w' hown hgrow5 hbel
         have XC := Lib.hid hbel
         obtain ⟨A5, cap5, rfl, hl5, hR5⟩ := Rx.of hown
         have R5 := Lib.hid (hR5.less h3s.out)
         obtain ⟨k5, hk5⟩ : ∃ k5, k5 = (([] ++ l.take j) ++ l.drop (j + 1)).length := ⟨_, rfl⟩
         have K5 := Lib.hid hk5.symm
         have H5 : Hid (k5 ≤ 14) := Lib.hid (by rw [hk5, ← hl5]; omega)
         rw [← hk5]
         replace hgrow5 := Lib.hid hgrow5
         clear hown hl5 hR5 hbel hk5)
      | (go_at_call 35
         (with_reducible refine (WT.out _ A5 k5 cap5 _ (V3.out.below XC.out) R5.out K5.out H5.out).mono ?_)
         rintro e wd ⟨ob', cp', rfl, hx', hbc, hob⟩
         have OB := Lib.hid (Nat.le_trans (Nat.le_trans h3s.out XC.out.size) hob)
         have XC := Lib.hid (XC.out.trans (hbc.mono XC.out.size))
         obtain ⟨⟨r0, r1⟩, z0, z1⟩ := (V3.out.below XC.out).cells
         have XN := Lib.hid hx'
         replace hbc := Lib.hid hbc
         replace hob := Lib.hid hob
         clear hx'))
    all_goals
      go_wp2
      obtain ⟨hR, hF⟩ := (V3.out.below XC.out).put (by have := HBE.out; omega) (.slice (some ⟨hb, 0, none⟩) 3 3) (.slice (some ⟨ob', 0, none⟩) 3 cp')
      refine bodyPost_ret (resL2 rfl rfl hR) rfl ?_
      have hs2 := V1.out.rb.fr.size
      have hb2 := V1.out.rs.lt
      have hbw := HBE.out
      have hA5 : ∀ a, A5 = some a → w2.heap.size ≤ a.block := fun a ha => R5.out.blk ha
      have XF := XN.out.put2 ((XW.out.off (q := b + 1) (by omega)).up hi HH.out hb2 OB.out (fun a ha _ => hA5 a ha)) (.slice (some ⟨hb, 0, none⟩) 3 3) (.slice (some ⟨ob', 0, none⟩) 3 cp')
      exact ⟨ob', cp', A5, cap5, rfl, by rw [PL.out] at XF; exact XF, hF, by have := OB.out; omega, fun a ha => by have := hA5 a ha; omega⟩
  · have hle : (j : Int) + 1 ≤ (cc : Int) := by omega
    have hlec : j + 1 ≤ cc := by omega
    have hce2 : ¬ cc = j + 1 := hce
    go_enter Tryd.func19, Tryd.ntmps19
    go_wp2_with fail
    rw [← HBE.out, ← HW.out]
    refine (OF.out _ VC.out).mono ?_
    rintro e w3 ⟨rfl, hbc⟩
    have h3x := Lib.hid hbc.size
    have VC := Lib.hid (VC.out.below hbc)
    clear hbc k0 k1
    obtain ⟨k0, k1⟩ := VC.out.rb.bx
    have h3s : Hid (w2.heap.size ≤ w3.heap.size) := Lib.hid (by have := VC.out.rb.lt; exact h3x.out)
    have XC : Hid (Below w3.heap.size w3 w3) := Lib.hid (Below.refl _ _)
    have V3 := VC
    have KEEP : Hid (∀ W, Below w3.heap.size w3 W → X2 W b hb ob cp) := Lib.hid fun W hX => (V3.out.below hX).rb.bx
    have SS : Hid (∀ W x y, X2 W b hb ob cp → X2 ((W.setCell ⟨b + 1, 0, none⟩ x).setCell ⟨b + 1, 1, none⟩ y) b hb ob cp) := Lib.hid fun W x y h => x2_put h
    have SL3 := Lib.hid (SL.out _ VC.out)
    obtain ⟨bb, oo, ea, _, _, _⟩ := SL3.out j n HA.out
    have IXr := IX.out _ VC.out
    rw [ea] at IXr SL3 ⊢
    have IXr := Lib.hid IXr
    clear ea
    have LIT0 : Hid ((w3.alloc (.cells #[] 3)).ownsRow w3.heap.size 3 1 (.slice (some ⟨w3.heap.size, 0, none⟩) 0 0) 0 (intx [])) := Lib.hid (World.ownsRow_lit w3 #[] 0 (Nat.le_refl _) (by decide) rfl)
    go_wp2_with (go_at_call 38; (with_reducible refine IXr.out.mono ?_); rintro e wd ⟨rfl, rfl⟩)
    have SD : Hid (Sx w3 B (some ⟨bb, oo + (j + 1), none⟩) (l.drop (j + 1))) := Lib.hid (SL3.out.drop (j + 1))
    go_region_held_law (fun w' => X2 w' b hb ob cp) (first | (refine KEEP.out _ ?_; (repeat' (first | (with_reducible exact XC.out) | (with_reducible exact Below.refl _ _) | (refine Below.drew ?_) | (refine Below.alloc ?_ ?_ _) | (refine Below.setCell ?_ ?_ _))); all_goals (first | exact Nat.le_refl _ | exact XC.out.size | omega | (simp; done) | (simp; omega) | (have hs := XC.out.size; simp; omega)); done) | (refine SS.out _ _ _ ?_; refine KEEP.out _ ?_; (repeat' (first | (with_reducible exact XC.out) | (with_reducible exact Below.refl _ _) | (refine Below.drew ?_) | (refine Below.alloc ?_ ?_ _) | (refine Below.setCell ?_ ?_ _))); all_goals (first | exact Nat.le_refl _ | exact XC.out.size | omega | (simp; done) | (simp; omega) | (have hs := XC.out.size; simp; omega)); done) | go_keep) (first
      | (refine step_xapp (w := w3) rfl (.tmp 21) (.tmp 24) rfl B 0 _ _ _ [] (l.take j) (some ⟨bb, oo, none⟩) rfl LIT0.out rfl ((SL3.out.take j).keep (Kx.below ?hb1)) ?hm (fun h => by cases h) ?hb3 ?hb2 ?_
         case hb1 => ((repeat' (first | (with_reducible exact XC.out) | (with_reducible exact Below.refl _ _) | (refine Below.drew ?_) | (refine Below.alloc ?_ ?_ _) | (refine Below.setCell ?_ ?_ _))); all_goals (first | exact Nat.le_refl _ | exact XC.out.size | omega | (simp; done) | (simp; omega) | (have hs := XC.out.size; simp; omega)))
         case hb2 => ((repeat' (first | (with_reducible exact XC.out) | (with_reducible exact Below.refl _ _) | (refine Below.drew ?_) | (refine Below.alloc ?_ ?_ _) | (refine Below.setCell ?_ ?_ _))); all_goals (first | exact Nat.le_refl _ | exact XC.out.size | omega | (simp; done) | (simp; omega) | (have hs := XC.out.size; simp; omega)))
         case hm => (rw [List.length_take]; have := HK.out; omega)
         case hb3 => omega
         intro v4 w4 hown hgrow hbel
         have XC := Lib.hid hbel
         replace hgrow := Lib.hid hgrow
         have OW4 := Lib.hid hown
         clear hbel hown)
      | (refine step_xapp (w := w3) rfl (.tmp 25) (.tmp 29) rfl B (0 + j) _ _ _ ([] ++ l.take j) (l.drop (j + 1)) (some ⟨bb, oo + (j + 1), none⟩) rfl OW4.out rfl (SD.out.keep (Kx.below ?hb1)) ?hm (fun h => by cases h) ?hb3 ?hb2 ?_
         case hb1 => ((repeat' (first | (with_reducible exact XC.out) | (with_reducible exact Below.refl _ _) | (refine Below.drew ?_) | (refine Below.alloc ?_ ?_ _) | (refine Below.setCell ?_ ?_ _))); all_goals (first | exact Nat.le_refl _ | exact XC.out.size | omega | (simp; done) | (simp; omega) | (have hs := XC.out.size; simp; omega)))
         case hb2 => ((repeat' (first | (with_reducible exact XC.out) | (with_reducible exact Below.refl _ _) | (refine Below.drew ?_) | (refine Below.alloc ?_ ?_ _) | (refine Below.setCell ?_ ?_ _))); all_goals (first | exact Nat.le_refl _ | exact XC.out.size | omega | (simp; done) | (simp; omega) | (have hs := XC.out.size; simp; omega)))
         case hm => (rw [List.length_drop]; have := HK.out; omega)
         case hb3 => omega
         intro v' w' hown hgrow5 hbel
         have XC := Lib.hid hbel
         obtain ⟨A5, cap5, rfl, hl5, hR5⟩ := Rx.of hown
         have R5 := Lib.hid (hR5.less h3s.out)
         obtain ⟨k5, hk5⟩ : ∃ k5, k5 = (([] ++ l.take j) ++ l.drop (j + 1)).length := ⟨_, rfl⟩
         have K5 := Lib.hid hk5.symm
         have H5 : Hid (k5 ≤ 14) := Lib.hid (by rw [hk5, ← hl5]; omega)
         rw [← hk5]
         replace hgrow5 := Lib.hid hgrow5
         clear hown hl5 hR5 hbel hk5)
      | (go_at_call 35
         (with_reducible refine (WT.out _ A5 k5 cap5 _ (V3.out.below XC.out) R5.out K5.out H5.out).mono ?_)
         rintro e wd ⟨ob', cp', rfl, hx', hbc, hob⟩
         have OB := Lib.hid (Nat.le_trans (Nat.le_trans h3s.out XC.out.size) hob)
         have XC := Lib.hid (XC.out.trans (hbc.mono XC.out.size))
         obtain ⟨⟨r0, r1⟩, z0, z1⟩ := (V3.out.below XC.out).cells
         have XN := Lib.hid hx'
         replace hbc := Lib.hid hbc
         replace hob := Lib.hid hob
         clear hx'))
    all_goals
      go_wp2
      obtain ⟨hR, hF⟩ := (V3.out.below XC.out).put (by have := HBE.out; omega) (.slice (some ⟨hb, 0, none⟩) 3 3) (.slice (some ⟨ob', 0, none⟩) 3 cp')
      refine bodyPost_ret (resL2 rfl rfl hR) rfl ?_
      have hs2 := V1.out.rb.fr.size
      have hb2 := V1.out.rs.lt
      have hbw := HBE.out
      have hA5 : ∀ a, A5 = some a → w2.heap.size ≤ a.block := fun a ha => R5.out.blk ha
      have XF := XN.out.put2 ((XW.out.off (q := b + 1) (by omega)).up hi HH.out hb2 OB.out (fun a ha _ => hA5 a ha)) (.slice (some ⟨hb, 0, none⟩) 3 3) (.slice (some ⟨ob', 0, none⟩) 3 cp')
      exact ⟨ob', cp', A5, cap5, rfl, by rw [PL.out] at XF; exact XF, hF, by have := OB.out; omega, fun a ha => by have := hA5 a ha; omega⟩
end
end Go.Proofs.YthklbkgehfgdgaaDoor
