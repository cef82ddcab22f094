/- The document's lists in memory: Push of a node that is in no list. No condition but that its blocks are known. -/
import Derived.Test.YthklbkgehfgdgaaDoorChRPush
namespace Go.Proofs.YthklbkgehfgdgaaDoor
open Go.RowKit

theorem x2_put {w : World} {b hb ob cp : Nat} {x y : Value} (h : X2 w b hb ob cp) : X2 ((w.setCell ⟨b + 1, 0, none⟩ x).setCell ⟨b + 1, 1, none⟩ y) b hb ob cp := by
  have e : ((w.setCell ⟨b + 1, 0, none⟩ x).setCell ⟨b + 1, 1, none⟩ y).heap[b]? = w.heap[b]? := by
    rw [Below.heap_setCell _ _ _ _ (show b ≠ b + 1 by omega), Below.heap_setCell _ _ _ _ (show b ≠ b + 1 by omega)]
  exact ⟨(World.cell?_of_block (w := w) e).trans h.1, (World.cell?_of_block (w := w) e).trans h.2⟩
section
variable {w0 w w' : World} {B : Bx} {hb ob cp b : Nat} {A : Nat → Option Addr} {c : Nat → Nat} {L : Nat → List Nat} {f : Nat → Int}
theorem Rx.blk {b' cap : Nat} {a : Addr} {A' : Option Addr} {xs : List Nat} (h : Rx w b' A' cap xs) (ha : A' = some a) : b' ≤ a.block := by
  subst ha
  rcases h.row.2 with ⟨h1, _⟩ | ⟨g, c', cur, h1, h2, _⟩
  · simp at h1
  · simp only [Value.slice.injEq, true_and, Option.some.injEq] at h1
    rw [h1.1]
    exact h2
set_option maxRecDepth 100000 in
set_option maxHeartbeats 4000000 in
theorem rpush_ok (x : Xr w B hb ob cp A c L) (hB : B.b ≤ w.heap.size ∧ B.t < w.heap.size) {i : Nat} (hi : i < 3) (h : Nat) (hh : h = hdN i) (n : Nat) (d : Bool) (ho : ow L n = 0) (h13 : (L h).length + 1 ≤ 14) :
    Calls Tryd.prog 15 #[xv hb ob cp, .int .i64 h, .int .i64 n, .bool d] w fun e w' => ∃ ob' cp' A1 c1, e = .returned (.tuple #[xv hb ob' cp', .int .i64 0]) ∧
      Xr w' B hb ob' cp' (upN A i A1) (upN c i c1) (upL L h (pushL d n (L h))) ∧ Below w.heap.size w w' ∧ w.heap.size ≤ ob' ∧ ∀ a, A1 = some a → w.heap.size ≤ a.block := by
  obtain ⟨w2, hw2⟩ : ∃ w2, w2 = (w.alloc (.cells #[.slice (some ⟨hb, 0, none⟩) 3 3, .slice (some ⟨ob, 0, none⟩) 3 cp] 29)).alloc (.cells #[.slice none 0 0, .slice none 0 0] 29) := ⟨_, rfl⟩
  obtain ⟨b, hbe⟩ : ∃ b, b = w.heap.size := ⟨_, rfl⟩
  have V1 : Hid (Vb w w2 B hb ob cp A c L b) := Lib.hid (by rw [hw2, hbe]; exact Vb.new x)
  obtain ⟨l, hl⟩ : ∃ l, l = L (hdN i) := ⟨_, rfl⟩
  obtain ⟨k, hk⟩ : ∃ k, k = l.length := ⟨_, rfl⟩
  have hkz := (x.cap i hi).2.1
  have SL : Hid (∀ w', Vb w w' B hb ob cp A c L b → Sx w' B (A i) l) := Lib.hid fun w' v => by rw [hl]; exact v.rb.xr.sx i hi
  have OF : Hid (∀ w', Vb w w' B hb ob cp A c L b → Calls Tryd.prog 34 #[.agg #[.slice (some ⟨hb, 0, none⟩) 3 3, .slice (some ⟨ob, 0, none⟩) 3 cp], .int .i64 h] w' fun e w'' => e = .returned (.slice (A i) k (c i)) ∧ Below w'.heap.size w' w'') := Lib.hid fun w' v => by
    have := rof_any v.rb.xr hi h hh
    rwa [← hl, ← hk] at this
  have WT : Hid (∀ W A' k' c' l', Vb w W B hb ob cp A c L b → Rx W w2.heap.size A' c' l' → l'.length = k' → k' ≤ 14 → Calls Tryd.prog 35 #[.agg #[.slice (some ⟨hb, 0, none⟩) 3 3, .slice (some ⟨ob, 0, none⟩) 3 cp], .int .i64 h, .slice A' k' c'] W fun e w'' => ∃ ob' cp', e = .returned (.agg #[.slice (some ⟨hb, 0, none⟩) 3 3, .slice (some ⟨ob', 0, none⟩) 3 cp']) ∧
      Xr w'' B hb ob' cp' (upN A i A') (upN c i c') (upL L h l') ∧ Below W.heap.size W w'' ∧ W.heap.size ≤ ob') := Lib.hid fun W A' k' c' l' v r hk' h14 => by
    have hs2 := V1.out.rb.fr.size
    have hsW := v.rb.fr.size
    have hsx : Sx W B A' l' := r.sx (fun k hk => ⟨by have := hB.1; omega, by have := hB.2; omega⟩)
    exact rwith_any v.rb.xr ⟨by have := hB.1; omega, by have := hB.2; omega⟩ hi h hh A' k' c' l' hsx hk' (by rw [← hk']; exact r.caps.1) r.caps.2.1 h14
  have OW : Hid (Calls Tryd.prog 33 #[.agg #[.slice (some ⟨hb, 0, none⟩) 3 3, .slice (some ⟨ob, 0, none⟩) 3 cp], .int .i64 n] w2 fun e w'' => e = .returned (.int .i64 0) ∧ Below w2.heap.size w2 w'') := Lib.hid (by
    have := rowner_any V1.out.rb.xr n
    rw [ho] at this
    exact this)
  have HH := Lib.hid hh
  have XW := Lib.hid x
  have HW := Lib.hid hw2
  have HBE := Lib.hid hbe
  have HK := Lib.hid hk
  have hk14 : k + 1 ≤ 14 := by rw [hk, hl, ← hh]; exact h13
  have HL : Hid (l = L h) := Lib.hid (by rw [hl, hh])
  have VC := V1
  obtain ⟨k0, k1⟩ := VC.out.rb.bx
  clear x hw2 hbe ho hl hk h13 hh
  unfold xv
  cases d with
  | true =>
    have PL : Hid ([n] ++ l = pushL true n (L h)) := Lib.hid (by rw [HL.out]; rfl)
    go_enter Tryd.func15, Tryd.ntmps15
    go_wp2_with fail
    rw [← HBE.out, ← HW.out]
    refine OW.out.mono ?_
    rintro e wd ⟨rfl, hbc⟩
    have h2x := Lib.hid hbc.size
    have VC := Lib.hid (VC.out.below hbc)
    clear hbc k0 k1
    obtain ⟨k0, k1⟩ := VC.out.rb.bx
    go_wp2_with (go_at_call 34; (with_reducible refine (OF.out _ VC.out).mono ?_); rintro e w3 ⟨rfl, hbc⟩; have h3x := Lib.hid (Nat.le_trans h2x.out hbc.size); have VC := Lib.hid (VC.out.below hbc); (try clear k0 k1); obtain ⟨k0, k1⟩ := VC.out.rb.bx; replace hbc := Lib.hid hbc)
    obtain ⟨k0, k1⟩ := VC.out.rb.bx
    have h3s : Hid (w2.heap.size ≤ w3.heap.size) := Lib.hid (by have := VC.out.rb.lt; exact h3x.out)
    have XC : Hid (Below w3.heap.size w3 w3) := Lib.hid (Below.refl _ _)
    have V3 := VC
    have KEEP : Hid (∀ W, Below w3.heap.size w3 W → X2 W b hb ob cp) := Lib.hid fun W hX => (V3.out.below hX).rb.bx
    have SS : Hid (∀ W x y, X2 W b hb ob cp → X2 ((W.setCell ⟨b + 1, 0, none⟩ x).setCell ⟨b + 1, 1, none⟩ y) b hb ob cp) := Lib.hid fun W x y h => x2_put h
    have SL3 := Lib.hid (SL.out _ VC.out)
    have LIT : Hid ((w3.alloc (.cells #[.int .i64 n] 3)).ownsRow w3.heap.size 3 1 (.slice (some ⟨w3.heap.size, 0, none⟩) 1 1) 1 (intx [n])) := Lib.hid (World.ownsRow_lit w3 #[.int .i64 n] 1 (Nat.le_refl _) (by decide) rfl)
    go_region_held_law (fun w' => X2 w' b hb ob cp) (first | (refine KEEP.out _ ?_; (repeat' (first | (with_reducible exact XC.out) | (with_reducible exact Below.refl _ _) | (refine Below.drew ?_) | (refine Below.alloc ?_ ?_ _) | (refine Below.setCell ?_ ?_ _))); all_goals (first | exact Nat.le_refl _ | exact XC.out.size | omega | (simp; done) | (simp; omega) | (have hs := XC.out.size; simp; omega)); done) | (refine SS.out _ _ _ ?_; refine KEEP.out _ ?_; (repeat' (first | (with_reducible exact XC.out) | (with_reducible exact Below.refl _ _) | (refine Below.drew ?_) | (refine Below.alloc ?_ ?_ _) | (refine Below.setCell ?_ ?_ _))); all_goals (first | exact Nat.le_refl _ | exact XC.out.size | omega | (simp; done) | (simp; omega) | (have hs := XC.out.size; simp; omega)); done) | go_keep) (first
      | (refine step_xapp (w := w3) rfl (.tmp 23) (.tmp 24) rfl B 1 k (c i) _ [n] l (A i) rfl LIT.out rfl (SL3.out.keep (Kx.below ?hb1)) HK.out.symm hkz (by omega) ?hb2 ?_
         case hb1 => ((repeat' (first | (with_reducible exact XC.out) | (with_reducible exact Below.refl _ _) | (refine Below.drew ?_) | (refine Below.alloc ?_ ?_ _) | (refine Below.setCell ?_ ?_ _))); all_goals (first | exact Nat.le_refl _ | exact XC.out.size | omega | (simp; done) | (simp; omega) | (have hs := XC.out.size; simp; omega)))
         case hb2 => ((repeat' (first | (with_reducible exact XC.out) | (with_reducible exact Below.refl _ _) | (refine Below.drew ?_) | (refine Below.alloc ?_ ?_ _) | (refine Below.setCell ?_ ?_ _))); all_goals (first | exact Nat.le_refl _ | exact XC.out.size | omega | (simp; done) | (simp; omega) | (have hs := XC.out.size; simp; omega)))
         intro v' w' hown hgrow hbel
         have XC := Lib.hid hbel
         obtain ⟨A5, cap5, rfl, hl5, hR5⟩ := Rx.of hown
         have R5 := Lib.hid (hR5.less h3s.out)
         obtain ⟨k5, hk5⟩ : ∃ k5, k5 = ([n] ++ l).length := ⟨_, rfl⟩
         have K5 := Lib.hid hk5.symm
         have H5 : Hid (k5 ≤ 14) := Lib.hid (by rw [hk5, ← hl5]; omega)
         rw [← hk5]
         replace hgrow := Lib.hid hgrow
         clear hown hl5 hR5 hbel hk5)
      | (go_at_call 35
         (with_reducible refine (WT.out _ A5 k5 cap5 _ (V3.out.below XC.out) R5.out K5.out H5.out).mono ?_)
         rintro e wd ⟨ob', cp', rfl, hx', hbc, hob⟩
         have OB := Lib.hid (Nat.le_trans (Nat.le_trans h3s.out XC.out.size) hob)
         have XC := Lib.hid (XC.out.trans (hbc.mono XC.out.size))
         obtain ⟨⟨r0, r1⟩, z0, z1⟩ := (V3.out.below XC.out).cells
         have XN := Lib.hid hx'
         replace hbc := Lib.hid hbc
         replace hob := Lib.hid hob
         clear hx'))
    all_goals
      go_wp2
      obtain ⟨hR, hF⟩ := (V3.out.below XC.out).put (by have := HBE.out; omega) (.slice (some ⟨hb, 0, none⟩) 3 3) (.slice (some ⟨ob', 0, none⟩) 3 cp')
      refine bodyPost_ret (resL2 rfl rfl hR) rfl ?_
      have hs2 := V1.out.rb.fr.size
      have hb2 := V1.out.rs.lt
      have hbw := HBE.out
      have hA5 : ∀ a, A5 = some a → w2.heap.size ≤ a.block := fun a ha => R5.out.blk ha
      have XF := XN.out.put2 ((XW.out.off (q := b + 1) (by omega)).up hi HH.out hb2 OB.out (fun a ha _ => hA5 a ha)) (.slice (some ⟨hb, 0, none⟩) 3 3) (.slice (some ⟨ob', 0, none⟩) 3 cp')
      exact ⟨ob', cp', A5, cap5, rfl, by rw [PL.out] at XF; exact XF, hF, by have := OB.out; omega, fun a ha => by have := hA5 a ha; omega⟩
  | false =>
    have PL : Hid ([] ++ l ++ [n] = pushL false n (L h)) := Lib.hid (by rw [HL.out]; rfl)
    go_enter Tryd.func15, Tryd.ntmps15
    go_wp2_with fail
    rw [← HBE.out, ← HW.out]
    refine OW.out.mono ?_
    rintro e wd ⟨rfl, hbc⟩
    have h2x := Lib.hid hbc.size
    have VC := Lib.hid (VC.out.below hbc)
    clear hbc k0 k1
    obtain ⟨k0, k1⟩ := VC.out.rb.bx
    go_wp2_with (go_at_call 34; (with_reducible refine (OF.out _ VC.out).mono ?_); rintro e w3 ⟨rfl, hbc⟩; have h3x := Lib.hid (Nat.le_trans h2x.out hbc.size); have VC := Lib.hid (VC.out.below hbc); (try clear k0 k1); obtain ⟨k0, k1⟩ := VC.out.rb.bx; replace hbc := Lib.hid hbc)
    obtain ⟨k0, k1⟩ := VC.out.rb.bx
    have h3s : Hid (w2.heap.size ≤ w3.heap.size) := Lib.hid (by have := VC.out.rb.lt; exact h3x.out)
    have XC : Hid (Below w3.heap.size w3 w3) := Lib.hid (Below.refl _ _)
    have V3 := VC
    have KEEP : Hid (∀ W, Below w3.heap.size w3 W → X2 W b hb ob cp) := Lib.hid fun W hX => (V3.out.below hX).rb.bx
    have SS : Hid (∀ W x y, X2 W b hb ob cp → X2 ((W.setCell ⟨b + 1, 0, none⟩ x).setCell ⟨b + 1, 1, none⟩ y) b hb ob cp) := Lib.hid fun W x y h => x2_put h
    have SL3 := Lib.hid (SL.out _ VC.out)
    have LIT0 : Hid ((w3.alloc (.cells #[] 3)).ownsRow w3.heap.size 3 1 (.slice (some ⟨w3.heap.size, 0, none⟩) 0 0) 0 (intx [])) := Lib.hid (World.ownsRow_lit w3 #[] 0 (Nat.le_refl _) (by decide) rfl)
    have LIT1 : Hid (((w3.alloc (.cells #[.int .i64 n] 3)).alloc (.cells #[] 3)).ownsRow w3.heap.size 3 1 (.slice (some ⟨w3.heap.size + 1, 0, none⟩) 0 0) 0 (intx [])) := Lib.hid (by
      have := World.ownsRow_lit (base := w3.heap.size) (e := 3) (size := 1) (w3.alloc (.cells #[.int .i64 n] 3)) #[] 0 (by simp) (by decide) rfl
      rw [show (w3.alloc (.cells #[.int .i64 n] 3)).heap.size = w3.heap.size + 1 by simp] at this
      exact this)
    have BN1 : Hid (Blk ((w3.alloc (.cells #[] 3)).alloc (.cells #[.int .i64 n] 3)) (w3.heap.size + 1) 3 #[.int .i64 n]) := Lib.hid (by
      have := Blk.new (w3.alloc (.cells #[] 3)) 3 #[.int .i64 n]
      simpa using this)
    have BN0 : Hid (Blk ((w3.alloc (.cells #[.int .i64 n] 3)).alloc (.cells #[] 3)) w3.heap.size 3 #[.int .i64 n]) := Lib.hid ((Blk.new w3 3 #[.int .i64 n]).alloc _)
    have N1 : Hid (some (w3.heap.size + 1) ≠ (Value.slice (some ⟨w3.heap.size, 0, none⟩) 0 0).ownBlock) := Lib.hid (by simp [Value.ownBlock])
    have N0 : Hid (some w3.heap.size ≠ (Value.slice (some ⟨w3.heap.size + 1, 0, none⟩) 0 0).ownBlock) := Lib.hid (by simp [Value.ownBlock])
    have S1 : Hid (∀ W q, Blk W q 3 #[.int .i64 n] → Sx W ⟨0, q + 1⟩ (some ⟨q, 0, none⟩) [n]) := Lib.hid fun W q hq j y hy => by
      match j, hy with
      | 0, hy =>
        have e : n = y := by simpa using hy
        subst e
        exact ⟨q, 0, rfl, ⟨Nat.zero_le _, by show q ≠ q + 1; omega⟩, hq.lt, hq.cell 0⟩
    go_region_held_law (fun w' => X2 w' b hb ob cp) (first | (refine KEEP.out _ ?_; (repeat' (first | (with_reducible exact XC.out) | (with_reducible exact Below.refl _ _) | (refine Below.drew ?_) | (refine Below.alloc ?_ ?_ _) | (refine Below.setCell ?_ ?_ _))); all_goals (first | exact Nat.le_refl _ | exact XC.out.size | omega | (simp; done) | (simp; omega) | (have hs := XC.out.size; simp; omega)); done) | (refine SS.out _ _ _ ?_; refine KEEP.out _ ?_; (repeat' (first | (with_reducible exact XC.out) | (with_reducible exact Below.refl _ _) | (refine Below.drew ?_) | (refine Below.alloc ?_ ?_ _) | (refine Below.setCell ?_ ?_ _))); all_goals (first | exact Nat.le_refl _ | exact XC.out.size | omega | (simp; done) | (simp; omega) | (have hs := XC.out.size; simp; omega)); done) | go_keep) (first
      | (refine step_xapp (w := w3) rfl (.tmp 29) (.tmp 30) rfl B 0 k (c i) _ [] l (A i) rfl ?ho rfl (SL3.out.keep (Kx.below ?hb1)) HK.out.symm hkz (by omega) ?hb2 ?_
         case ho => (first | exact LIT0.out | exact World.ownsRow.alloc LIT0.out _ | exact LIT1.out)
         case hb1 => ((repeat' (first | (with_reducible exact XC.out) | (with_reducible exact Below.refl _ _) | (refine Below.drew ?_) | (refine Below.alloc ?_ ?_ _) | (refine Below.setCell ?_ ?_ _))); all_goals (first | exact Nat.le_refl _ | exact XC.out.size | omega | (simp; done) | (simp; omega) | (have hs := XC.out.size; simp; omega)))
         case hb2 => ((repeat' (first | (with_reducible exact XC.out) | (with_reducible exact Below.refl _ _) | (refine Below.drew ?_) | (refine Below.alloc ?_ ?_ _) | (refine Below.setCell ?_ ?_ _))); all_goals (first | exact Nat.le_refl _ | exact XC.out.size | omega | (simp; done) | (simp; omega) | (have hs := XC.out.size; simp; omega)))
         intro v4 w4 hown hgrow hbel
         have XC := Lib.hid hbel
         (first
           | (have bn : Blk w4 (w3.heap.size + 1) 3 #[.int .i64 n] := (hgrow.block _ BN1.out.lt N1.out).trans BN1.out
              have BN := Lib.hid bn
              clear bn)
           | (have bn : Blk w4 w3.heap.size 3 #[.int .i64 n] := (hgrow.block _ BN0.out.lt N0.out).trans BN0.out
              have BN := Lib.hid bn
              clear bn)
           | skip)
         replace hgrow := Lib.hid hgrow
         have OW4 := Lib.hid hown
         clear hbel hown)
      | (refine step_xapp (w := w3) rfl (.tmp 31) (.tmp 33) rfl ⟨0, _⟩ (0 + k) 1 1 _ ([] ++ l) [n] (some ⟨_, 0, none⟩) rfl ?ho rfl (S1.out _ _ ?hb1) rfl (fun h => by cases h) (by omega) ?hb2 ?_
         case ho => (first | exact OW4.out | exact World.ownsRow.alloc OW4.out _)
         case hb1 => (first | exact Blk.new _ _ _ | exact BN.out)
         case hb2 => ((repeat' (first | (with_reducible exact XC.out) | (with_reducible exact Below.refl _ _) | (refine Below.drew ?_) | (refine Below.alloc ?_ ?_ _) | (refine Below.setCell ?_ ?_ _))); all_goals (first | exact Nat.le_refl _ | exact XC.out.size | omega | (simp; done) | (simp; omega) | (have hs := XC.out.size; simp; omega)))
         intro v' w' hown hgrow5 hbel
         have XC := Lib.hid hbel
         obtain ⟨A5, cap5, rfl, hl5, hR5⟩ := Rx.of hown
         have R5 := Lib.hid (hR5.less h3s.out)
         obtain ⟨k5, hk5⟩ : ∃ k5, k5 = (([] ++ l) ++ [n]).length := ⟨_, rfl⟩
         have K5 := Lib.hid hk5.symm
         have H5 : Hid (k5 ≤ 14) := Lib.hid (by rw [hk5, ← hl5]; omega)
         rw [← hk5]
         replace hgrow5 := Lib.hid hgrow5
         clear hown hl5 hR5 hbel hk5)
      | (go_at_call 35
         (with_reducible refine (WT.out _ A5 k5 cap5 _ (V3.out.below XC.out) R5.out K5.out H5.out).mono ?_)
         rintro e wd ⟨ob', cp', rfl, hx', hbc, hob⟩
         have OB := Lib.hid (Nat.le_trans (Nat.le_trans h3s.out XC.out.size) hob)
         have XC := Lib.hid (XC.out.trans (hbc.mono XC.out.size))
         obtain ⟨⟨r0, r1⟩, z0, z1⟩ := (V3.out.below XC.out).cells
         have XN := Lib.hid hx'
         replace hbc := Lib.hid hbc
         replace hob := Lib.hid hob
         clear hx'))
    all_goals
      go_wp2
      obtain ⟨hR, hF⟩ := (V3.out.below XC.out).put (by have := HBE.out; omega) (.slice (some ⟨hb, 0, none⟩) 3 3) (.slice (some ⟨ob', 0, none⟩) 3 cp')
      refine bodyPost_ret (resL2 rfl rfl hR) rfl ?_
      have hs2 := V1.out.rb.fr.size
      have hb2 := V1.out.rs.lt
      have hbw := HBE.out
      have hA5 : ∀ a, A5 = some a → w2.heap.size ≤ a.block := fun a ha => R5.out.blk ha
      have XF := XN.out.put2 ((XW.out.off (q := b + 1) (by omega)).up hi HH.out hb2 OB.out (fun a ha _ => hA5 a ha)) (.slice (some ⟨hb, 0, none⟩) 3 3) (.slice (some ⟨ob', 0, none⟩) 3 cp')
      exact ⟨ob', cp', A5, cap5, rfl, by rw [PL.out] at XF; exact XF, hF, by have := OB.out; omega, fun a ha => by have := hA5 a ha; omega⟩
end
end Go.Proofs.YthklbkgehfgdgaaDoor
