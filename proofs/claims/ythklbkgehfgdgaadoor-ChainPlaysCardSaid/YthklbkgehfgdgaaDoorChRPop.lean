/- The document's lists in memory: Pop, Make. No condition but that its blocks are known. -/
import Derived.Test.YthklbkgehfgdgaaDoorChRCut
import Derived.Deep.CutRange
namespace Go.Proofs.YthklbkgehfgdgaaDoor
open Go.RowKit

section
variable {w0 w w' : World} {B : Bx} {hb ob cp b : Nat} {A : Nat → Option Addr} {c : Nat → Nat} {L : Nat → List Nat} {f : Nat → Int}
set_option maxRecDepth 100000 in
theorem rpop_none (x : Xr w B hb ob cp A c L) (h : Nat) (hh : h ∈ H3) (d : Bool) (he : en L h d = 0) :
    Calls Tryd.prog 17 #[xv hb ob cp, .int .i64 h, .bool d] w fun e w' => e = .returned (.tuple #[xv hb ob cp, .int .i64 0, .int .i64 6]) ∧ Below w.heap.size w w' := by
  obtain ⟨w2, hw2⟩ : ∃ w2, w2 = (w.alloc (.cells #[.slice (some ⟨hb, 0, none⟩) 3 3, .slice (some ⟨ob, 0, none⟩) 3 cp] 29)).alloc (.cells #[.slice none 0 0, .slice none 0 0] 29) := ⟨_, rfl⟩
  obtain ⟨b, hbe⟩ : ∃ b, b = w.heap.size := ⟨_, rfl⟩
  have V1 : Hid (Vb w w2 B hb ob cp A c L b) := Lib.hid (by rw [hw2, hbe]; exact Vb.new x)
  have EN : Hid (Calls Tryd.prog 37 #[.agg #[.slice (some ⟨hb, 0, none⟩) 3 3, .slice (some ⟨ob, 0, none⟩) 3 cp], .int .i64 h, .bool d] w2 fun e w'' => e = .returned (.int .i64 0) ∧ Below w2.heap.size w2 w'') := Lib.hid (by
    have := rend_any V1.out.rb.xr h hh d
    rw [he] at this
    exact this)
  have HW := Lib.hid hw2
  have HBE := Lib.hid hbe
  have VC := V1
  obtain ⟨k0, k1⟩ := VC.out.rb.bx
  clear x hw2 hbe hh he
  unfold xv
  go_enter Tryd.func17, Tryd.ntmps17
  go_wp2_with fail
  rw [← HBE.out, ← HW.out]
  refine EN.out.mono ?_
  rintro e w3 ⟨rfl, hbc⟩
  have VC := Lib.hid (VC.out.below hbc)
  clear hbc k0 k1
  obtain ⟨k0, k1⟩ := VC.out.rb.bx
  obtain ⟨⟨r0, r1⟩, z0, z1⟩ := VC.out.cells
  go_wp2
  obtain ⟨hR, hF⟩ := VC.out.put (by have := HBE.out; omega) (.slice (some ⟨hb, 0, none⟩) 3 3) (.slice (some ⟨ob, 0, none⟩) 3 cp)
  refine bodyPost_ret (resL3 rfl rfl hR) rfl ?_
  exact ⟨rfl, hF⟩
set_option maxRecDepth 100000 in
set_option maxHeartbeats 4000000 in
theorem rpop_ok (x : Xr w B hb ob cp A c L) (hB : B.b ≤ w.heap.size ∧ B.t < w.heap.size) {i : Nat} (hi : i < 3) (h : Nat) (hh : h = hdN i) (d : Bool) (y : Nat) (he : en L h d = y) (hy : y ≠ 0) :
    Calls Tryd.prog 17 #[xv hb ob cp, .int .i64 h, .bool d] w fun e w' => ∃ ob' cp' A1 c1, e = .returned (.tuple #[xv hb ob' cp', .int .i64 (y : Nat), .int .i64 0]) ∧
      Xr w' B hb ob' cp' (upN A i A1) (upN c i c1) (upL L h ((L h).erase y)) ∧ Below w.heap.size w w' ∧ w.heap.size ≤ ob' ∧ ∀ a, A1 = some a → w.heap.size ≤ a.block := by
  obtain ⟨w2, hw2⟩ : ∃ w2, w2 = (w.alloc (.cells #[.slice (some ⟨hb, 0, none⟩) 3 3, .slice (some ⟨ob, 0, none⟩) 3 cp] 29)).alloc (.cells #[.slice none 0 0, .slice none 0 0] 29) := ⟨_, rfl⟩
  obtain ⟨b, hbe⟩ : ∃ b, b = w.heap.size := ⟨_, rfl⟩
  have V1 : Hid (Vb w w2 B hb ob cp A c L b) := Lib.hid (by rw [hw2, hbe]; exact Vb.new x)
  have hm : y ∈ L h := by rw [← he]; exact en_mem L h d (by rw [he]; exact hy)
  have EN : Hid (Calls Tryd.prog 37 #[.agg #[.slice (some ⟨hb, 0, none⟩) 3 3, .slice (some ⟨ob, 0, none⟩) 3 cp], .int .i64 h, .bool d] w2 fun e w'' => e = .returned (.int .i64 (y : Nat)) ∧ Below w2.heap.size w2 w'') := Lib.hid (by
    have := rend_any V1.out.rb.xr h (hh ▸ hdN_in i) d
    rwa [he] at this)
  have RM : Hid (∀ W, Vb w W B hb ob cp A c L b → Calls Tryd.prog 19 #[.agg #[.slice (some ⟨hb, 0, none⟩) 3 3, .slice (some ⟨ob, 0, none⟩) 3 cp], .int .i64 h, .int .i64 y] W fun e w' => ∃ ob' cp' A1 c1, e = .returned (.tuple #[.agg #[.slice (some ⟨hb, 0, none⟩) 3 3, .slice (some ⟨ob', 0, none⟩) 3 cp'], .int .i64 0]) ∧
      Xr w' B hb ob' cp' (upN A i A1) (upN c i c1) (upL L h ((L h).erase y)) ∧ Below W.heap.size W w' ∧ W.heap.size ≤ ob' ∧ ∀ a, A1 = some a → W.heap.size ≤ a.block) := Lib.hid fun W v => by
    have hs := v.rb.fr.size
    exact rremove_ok v.rb.xr ⟨by have := hB.1; omega, by have := hB.2; omega⟩ hi h hh y hm
  have HH := Lib.hid hh
  have XW := Lib.hid x
  have HW := Lib.hid hw2
  have HBE := Lib.hid hbe
  have hyi : ¬ (y : Int) = 0 := by omega
  have VC := V1
  obtain ⟨k0, k1⟩ := VC.out.rb.bx
  clear x hw2 hbe hh he hy hm
  unfold xv
  go_enter Tryd.func17, Tryd.ntmps17
  go_wp2_with fail
  rw [← HBE.out, ← HW.out]
  refine EN.out.mono ?_
  rintro e w3 ⟨rfl, hbc⟩
  have h3s := Lib.hid hbc.size
  have VC := Lib.hid (VC.out.below hbc)
  clear hbc k0 k1
  obtain ⟨k0, k1⟩ := VC.out.rb.bx
  go_wp2_with fail
  refine (RM.out _ VC.out).mono ?_
  rintro e wd ⟨ob', cp', A1, c1, rfl, hx', hbc, hob, hA1⟩
  have VD := Lib.hid (VC.out.below hbc)
  have XN := Lib.hid hx'
  have OB := Lib.hid hob
  have HA1 := Lib.hid hA1
  clear hbc hx' hob hA1 k0 k1
  have r0 : ∀ o, (wd.alloc o).cell? ⟨b + 1, 0, none⟩ = some (.slice none 0 0) := fun o => ((VD.out.below (below_one wd o)).cells).1.1
  have r1 : ∀ o, (wd.alloc o).cell? ⟨b + 1, 1, none⟩ = some (.slice none 0 0) := fun o => ((VD.out.below (below_one wd o)).cells).1.2
  have z0 : ∀ o, (wd.alloc o).frozen? ⟨b + 1, 0, none⟩ = false := fun o => ((VD.out.below (below_one wd o)).cells).2.1
  have z1 : ∀ o, (wd.alloc o).frozen? ⟨b + 1, 1, none⟩ = false := fun o => ((VD.out.below (below_one wd o)).cells).2.2
  have ne1 : ¬ b + 1 = wd.heap.size := by have := VD.out.rs.lt; omega
  go_wp2
  obtain ⟨hR, hF⟩ := (VD.out.below (below_one wd (.cells #[.slice (some ⟨hb, 0, none⟩) 3 3, .slice (some ⟨ob', 0, none⟩) 3 cp'] 29))).put (by have := HBE.out; omega) (.slice (some ⟨hb, 0, none⟩) 3 3) (.slice (some ⟨ob', 0, none⟩) 3 cp')
  refine bodyPost_ret (resL3 rfl rfl hR) rfl ?_
  have hs2 := V1.out.rb.fr.size
  have hb2 := V1.out.rs.lt
  have hs3 := h3s.out
  have hbw := HBE.out
  have XF := (XN.out.below (below_one wd (.cells #[.slice (some ⟨hb, 0, none⟩) 3 3, .slice (some ⟨ob', 0, none⟩) 3 cp'] 29))).put2 ((XW.out.off (q := b + 1) (by omega)).up hi HH.out (Nat.lt_of_lt_of_le hb2 hs3) OB.out (fun a ha _ => HA1.out a ha)) (.slice (some ⟨hb, 0, none⟩) 3 3) (.slice (some ⟨ob', 0, none⟩) 3 cp')
  exact ⟨ob', cp', A1, c1, rfl, XF, hF, by have := OB.out; omega, fun a ha => by have := HA1.out a ha; omega⟩
theorem run_make3 (w : World) : (Instr.makeSlice 27 (.int .i64 3) (.int .i64 3)).run Tryd.prog w = .ok (.slice (some ⟨w.heap.size, 0, none⟩) 3 3) (w.alloc (.cells #[.slice none 0 0, .slice none 0 0, .slice none 0 0] 26)) := by
  obtain ⟨i0, hi, hz0, hz1, hz2⟩ := info_parts rowInfo
  have h := run_make (P := Tryd.prog) w 27 26 i0 (.slice none 0 0) Tryd.underlying27 hi hz0 .i64 .i64 3 3 (by omega) (by omega) (by rw [hz2]; decide) (by omega)
  rw [h, hz1]
  have e : madeCells (Value.cells (.slice none 0 0)) ((3 : Int).toNat * 1) = #[.slice none 0 0, .slice none 0 0, .slice none 0 0] := by
    have hv : Value.cells (.slice none 0 0) = #[.slice none 0 0] := rfl
    rw [hv]
    apply Array.ext'
    rw [toList_madeCells_one]
    rfl
  rw [e]
  rfl
set_option maxRecDepth 100000 in
theorem rmake_any (hB : B.b ≤ w.heap.size ∧ B.t < w.heap.size) (h1 : B.b ≤ hb ∧ hb ≠ B.t) (h2 : hb < w.heap.size) (h3 : ∀ i, i < 3 → w.cell? ⟨hb, i, none⟩ = some (.int .i64 (hdN i : Nat))) :
    Calls Tryd.prog 11 #[.slice (some ⟨hb, 0, none⟩) 3 3] w fun e w' => ∃ ob, e = .returned (xv hb ob 3) ∧ Xr w' B hb ob 3 (fun _ => none) (fun _ => 0) (fun _ => []) ∧ Below w.heap.size w w' := by
  obtain ⟨w1, hw1⟩ : ∃ w1, w1 = w.alloc (.cells #[.slice none 0 0, .slice none 0 0] 29) := ⟨_, rfl⟩
  have hb1 : Below w.heap.size w w1 := by rw [hw1]; exact below_one w _
  have s1 : w1.heap.size = w.heap.size + 1 := by rw [hw1]; simp
  have br : Blk w1 w.heap.size 29 #[.slice none 0 0, .slice none 0 0] := by rw [hw1]; exact Blk.new _ _ _
  have hmk := run_make3 w1
  obtain ⟨w2, hw2⟩ : ∃ w2, w2 = w1.alloc (.cells #[.slice none 0 0, .slice none 0 0, .slice none 0 0] 26) := ⟨_, rfl⟩
  have hb2 : Below w1.heap.size w1 w2 := by rw [hw2]; exact below_one w1 _
  have bm : Blk w2 w1.heap.size 26 #[.slice none 0 0, .slice none 0 0, .slice none 0 0] := by rw [hw2]; exact Blk.new _ _ _
  rw [← hw2] at hmk
  have br2 := br.below hb2 br.lt
  have r0 : w2.cell? ⟨w.heap.size, 0, none⟩ = some (.slice none 0 0) := br2.cell 0
  have r1 : w2.cell? ⟨w.heap.size, 1, none⟩ = some (.slice none 0 0) := br2.cell 1
  have z0 := br2.frozen 0
  have z1 := br2.frozen 1
  have HW1 := Lib.hid hw1
  have HB1 := Lib.hid hb1
  have HB2 := Lib.hid hb2
  have BM := Lib.hid bm
  have BR := Lib.hid br2
  have S1 := Lib.hid s1
  have H3 := Lib.hid h3
  obtain ⟨q, hq⟩ : ∃ q, q = w1.heap.size := ⟨_, rfl⟩
  rw [← hq] at BM hmk
  have HQ := Lib.hid hq
  clear hw1 hb1 hw2 hb2 bm br br2 s1 h3 hq
  go_enter Tryd.func11, Tryd.ntmps11
  go_upto_region 1 with fail
  rw [← HW1.out]
  go_wp2
  have hR : Blk ((w2.setCell ⟨w.heap.size, 0, none⟩ (.slice (some ⟨hb, 0, none⟩) 3 3)).setCell ⟨w.heap.size, 1, none⟩ (.slice (some ⟨q, 0, none⟩) 3 3)) w.heap.size 29 #[.slice (some ⟨hb, 0, none⟩) 3 3, .slice (some ⟨q, 0, none⟩) 3 3] := (BR.out.put 0 _).put 1 _
  refine bodyPost_ret (resL1 rfl rfl hR) rfl ?_
  have hF : Below w.heap.size w ((w2.setCell ⟨w.heap.size, 0, none⟩ (.slice (some ⟨hb, 0, none⟩) 3 3)).setCell ⟨w.heap.size, 1, none⟩ (.slice (some ⟨q, 0, none⟩) 3 3)) :=
    ((HB1.out.trans (HB2.out.mono HB1.out.size)).setCell (p := ⟨w.heap.size, 0, none⟩) (Nat.le_refl _) _).setCell (p := ⟨w.heap.size, 1, none⟩) (Nat.le_refl _) _
  have hqs : q = w.heap.size + 1 := by rw [HQ.out, S1.out]
  have hM : Blk ((w2.setCell ⟨w.heap.size, 0, none⟩ (.slice (some ⟨hb, 0, none⟩) 3 3)).setCell ⟨w.heap.size, 1, none⟩ (.slice (some ⟨q, 0, none⟩) 3 3)) q 26 #[.slice none 0 0, .slice none 0 0, .slice none 0 0] :=
    (BM.out.only (Only.setCell w2 ⟨w.heap.size, 0, none⟩ _) (by show q ≠ w.heap.size; omega)).only (Only.setCell _ ⟨w.heap.size, 1, none⟩ _) (by show q ≠ w.heap.size; omega)
  refine ⟨q, rfl, ⟨h1, Nat.lt_of_lt_of_le h2 hF.size, fun i hi => (hF.cell (p := ⟨hb, i, none⟩) h2).trans (H3.out i hi), ⟨by have := hB.1; omega, by have := hB.2; omega⟩, hM.lt, fun i hi => ?_, fun i hi => Sx.nil _ _ _, fun i hi => ⟨Nat.le_refl _, fun _ => rfl, by decide⟩, Nat.le_refl _⟩, hF⟩
  have hi3 : i = 0 ∨ i = 1 ∨ i = 2 := by omega
  rw [hM.cell i]
  rcases hi3 with rfl | rfl | rfl <;> rfl
end
end Go.Proofs.YthklbkgehfgdgaaDoor
